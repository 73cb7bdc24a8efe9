import PyProof.Rows.All
import Wide.All
import OpenK.AllK
import Wide.FinOn
import Lean
import PyProof.EqAt
import PyProof.EqKinds
import PyProof.TupleCall
import PyProof.ZipIter
import PyProof.LayNew
import PyProof.Rows.ZipGen
import PyProof.Rows.FactsT2
import KE.KMinKey
import PyProof.FString5
import PyProof.SliceStr2
import PyProof.EnumFor
import PyProof.EnumStmt
import PyProof.EnumMake
import PyProof.StrLoop
import PyProof.StrWalks
import PyProof.Rows.EnumRows
import KE.KDictList
import KE.KEqDict
import PyProof.StrOps2
import PySem.Challenge.RW_gavelhall_k32_names_refused
set_option genSizeOf false
set_option Elab.async false
set_option linter.all false
set_option maxRecDepth 100000
/-! THE HAND LAYER, for ints, bools, texts, own classes, LISTS and tuples (index, slices, in, append, pop ..), calls, loops. Paste it whole ahead of your own text; what your proof does not reach may be deleted. -/
namespace L2
open PySem PySem.Spec PyProof.Rows

/-- a key: an int or a str -/
noncomputable abbrev Key := Sum Int Str
noncomputable def keyIs : Key → Value → Bool
  | .inl k, v => Value.isInt k v
  | .inr x, v => Value.isStrOf x v
noncomputable def keyH (w : World) : Key → Int
  | .inl k => hashInt k
  | .inr x => hashStr w x
theorem keyIs_shape : ∀ {k : Key} {v : Value}, keyIs k v = true → (∃ i t, k = Sum.inl i ∧ v = Value.int i t) ∨ (∃ x t, k = Sum.inr x ∧ v = Value.str x t)
  | .inl i, v, h => by
    obtain ⟨t, e⟩ := Value.isInt_shape (k := i) (v := v) h
    exact .inl ⟨i, t, rfl, e⟩
  | .inr x, v, h => by
    obtain ⟨t, e⟩ := Value.isStrOf_shape (x := x) (v := v) h
    exact .inr ⟨x, t, rfl, e⟩
theorem keyIs_int (i : Int) (t : Tok) : keyIs (.inl i) (.int i t) = true := by simp [keyIs, Value.isInt]
theorem keyIs_str (x : Str) (t : Tok) : keyIs (.inr x) (.str x t) = true := by simp [keyIs, Value.isStrOf]
theorem key_ll (a b : Int) : decide ((Sum.inl a : Key) = Sum.inl b) = (a == b) := by
  by_cases e : a = b
  · subst e; simp
  · have h : ¬ (Sum.inl a : Key) = Sum.inl b := fun q => e (Sum.inl.inj q)
    rw [decide_eq_false h]
    exact (beq_eq_false_iff_ne.mpr e).symm
theorem key_rr (a b : Str) : decide ((Sum.inr a : Key) = Sum.inr b) = decide (a = b) := by
  by_cases e : a = b
  · subst e; simp
  · have h : ¬ (Sum.inr a : Key) = Sum.inr b := fun q => e (Sum.inr.inj q)
    rw [decide_eq_false h, decide_eq_false e]
theorem key_lr (a : Int) (b : Str) : decide ((Sum.inl a : Key) = Sum.inr b) = false := decide_eq_false (fun q => nomatch q)
theorem key_rl (a : Str) (b : Int) : decide ((Sum.inr a : Key) = Sum.inl b) = false := decide_eq_false (fun q => nomatch q)

noncomputable def mixKind (prog : Program) (w : World) : PySem.KeyKind prog w Key where
  is := keyIs
  hash := keyH w
  inj := fun v a b ha hb => by
    rcases keyIs_shape ha with ⟨i, t, rfl, rfl⟩ | ⟨x, t, rfl, rfl⟩
    · rcases keyIs_shape hb with ⟨j, u, rfl, e⟩ | ⟨y, u, rfl, e⟩
      · injection e with e1 _; rw [e1]
      · exact nomatch e
    · rcases keyIs_shape hb with ⟨j, u, rfl, e⟩ | ⟨y, u, rfl, e⟩
      · exact nomatch e
      · injection e with e1 _; rw [e1]
  byValue := fun k v h => by
    rcases keyIs_shape h with ⟨i, t, rfl, rfl⟩ | ⟨x, t, rfl, rfl⟩ <;> rfl
  pyHash := fun hv h => by
    rcases keyIs_shape hv with ⟨i, t, rfl, rfl⟩ | ⟨x, t, rfl, rfl⟩
    · exact wpAny_pyHash_int h
    · exact wpAny_pyHash_str h
  eqBool := fun hu hv h => by
    rcases keyIs_shape hu with ⟨i, t, rfl, rfl⟩ | ⟨x, t, rfl, rfl⟩
    · rcases keyIs_shape hv with ⟨j, u, rfl, rfl⟩ | ⟨y, u, rfl, rfl⟩
      · rw [key_ll] at h; exact wpAny_eqBool_int h
      · rw [key_lr] at h; exact SeqAt.EqAt.int_str i t y u _ _ _ _ h
    · rcases keyIs_shape hv with ⟨j, u, rfl, rfl⟩ | ⟨y, u, rfl, rfl⟩
      · rw [key_rl] at h; exact SeqAt.EqAt.str_int x t j u _ _ _ _ h
      · rw [key_rr] at h; exact wpAny_eqBool_str h
  «strs» := fun k x t v h => by
    rcases keyIs_shape h with ⟨i, u, rfl, e⟩ | ⟨y, u, rfl, e⟩
    · exact nomatch e
    · injection e with e1 _
      subst e1
      cases v <;> rfl

theorem mixKind_int (prog : Program) (w : World) (i : Int) (t : Tok) : (mixKind prog w).is (.inl i) (.int i t) = true := keyIs_int i t
theorem mixKind_str (prog : Program) (w : World) (x : Str) (t : Tok) : (mixKind prog w).is (.inr x) (.str x t) = true := keyIs_str x t
end L2

namespace L2
open PySem PySem.Spec PyProof.Rows

/-- a value, without the heap -/
inductive V where
  | non | bl (b : Bool) | int (i : Int) | str (x : Str) | byt (b : Array UInt8) | flt (b : UInt64) | ref (a : Addr) | ty (n : String)
  deriving DecidableEq

noncomputable def RelV : V → Value → Prop
  | .non, u => u = Value.none
  | .bl b, u => u = Value.bool b
  | .int i, u => ∃ t, u = Value.int i t
  | .str x, u => ∃ t, u = Value.str x t
  | .byt b, u => ∃ t, u = Value.bytes b t
  | .flt b, u => ∃ t, u = Value.float b t
  | .ref a, u => u = Value.ref a
  | .ty n, u => u = Value.type n

noncomputable abbrev Vals : List V → List Value → Prop := Paired RelV
theorem Vals.length {xs : List V} {us : List Value} (r : Vals xs us) : xs.length = us.length := Paired.length r
theorem Vals.get : ∀ {xs : List V} {us : List Value} {i : Nat} {x : V}, Vals xs us → xs[i]? = some x → ∃ u, us[i]? = some u ∧ RelV x u
  | _, _, _, _, .nil, e => by simp at e
  | _, _, 0, _, .cons r _, e => by simp at e; subst e; exact ⟨_, rfl, r⟩
  | _, _, i + 1, x, .cons _ t, e => by
    obtain ⟨u, h1, h2⟩ := Vals.get (i := i) (x := x) t (by simpa using e)
    exact ⟨u, by simpa using h1, h2⟩
theorem Vals.set {x : V} {u : Value} (r : RelV x u) : ∀ {xs : List V} {us : List Value} (i : Nat), Vals xs us → Vals (xs.set i x) (us.set i u)
  | _, _, _, .nil => .nil
  | _, _, 0, .cons _ t => .cons r t
  | _, _, i + 1, .cons q t => .cons q (Vals.set r i t)
theorem Vals.append : ∀ {xs ys : List V} {us ws : List Value}, Vals xs us → Vals ys ws → Vals (xs ++ ys) (us ++ ws)
  | _, _, _, _, .nil, s => s
  | _, _, _, _, .cons r t, s => .cons r (Vals.append t s)
theorem Vals.take : ∀ {xs : List V} {us : List Value} (n : Nat), Vals xs us → Vals (xs.take n) (us.take n)
  | _, _, 0, _ => .nil
  | _, _, _ + 1, .nil => .nil
  | _, _, n + 1, .cons r t => .cons r (Vals.take n t)
theorem Vals.drop : ∀ {xs : List V} {us : List Value} (n : Nat), Vals xs us → Vals (xs.drop n) (us.drop n)
  | _, _, 0, r => r
  | _, _, _ + 1, .nil => .nil
  | _, _, n + 1, .cons _ t => Vals.drop n t

noncomputable def RelO : Option V → Option Value → Prop
  | some v, some u => RelV v u
  | none, none => True
  | _, _ => False
noncomputable def KV {κ : Type} : List (κ × V) → List (κ × Value) → Prop := Paired fun (p : κ × V) (q : κ × Value) => p.1 = q.1 ∧ RelV p.2 q.2

/-- a key of a dict (00_mix): an int or a text -/
noncomputable def kV : Key → V
  | .inl i => .int i
  | .inr x => .str x

/-- what stands at a tracked address -/
inductive HO where
  /-- a list -/
  | lst (xs : List V)
  /-- a tuple (never changes) -/
  | tup (xs : List V)
  /-- a dict whose keys are ints and texts; one whose keys are tuples of ints and texts (the empty one is both) -/
  | dK (kvs : List (Key × V)) | dT (kvs : List (List Key × V))
  /-- a set of ints: its members, its size -/
  | set (S : Int → Bool) (n : Nat)
  /-- an instance of the class at C, its dict at dx, its attributes -/
  | ins (C dx : Addr) (fs : List (Str × V))
  /-- the dict of the instance at x -/
  | own (x : Addr)
  /-- the dict of an exception -/
  | xd (fs : List (Str × V))
  /-- a bound method, f of x -/
  | met (f x : Addr)
  /-- a range object lo, lo + 1, .. below hi -/
  | rng (lo hi : Int)
  /-- a thing that is known to the object (the script; a dict while a loop walks it): read, never written while it is so -/
  | frz (o : Obj) (u : HO)
  /-- a code object's table -/
  | tbl (ps : Array Value)
  /-- any other thing, by what is true of its one object (a def of one's own: SetO a S n := HO.ext fun h => ..) -/
  | ext (φ : Heap → Prop)

noncomputable abbrev Hp := Addr → Option HO
noncomputable def upd (H : Hp) (a : Addr) (o : HO) : Hp := fun b => if b = a then some o else H b
theorem upd_same {H : Hp} {a : Addr} {o : HO} : upd H a o a = some o := by unfold upd; rw [if_pos rfl]
theorem upd_ne {H : Hp} {a b : Addr} {o : HO} (h : b ≠ a) : upd H a o b = H b := by unfold upd; rw [if_neg h]
/-- two objects of different content stand apart -/
theorem ne_of {H : Hp} {a b : Addr} {o u : HO} (h : H a = some o) (h' : H b = some u) (d : o ≠ u) : a ≠ b := by
  intro e; subst e; rw [h] at h'; exact d (Option.some.inj h')
theorem ne_of_none {H : Hp} {a b : Addr} {o : HO} (h : H a = some o) (h' : H b = none) : a ≠ b := by
  intro e; subst e; rw [h] at h'; cases h'

section
variable (P : Program) (w : World)
noncomputable def ObjOk (H : Hp) (h : Heap) (a : Addr) : HO → Prop
  | .lst xs => xs.length ≤ sizeLine ∧ ∃ (its : List Value) (n : Nat), Vals xs its ∧ h.get? a = some { cls := .type "list", data := .seq its.toArray n }
  | .tup xs => xs.length ≤ sizeLine ∧ ∃ its : List Value, Vals xs its ∧ IsTup h a its.toArray
  | .dK kvs => kvs.length ≤ sizeLine ∧ (a == sysModules) = false ∧ ∃ vs, KV kvs vs ∧ h.DictOf (mixKind P w) a vs
  | .dT kvs => kvs.length ≤ sizeLine ∧ (a == sysModules) = false ∧ ∃ xs : List (List Key × Addr × Value),
      Paired (fun (p : List Key × V) (q : List Key × Addr × Value) => p.1 = q.1 ∧ H q.2.1 = some (.tup (p.1.map kV)) ∧ RelV p.2 q.2.2) kvs xs ∧
      ∃ o es ep, h.get? a = some o ∧ o.ExactDict ∧ o.data = .dict es ep ∧ es.toList = xs.map (entryOfKey (tupleKind (mixKind P w))) ∧ (xs.map (·.1)).Nodup
  | .set S n => h.SetOf (intKind P w) a S n
  | .ins C dx fs => H dx = some (.own a) ∧ fs.length ≤ 1000 ∧ dx ≠ a ∧ h.get? a = some (PySem.W.instObj C dx) ∧
      ∃ mA, h.Ns1 dx mA ∧ (∀ f, RelO (fs.lookup f) (mA f)) ∧ PySem.Within mA (fs.map (·.1))
  | .own _ => ∃ o, h.get? a = some o
  | .xd fs => ∃ mA, h.Ns1 a mA ∧ ∀ f, RelO (fs.lookup f) (mA f)
  | .rng lo hi => ∃ t u v, h.get? a = some { cls := .type "range", data := .fields #[.int lo t, .int hi u, .int 1 v] }
  | .frz o u => h.get? a = some o ∧ ObjOk H h a u
  | .tbl ps => h.get? a = some { cls := .none, data := .fields ps }
  | .met f x => h.get? a = some (PySem.W.methodObj (.ref f) (.ref x))
  | .ext φ => φ h ∧ (∃ o, h.get? a = some o) ∧ ∀ h1 h2 : Heap, φ h1 → (∀ o, h1.get? a = some o → h2.get? a = some o) → φ h2
/-- the abstract heap is held -/
noncomputable def HOk (H : Hp) (h : Heap) : Prop := ∀ a o, H a = some o → ObjOk P w H h a o
end

section
variable {P : Program} {w : World} {H H' : Hp} {h h' : Heap} {a : Addr} {o : HO}
theorem ObjOk.lt (x : ObjOk P w H h a o) : a < h.objs.size := by
  cases o with
  | lst xs => obtain ⟨_, _, _, _, e⟩ := x; exact Heap.lt_size e
  | tup xs => obtain ⟨_, _, _, p⟩ := x; exact p.lt
  | dK kvs => obtain ⟨_, _, _, _, o, _, _, e, _⟩ := x; exact Heap.lt_size e
  | dT kvs => obtain ⟨_, _, _, _, o, _, _, e, _⟩ := x; exact Heap.lt_size e
  | set S n => obtain ⟨o, _, _, _, e, _⟩ := x; exact Heap.lt_size e
  | ins C dx fs => obtain ⟨_, _, _, e, _⟩ := x; exact Heap.lt_size e
  | own y => obtain ⟨_, e⟩ := x; exact Heap.lt_size e
  | xd fs => obtain ⟨_, ⟨_, _, _, e, _⟩, _⟩ := x; exact Heap.lt_size e
  | rng lo hi => obtain ⟨_, _, _, e⟩ := x; exact Heap.lt_size e
  | frz ob u => obtain ⟨e, _⟩ := x; exact Heap.lt_size e
  | tbl ps => exact Heap.lt_size (show h.get? a = some _ from x)
  | met f y => exact Heap.lt_size (show h.get? a = some _ from x)
  | ext φ => obtain ⟨_, ⟨_, e⟩, _⟩ := x; exact Heap.lt_size e
theorem Paired.mapP {α β : Type} {F G : α → β → Prop} : ∀ {l₁ : List α} {l₂ : List β}, Paired F l₁ l₂ → (∀ a b, F a b → G a b) → Paired G l₁ l₂
  | _, _, .nil, _ => .nil
  | _, _, .cons r t, f => .cons (f _ _ r) (Paired.mapP t f)
/-- what an object's description leans on: its own object, its own dict, the tuples -/
theorem ObjOk.stay (x : ObjOk P w H h a o) (k : ∀ b u, (b = a ∨ H b = some (.own a)) → h.get? b = some u → h'.get? b = some u)
    (ho : ∀ b, H b = some (.own a) → H' b = some (.own a)) (ht : ∀ b xs, H b = some (.tup xs) → H' b = some (.tup xs)) : ObjOk P w H' h' a o := by
  induction o with
  | lst xs => obtain ⟨z, its, n, r, e⟩ := x; exact ⟨z, its, n, r, k _ _ (.inl rfl) e⟩
  | tup xs => obtain ⟨z, its, r, ob, e, c⟩ := x; exact ⟨z, its, r, ob, k _ _ (.inl rfl) e, c⟩
  | dK kvs => obtain ⟨z, y, vs, r, ob, es, ep, e, c⟩ := x; exact ⟨z, y, vs, r, ob, es, ep, k _ _ (.inl rfl) e, c⟩
  | dT kvs =>
    obtain ⟨z, y, xs, r, ob, es, ep, e, c⟩ := x
    exact ⟨z, y, xs, Paired.mapP r fun p q z => ⟨z.1, ht _ _ z.2.1, z.2.2⟩, ob, es, ep, k _ _ (.inl rfl) e, c⟩
  | set S n => obtain ⟨ob, es, ep, t, e, c⟩ := x; exact ⟨ob, es, ep, t, k _ _ (.inl rfl) e, c⟩
  | ins C dx fs =>
    obtain ⟨d, z, ne, e, mA, ⟨od, es, ep, e2, c⟩, r⟩ := x
    exact ⟨ho _ d, z, ne, k _ _ (.inl rfl) e, mA, ⟨od, es, ep, k _ _ (.inr d) e2, c⟩, r⟩
  | own y => obtain ⟨ob, e⟩ := x; exact ⟨ob, k _ _ (.inl rfl) e⟩
  | xd fs => obtain ⟨mA, ⟨od, es, ep, e, c⟩, r⟩ := x; exact ⟨mA, ⟨od, es, ep, k _ _ (.inl rfl) e, c⟩, r⟩
  | rng lo hi => obtain ⟨t, u, v, e⟩ := x; exact ⟨t, u, v, k _ _ (.inl rfl) e⟩
  | frz ob u ih => obtain ⟨e, q⟩ := x; exact ⟨k _ _ (.inl rfl) e, ih q⟩
  | tbl ps =>
    have e : h.get? a = some { cls := .none, data := .fields ps } := x
    show h'.get? a = some { cls := .none, data := .fields ps }
    exact k a _ (.inl rfl) e
  | met f y =>
    have e : h.get? a = some (PySem.W.methodObj (.ref f) (.ref y)) := x
    show h'.get? a = some (PySem.W.methodObj (.ref f) (.ref y))
    exact k a _ (.inl rfl) e
  | ext φ => obtain ⟨p, ⟨o, e⟩, st⟩ := x; exact ⟨st _ _ p fun o q => k _ _ (.inl rfl) q, ⟨o, k _ _ (.inl rfl) e⟩, st⟩
theorem HOk.lt (x : HOk P w H h) (e : H a = some o) : a < h.objs.size := (x a o e).lt
theorem HOk.fresh (x : HOk P w H h) (e : h.objs.size ≤ a) : H a = none := by
  cases q : H a with
  | none => rfl
  | some u => exact absurd (Nat.lt_of_lt_of_le (x.lt q) e) (Nat.lt_irrefl _)
/-- every object of the heap is kept -/
theorem HOk.kept (x : HOk P w H h) (k : ∀ b u, h.get? b = some u → h'.get? b = some u) : HOk P w H h' := fun a o e =>
  (x a o e).stay (fun b u _ q => k b u q) (fun _ q => q) fun _ _ q => q
/-- a new object is laid and tracked -/
theorem HOk.laid (x : HOk P w H h) (k : ∀ b u, h.get? b = some u → h'.get? b = some u) (hp : h.objs.size ≤ a) (new : ObjOk P w (upd H a o) h' a o) : HOk P w (upd H a o) h' := fun b u e => by
  have hn := x.fresh hp
  by_cases hb : b = a
  · subst hb; rw [upd_same] at e; cases e; exact new
  · rw [upd_ne hb] at e
    exact (x b u e).stay (fun c v _ q => k c v q) (fun c q => by rw [upd_ne (ne_of_none q hn)]; exact q) fun c xs q => by rw [upd_ne (ne_of_none q hn)]; exact q
end

/-- what may be read as u: it is u, or a known u -/
noncomputable def Rd (H : Hp) (a : Addr) (u : HO) : Prop := H a = some u ∨ ∃ o, H a = some (.frz o u)
theorem Rd.ok {P : Program} {w : World} {H : Hp} {h : Heap} {a : Addr} {u : HO} (r : Rd H a u) (x : HOk P w H h) : ObjOk P w H h a u := by
  rcases r with r | ⟨o, r⟩
  · exact x a u r
  · obtain ⟨_, q⟩ := x a _ r
    exact q
/-- what may be written -/
noncomputable def Mut : Option HO → Prop
  | some (.lst _) => True
  | some (.dK _) => True
  | some (.dT _) => True
  | some (.set _ _) => True
  | some (.ins _ _ _) => True
  | some (.ext _) => True
  | _ => False
section
variable {P : Program} {w : World} {H : Hp} {h h' : Heap} {x e : Addr} {o' : HO}
/-- the object at e is changed: x itself, or the dict of the instance x -/
theorem HOk.write (ok : HOk P w H h) (mu : Mut (H x)) (he : e = x ∨ H e = some (.own x)) (k : ∀ b u, b ≠ e → h.get? b = some u → h'.get? b = some u) (heo : ∃ u, h'.get? e = some u)
    (new : ObjOk P w (upd H x o') h' x o') : HOk P w (upd H x o') h' := fun b u q => by
  have nown : ∀ c y, H c = some (.own y) → c ≠ x := fun c y r z => by subst z; rw [r] at mu; exact mu
  have ntup : ∀ c xs, H c = some (.tup xs) → c ≠ x := fun c xs r z => by subst z; rw [r] at mu; exact mu
  by_cases hb : b = x
  · subst hb; rw [upd_same] at q; cases q; exact new
  · rw [upd_ne hb] at q
    by_cases hbe : b = e
    · have q' : H b = some (.own x) := by
        rcases he with z | z
        · exact absurd (hbe.trans z) hb
        · rw [hbe]; exact z
      rw [q] at q'; cases q'
      obtain ⟨v, hv⟩ := heo
      exact ⟨v, by rw [hbe]; exact hv⟩
    · refine (ok b u q).stay (fun c v hc r => k c v ?_ r) (fun c r => by rw [upd_ne (nown c b r)]; exact r) fun c xs r => by rw [upd_ne (ntup c xs r)]; exact r
      rcases hc with rfl | hc
      · exact hbe
      · rintro rfl
        rcases he with z | z
        · exact nown c b hc z
        · rw [hc] at z; cases z; exact hb rfl
end

/-! ### kept unless tracked; of the frames at fs (the callers') the slots may change (an exception that passes writes there); of the records at ex (iterators) nothing is said -/
structure Un (fs ex : List Addr) (H H' : Hp) (h h' : Heap) : Prop where
  keep : ∀ b o, h.get? b = some o → H b = none → b ∉ fs → b ∉ ex → h'.get? b = some o
  slot : ∀ b o, h.get? b = some o → H b = none → b ∈ fs → b ∉ ex → ∃ sl, h'.get? b = some { o with slots := sl }
  free : ∀ b o, h.get? b = some o → H b = none → b ∉ ex → H' b = none
  there : ∀ b o, h.get? b = some o → b ∉ ex → ∃ o', h'.get? b = some o'
  tups : ∀ b xs, H b = some (.tup xs) → H' b = some (.tup xs)
  frzs : ∀ b o u, H b = some (.frz o u) → H' b = some (.frz o u)
  tbls : ∀ b ps, H b = some (.tbl ps) → ∃ more, H' b = some (.tbl (ps ++ more))
section
variable {fs fs' ex ex' : List Addr} {H H1 H2 : Hp} {h h1 h2 h' : Heap} {a x e : Addr} {o : HO}
theorem Un.any (u : Un fs ex H H1 h h1) {b : Addr} {ob : Obj} (q : h.get? b = some ob) (n : H b = none) (hx : b ∉ ex) : ∃ sl, h1.get? b = some { ob with slots := sl } := by
  by_cases hb : b ∈ fs
  · exact u.slot b ob q n hb hx
  · exact ⟨ob.slots, u.keep b ob q n hb hx⟩
theorem Un.kept (k : ∀ b u, h.get? b = some u → h'.get? b = some u) : Un fs ex H H h h' :=
  ⟨fun b ob q _ _ _ => k b ob q, fun b ob q _ _ _ => ⟨ob.slots, k b ob q⟩, fun _ _ _ n _ => n, fun b ob q _ => ⟨ob, k b ob q⟩, fun _ _ q => q, fun _ _ _ q => q, fun _ ps q => ⟨#[], by rw [q]; simp⟩⟩
theorem Un.refl : Un fs ex H H h h := Un.kept fun _ _ q => q
theorem Un.laid (k : ∀ b u, h.get? b = some u → h'.get? b = some u) (hp : h.objs.size ≤ a) (hn : H a = none) : Un fs ex H (upd H a o) h h' where
  keep := fun b u q _ _ _ => k b u q
  slot := fun b u q _ _ _ => ⟨u.slots, k b u q⟩
  free := fun b u q n _ => by rw [upd_ne (Nat.ne_of_lt (Nat.lt_of_lt_of_le (Heap.lt_size q) hp))]; exact n
  there := fun b u q _ => ⟨u, k b u q⟩
  tups := fun b xs q => by rw [upd_ne (ne_of_none q hn)]; exact q
  frzs := fun b u xs q => by rw [upd_ne (ne_of_none q hn)]; exact q
  tbls := fun b ps q => ⟨#[], by rw [upd_ne (ne_of_none q hn), q]; simp⟩
theorem Un.write (mu : Mut (H x)) (he : e = x ∨ H e = some (.own x)) (k : ∀ b u, b ≠ e → h.get? b = some u → h'.get? b = some u) (heo : ∃ u, h'.get? e = some u) : Un fs ex H (upd H x o) h h' := by
  have hx : ∀ b, H b = none → b ≠ x := fun b n z => by subst z; rw [n] at mu; exact mu
  have hb : ∀ b, H b = none → b ≠ e := fun b n z => by
    subst z
    rcases he with r | r
    · exact hx b n r
    · rw [n] at r; cases r
  have hm : ∀ b u, H b = some u → ¬ Mut (some u) → b ≠ x := fun b u q nm z => by subst z; rw [q] at mu; exact nm mu
  refine ⟨fun b u q n _ _ => k b u (hb b n) q, fun b u q n _ _ => ⟨u.slots, k b u (hb b n) q⟩, fun b u q n _ => by rw [upd_ne (hx b n)]; exact n, fun b u q _ => ?_,
    fun b xs q => by rw [upd_ne (hm b _ q fun z => z)]; exact q, fun b u xs q => by rw [upd_ne (hm b _ q fun z => z)]; exact q, fun b ps q => ⟨#[], by rw [upd_ne (hm b _ q fun z => z), q]; simp⟩⟩
  by_cases hbe : b = e
  · subst hbe; exact heo
  · exact ⟨u, k b u hbe q⟩
end

/-! ### the heap without what is tracked -/
noncomputable def trk (h : Heap) (H : Hp) : List Addr := (List.range h.objs.size).filter fun a => (H a).isSome
noncomputable def hidT (h : Heap) (H : Hp) : Heap := PySem.W.hideAll h (trk h H)
theorem hidT_size (h : Heap) (H : Hp) : (hidT h H).objs.size = h.objs.size := PySem.W.hideAll_size _ _
theorem hidT_get {h : Heap} {H : Hp} {b : Addr} {o : Obj} (e : h.get? b = some o) (n : H b = none) : (hidT h H).get? b = some o :=
  PySem.W.hideAll_get _ e fun hm => by
    have q : (H b).isSome = true := (List.mem_filter.mp hm).2
    rw [n] at q; simp at q
theorem of_hidT {h : Heap} {H : Hp} {b : Addr} {o : Obj} (e : (hidT h H).get? b = some o) : h.get? b = some o ∧ H b = none := by
  have e' : h.get? b = some o := PySem.W.of_hideAll (trk h H) e
  refine ⟨e', ?_⟩
  cases q : H b with
  | none => rfl
  | some x =>
    have hm : b ∈ trk h H := List.mem_filter.mpr ⟨List.mem_range.mpr (Heap.lt_size e'), by simp [q]⟩
    have z : (hidT h H).get? b = none := PySem.W.hideAll_none (trk h H) hm
    rw [z] at e; cases e

/-! ### OpenK's ledger, filled with every new object but one -/
end L2

namespace L2
open PySem PySem.Spec PyProof.Rows

/-- the module's facts, over the base: the heap at the law's entry without what is tracked there -/
structure Mod (K : PySem.W.Frag) (mg : Str → Option Value) (base : Heap) : Prop where
  kin : K.In base
  glob : base.Ns mainGlobals mg
  blt : ∃ mb, base.Ns builtinsNs mb ∧ ∀ x : Str, x ≠ "__name__" → mb x = bootBuiltins x
  nolimit : base.NoLimit

/-- the context: a def's body (or a comprehension's block) running. base: fixed through the whole law; s₀, H₀: the entry; outer: the frames whose slots others may change (a def's callers); stack: all frames that run;
   ex: iterators that were made ahead of the entry and are walked here (a comprehension's); fn: the names whose cells were made at the entry (a def: all; a comprehension's block: its own); calm: not within an except suite; pn: pins that every state bears; xe: what is wanted of an exception that leaves the code -/
structure Cx where
  prog : Program
  w : World
  K : PySem.W.Frag
  mg : Str → Option Value
  base : Heap
  A : Around
  N : List Str
  s₀ : Shared
  H₀ : Hp
  env : Env
  outer : List Env
  stack : List Env
  ex : List Addr
  fn : Str → Bool
  calm : Bool
  pn : List (Addr × Obj)
  xe : Value → Shared → Prop
/-- the callers' frames -/
noncomputable def frs (l : List Env) : List Addr := l.filterMap (·.frame)
noncomputable abbrev Cx.fs (X : Cx) : List Addr := frs X.outer

noncomputable def Vis (sc : Scope) (x : Str) : Prop := sc.names.lookup x = some .local ∨ sc.names.lookup x = some .cell ∨ sc.names.lookup x = some .free
noncomputable def Loc (sc : Scope) (x : Str) : Prop := sc.names.lookup x = some .local ∨ sc.names.lookup x = some .cell
noncomputable def Look (env : Env) (h : Heap) (m : Str → Option Value) (x : Str) (u : Value) : Prop :=
  (env.kindOf x = some .local ∧ m x = some u) ∨ ((env.kindOf x = some .cell ∨ env.kindOf x = some .free) ∧ ∃ c, env.cells.lookup x = some c ∧ h.IsCell c (some u))

structure Cx.Ok (X : Cx) : Prop where
  mod : Mod X.K X.mg X.base
  kind : X.env.scope.kind = .function
  glob : X.env.globals = mainGlobals
  blt : X.env.builtins = builtinsNs
  above : X.s₀.heap.objs.size ≤ X.env.locals
  inj : ∀ x y c, X.env.cells.lookup x = some c → X.env.cells.lookup y = some c → x = y
  has : ∀ x, (X.env.kindOf x = some .cell ∨ X.env.kindOf x = some .free) → ∃ c, X.env.cells.lookup x = some c
  cab : ∀ x c, X.fn x = true → X.env.cells.lookup x = some c → X.s₀.heap.objs.size ≤ c
  hd : X.calm = true → X.A.handled = none
  frames : X.A.frames = some X.stack
  stk : X.stack = X.outer ∨ (X.stack = X.env :: X.outer ∧ X.env.frame = some X.env.locals)
  exf : ∀ b ∈ X.ex, b ≠ X.env.locals ∧ ∀ x c, X.env.cells.lookup x = some c → c ≠ b
  bs : ∀ b o, X.base.get? b = some o → X.s₀.heap.get? b = some o ∧ X.H₀ b = none
  bsz : X.base.objs.size ≤ X.s₀.heap.objs.size
  noex : ∀ b o, X.base.get? b = some o → b ∉ X.ex
  exfs : ∀ b ∈ X.ex, b ∉ X.fs
  funs : X.s₀.heap.FunFrames X.base X.outer
  frf : ∀ b ∈ X.fs, X.H₀ b = none

structure Inv (X : Cx) (pins : List (Addr × Obj)) (σ : List (Option V)) (H : Hp) (s : Shared) : Prop where
  ok : X.Ok
  os : s.os = X.s₀.os
  bare : AllBare s.gens
  base : Un X.fs X.ex X.H₀ H X.s₀.heap s.heap
  loc : ∃ m, s.heap.Ns X.env.locals m ∧ ∀ (i : Nat) (x : Str) (v : V), X.N[i]? = some x → σ[i]? = some (some v) → Vis X.env.scope x → ∃ u, RelV v u ∧ Look X.env s.heap m x u
  cell : ∀ x c, X.env.cells.lookup x = some c → ∃ v, s.heap.IsCell c v
  free : H X.env.locals = none
  freeC : ∀ x c, X.env.cells.lookup x = some c → H c = none
  pin : ∀ p ∈ X.pn ++ pins, s.heap.get? p.1 = some p.2 ∧ H p.1 = none ∧ p.1 ≠ X.env.locals ∧ p.1 ∉ X.fs ∧ ∀ v, p.2.data ≠ .cell v
  hok : HOk X.prog X.w H s.heap
  len : σ.length = X.N.length

section
variable {X : Cx} {pins : List (Addr × Obj)} {σ : List (Option V)} {H H' : Hp} {s : Shared} {h' : Heap}

theorem Cx.Ok.nofr (ok : X.Ok) {b : Addr} {o : Obj} (e : X.base.get? b = some o) : b ∉ X.fs := fun hb => by
  have := (ok.funs.mem hb).1
  rw [e] at this; cases this
theorem Inv.bs (I : Inv X pins σ H s) : ∀ b o, X.base.get? b = some o → s.heap.get? b = some o ∧ H b = none := fun b o e =>
  ⟨I.base.keep b o (I.ok.bs b o e).1 (I.ok.bs b o e).2 (I.ok.nofr e) (I.ok.noex b o e), I.base.free b o (I.ok.bs b o e).1 (I.ok.bs b o e).2 (I.ok.noex b o e)⟩
theorem Inv.bk (I : Inv X pins σ H s) : ∀ b o, X.base.get? b = some o → s.heap.get? b = some o := fun b o e => (I.bs b o e).1
theorem Inv.mod (I : Inv X pins σ H s) : Mod X.K X.mg X.base := I.ok.mod
theorem Inv.kIn (I : Inv X pins σ H s) : X.K.In s.heap := I.ok.mod.kin.keeps I.bk
theorem Inv.lt (I : Inv X pins σ H s) : X.env.locals < s.heap.objs.size := let ⟨_, hn, _⟩ := I.loc; hn.lt
theorem Inv.sz (I : Inv X pins σ H s) : X.s₀.heap.objs.size ≤ s.heap.objs.size := Nat.le_trans I.ok.above (Nat.le_of_lt I.lt)
theorem Inv.nofs (I : Inv X pins σ H s) {a : Addr} (h : s.heap.objs.size ≤ a) : a ∉ X.fs := fun hb => by
  obtain ⟨_, o, ho, _⟩ := I.ok.funs.mem hb
  exact absurd (Nat.lt_of_lt_of_le (Heap.lt_size ho) (Nat.le_trans I.sz h)) (Nat.lt_irrefl _)
theorem Inv.cne (I : Inv X pins σ H s) : ∀ x c, X.env.cells.lookup x = some c → c ≠ X.env.locals := fun x c e z => by
  obtain ⟨v, o, ho, hd⟩ := I.cell x c e
  obtain ⟨m, ⟨o', es, ep, ho', hd', _⟩, _⟩ := I.loc
  rw [z, ho'] at ho; cases ho; rw [hd'] at hd; cases hd
theorem Inv.funs (I : Inv X pins σ H s) : s.heap.FunFrames X.base X.outer := by
  have all : ∀ (l : List Env), (∀ b ∈ frs l, b ∈ X.fs) → X.s₀.heap.FunFrames X.base l → s.heap.FunFrames X.base l := by
    intro l
    induction l with
    | nil => intro _ _; trivial
    | cons env r ih =>
      intro hs hl
      obtain ⟨hk, ⟨L, o, hf, hn, ho, hd⟩, hr⟩ := hl
      have hL : L ∈ X.fs := hs L (by unfold frs; rw [List.filterMap_cons, hf]; exact List.mem_cons_self)
      obtain ⟨sl, e⟩ := I.base.slot L o ho (I.ok.frf L hL) hL fun z => I.ok.exfs L z hL
      exact ⟨hk, ⟨L, _, hf, hn, e, hd⟩, ih (fun b hb => hs b (by unfold frs; rw [List.filterMap_cons, hf]; exact List.mem_cons_of_mem _ hb)) hr⟩
  exact all X.outer (fun _ hb => hb) I.ok.funs

/-- the frames that run, for a call -/
theorem Inv.stack (I : Inv X pins σ H s) : s.heap.FunFrames X.base X.stack := by
  rcases I.ok.stk with e | ⟨e, hf⟩
  · rw [e]; exact I.funs
  · rw [e]
    obtain ⟨m, hn, _⟩ := I.loc
    refine .cons (by rw [I.ok.kind]; decide) hf hn ?_ I.funs
    exact Heap.get?_none_of_le (Nat.le_trans I.ok.bsz I.ok.above)
theorem Inv.stkSub (I : Inv X pins σ H s) : ∀ b ∈ frs X.stack, b ∈ X.env.locals :: X.fs := fun b hb => by
  rcases I.ok.stk with e | ⟨e, hf⟩
  · rw [e] at hb; exact List.mem_cons_of_mem _ hb
  · rw [e] at hb
    unfold frs at hb
    rw [List.filterMap_cons, hf] at hb
    exact hb
theorem Inv.stkFree (I : Inv X pins σ H s) : ∀ b ∈ frs X.stack, H b = none := fun b hb => by
  rcases List.mem_cons.mp (I.stkSub b hb) with e | hb
  · rw [e]; exact I.free
  · obtain ⟨_, o, ho, _⟩ := I.ok.funs.mem hb
    exact I.base.free b o ho (I.ok.frf b hb) fun z => I.ok.exfs b z hb

/-- THE STEP: the untracked objects but the frame and the records at ch are kept (the callers' frames up to slots), the frame's map is kept, the new abstract heap is held -/
theorem Inv.step {g' : Array GenState} {t' : Nat} {d' : Drawn} {ch : List Addr} (I : Inv X pins σ H s)
    (hch : ∀ b ∈ ch, (b ∈ X.ex ∨ X.s₀.heap.objs.size ≤ b) ∧ b ≠ X.env.locals ∧ (∀ x c, X.env.cells.lookup x = some c → c ≠ b) ∧ ∀ p ∈ X.pn ++ pins, p.1 ≠ b)
    (keep : ∀ b o, b ≠ X.env.locals → b ∉ X.fs → b ∉ ch → s.heap.get? b = some o → H b = none → h'.get? b = some o)
    (slot : ∀ b o, b ≠ X.env.locals → b ∈ X.fs → b ∉ ch → s.heap.get? b = some o → H b = none → ∃ sl, h'.get? b = some { o with slots := sl }) (free : ∀ b o, b ∉ ch → s.heap.get? b = some o → H b = none → H' b = none)
    (there : ∀ b o, b ∉ ch → s.heap.get? b = some o → ∃ o', h'.get? b = some o')
    (tups : ∀ b xs, H b = some (.tup xs) → H' b = some (.tup xs)) (frzs : ∀ b o u, H b = some (.frz o u) → H' b = some (.frz o u)) (tbls : ∀ b ps, H b = some (.tbl ps) → ∃ more, H' b = some (.tbl (ps ++ more)))
    (ns : ∀ m, s.heap.Ns X.env.locals m → h'.Ns X.env.locals m) (hok : HOk X.prog X.w H' h') (hg : AllBare g') :
    Inv X pins σ H' { s with heap := h', gens := g', drawn := d', toks := t' } := by
  have neL : ∀ b o, X.s₀.heap.get? b = some o → b ≠ X.env.locals := fun b o e => Nat.ne_of_lt (Nat.lt_of_lt_of_le (Heap.lt_size e) I.ok.above)
  have neC : ∀ b o, X.s₀.heap.get? b = some o → b ∉ X.ex → b ∉ ch := fun b o e hx hb => by
    rcases (hch b hb).1 with z | z
    · exact hx z
    · exact absurd (Nat.lt_of_lt_of_le (Heap.lt_size e) z) (Nat.lt_irrefl _)
  have cellK : ∀ x c, X.env.cells.lookup x = some c → ∀ v, s.heap.IsCell c v → h'.IsCell c v := fun x c e v ⟨o, ho, hd⟩ => by
    have nch : c ∉ ch := fun z => (hch c z).2.2.1 x c e rfl
    by_cases hc : c ∈ X.fs
    · obtain ⟨sl, q⟩ := slot c o (I.cne x c e) hc nch ho (I.freeC x c e)
      exact ⟨_, q, hd⟩
    · exact ⟨o, keep c o (I.cne x c e) hc nch ho (I.freeC x c e), hd⟩
  refine ⟨I.ok, I.os, hg, ⟨fun b o e n hb hx => ?_, fun b o e n hb hx => ?_, fun b o e n hx => ?_, fun b o e hx => ?_, fun b xs e => tups b xs (I.base.tups b xs e), fun b o xs e => frzs b o xs (I.base.frzs b o xs e), fun b ps e => ?_⟩, ?_, fun x c e => ?_, ?_, fun x c e => ?_, fun p hp => ?_, hok, I.len⟩
  · exact keep b o (neL b o e) hb (neC b o e hx) (I.base.keep b o e n hb hx) (I.base.free b o e n hx)
  · obtain ⟨sl, e1⟩ := I.base.slot b o e n hb hx
    obtain ⟨sl', e2⟩ := slot b _ (neL b o e) hb (neC b o e hx) e1 (I.base.free b o e n hx)
    exact ⟨sl', e2⟩
  · obtain ⟨o', e1⟩ := I.base.there b o e hx
    exact free b o' (neC b o e hx) e1 (I.base.free b o e n hx)
  · obtain ⟨o', e1⟩ := I.base.there b o e hx
    exact there b o' (neC b o e hx) e1
  · obtain ⟨m1, e1⟩ := I.base.tbls b ps e
    obtain ⟨m2, e2⟩ := tbls b _ e1
    exact ⟨m1 ++ m2, by rw [e2, Array.append_assoc]⟩
  · obtain ⟨m, hn, hl⟩ := I.loc
    refine ⟨m, ns m hn, fun i x v e1 e2 e3 => ?_⟩
    obtain ⟨u, r, l⟩ := hl i x v e1 e2 e3
    refine ⟨u, r, ?_⟩
    rcases l with l | ⟨k, c, e, z⟩
    · exact .inl l
    · exact .inr ⟨k, c, e, cellK x c e _ z⟩
  · obtain ⟨v, z⟩ := I.cell x c e
    exact ⟨v, cellK x c e v z⟩
  · obtain ⟨m, ⟨o, _, _, ho, _⟩, _⟩ := I.loc
    exact free _ o (fun z => (hch _ z).2.1 rfl) ho I.free
  · obtain ⟨v, o, ho, hd⟩ := I.cell x c e
    exact free c o (fun z => (hch c z).2.2.1 x c e rfl) ho (I.freeC x c e)
  · obtain ⟨e, n, ne, nf, d⟩ := I.pin p hp
    have nch : p.1 ∉ ch := fun z => (hch p.1 z).2.2.2 p hp rfl
    exact ⟨keep p.1 p.2 ne nf nch e n, free p.1 p.2 nch e n, ne, nf, d⟩
/-- .. where the frame's own object is kept too -/
theorem Inv.un {t' : Nat} (I : Inv X pins σ H s) (u : Un X.fs [] H H' s.heap h') (hok : HOk X.prog X.w H' h') : Inv X pins σ H' { s with heap := h', toks := t' } := by
  obtain ⟨m, ⟨o, es, ep, ho, r⟩, _⟩ := id I.loc
  obtain ⟨sl, hL⟩ := u.any ho I.free (by simp)
  exact I.step (g' := s.gens) (d' := s.drawn) (ch := []) (fun _ z => nomatch z) (fun b o _ hb _ e n => u.keep b o e n hb (by simp)) (fun b o _ hb _ e n => u.slot b o e n hb (by simp)) (fun b o _ e n => u.free b o e n (by simp)) (fun b o _ e => u.there b o e (by simp)) u.tups u.frzs u.tbls (fun m' hm => by
    obtain ⟨o', es', ep', ho', r'⟩ := hm
    rw [ho] at ho'; cases ho'
    exact ⟨_, es', ep', hL, r'⟩) hok I.bare
/-- behind a call (or a comprehension's block): the slots of this frame may have changed too, the records at ch may have turned -/
theorem Inv.call {g' : Array GenState} {t' : Nat} {d' : Drawn} {ch : List Addr} (I : Inv X pins σ H s) (u : Un (frs X.stack) ch H H' s.heap h') (hok : HOk X.prog X.w H' h') (hg : AllBare g')
    (hch : ∀ b ∈ ch, (b ∈ X.ex ∨ X.s₀.heap.objs.size ≤ b) ∧ b ≠ X.env.locals ∧ (∀ x c, X.env.cells.lookup x = some c → c ≠ b) ∧ ∀ p ∈ X.pn ++ pins, p.1 ≠ b) :
    Inv X pins σ H' { s with heap := h', gens := g', drawn := d', toks := t' } := by
  obtain ⟨m, ⟨o, es, ep, ho, r⟩, _⟩ := id I.loc
  obtain ⟨sl, hL⟩ := u.any ho I.free fun z => (hch _ z).2.1 rfl
  exact I.step (ch := ch) hch (fun b o hL hb hc e n => u.keep b o e n (fun z => (List.mem_cons.mp (I.stkSub b z)).elim hL hb) hc) (fun b o _ _ hc e n => u.any e n hc) (fun b o hc e n => u.free b o e n hc) (fun b o hc e => u.there b o e hc) u.tups u.frzs u.tbls (fun m' hm => by
    obtain ⟨o', es', ep', ho', r'⟩ := hm
    rw [ho] at ho'; cases ho'
    exact ⟨_, es', ep', hL, r'⟩) hok hg
/-- an untracked record of ours (an iterator) has turned -/
theorem Inv.turned {t' : Nat} {it : Addr} (I : Inv X pins σ H s) (k : ∀ b o, b ≠ it → s.heap.get? b = some o → h'.get? b = some o) (hn : H it = none) (hL : it ≠ X.env.locals)
    (h1 : it ∈ X.ex ∨ X.s₀.heap.objs.size ≤ it) (h2 : ∀ x c, X.env.cells.lookup x = some c → c ≠ it) (h3 : ∀ p ∈ X.pn ++ pins, p.1 ≠ it) : Inv X pins σ H { s with heap := h', toks := t' } := by
  have nit : ∀ b u, H b = some u → b ≠ it := fun b u e z => by rw [z, hn] at e; cases e
  refine I.step (g' := s.gens) (d' := s.drawn) (ch := [it]) (fun b hb => ?_) (fun b o _ _ hc e _ => k b o (fun z => hc (by simp [z])) e) (fun b o _ _ hc e _ => ⟨o.slots, k b o (fun z => hc (by simp [z])) e⟩) (fun _ _ _ _ n => n)
    (fun b o hc e => ⟨o, k b o (fun z => hc (by simp [z])) e⟩) (fun _ _ e => e) (fun _ _ _ e => e) (fun b ps e => ⟨#[], by rw [e]; simp⟩) (fun m hm => ?_) (fun b u e => ?_) I.bare
  · have e : b = it := by simpa using hb
    subst e
    exact ⟨h1, hL, h2, h3⟩
  · obtain ⟨o, es, ep, ho, r⟩ := hm
    exact ⟨o, es, ep, k _ o (Ne.symm hL) ho, r⟩
  · refine (I.hok b u e).stay (fun c v hc q => k c v ?_ q) (fun _ q => q) fun _ _ q => q
    rcases hc with z | z
    · rw [z]; exact nit b u e
    · exact nit c _ z
theorem Inv.tok (I : Inv X pins σ H s) (t : Nat) : Inv X pins σ H { s with toks := t } := I.un (h' := s.heap) (t' := t) Un.refl I.hok
/-- all objects kept -/
theorem Inv.kept {t' : Nat} (I : Inv X pins σ H s) (k : ∀ b u, s.heap.get? b = some u → h'.get? b = some u) : Inv X pins σ H { s with heap := h', toks := t' } := I.un (Un.kept k) (I.hok.kept k)
/-- a new object laid and tracked -/
theorem Inv.laid {a : Addr} {o : HO} {t' : Nat} (I : Inv X pins σ H s) (k : ∀ b u, s.heap.get? b = some u → h'.get? b = some u) (hp : s.heap.objs.size ≤ a) (new : ObjOk X.prog X.w (upd H a o) h' a o) :
    Inv X pins σ (upd H a o) { s with heap := h', toks := t' } := I.un (Un.laid k hp (I.hok.fresh hp)) (I.hok.laid k hp new)
/-- an object written -/
theorem Inv.write {x e : Addr} {o : HO} {t' : Nat} (I : Inv X pins σ H s) (mu : Mut (H x)) (he : e = x ∨ H e = some (.own x)) (k : ∀ b u, b ≠ e → s.heap.get? b = some u → h'.get? b = some u) (heo : ∃ u, h'.get? e = some u)
    (new : ObjOk X.prog X.w (upd H x o) h' x o) : Inv X pins σ (upd H x o) { s with heap := h', toks := t' } := I.un (Un.write mu he k heo) (I.hok.write mu he k heo new)
theorem Inv.pins_of {pins' : List (Addr × Obj)} (I : Inv X pins σ H s) (h : ∀ p ∈ pins', s.heap.get? p.1 = some p.2 ∧ H p.1 = none ∧ p.1 ≠ X.env.locals ∧ p.1 ∉ X.fs ∧ ∀ v, p.2.data ≠ .cell v) : Inv X pins' σ H s :=
  ⟨I.ok, I.os, I.bare, I.base, I.loc, I.cell, I.free, I.freeC, fun p hp => (List.mem_append.mp hp).elim (fun z => I.pin p (List.mem_append_left _ z)) (h p), I.hok, I.len⟩

theorem nodup_ix {N : List Str} (hN : N.Nodup) {i j : Nat} {x : Str} (a : N[i]? = some x) (b : N[j]? = some x) : i = j := by
  obtain ⟨h1, e1⟩ := List.getElem?_eq_some_iff.mp a
  obtain ⟨h2, e2⟩ := List.getElem?_eq_some_iff.mp b
  exact (List.getElem_inj hN).mp (e1.trans e2.symm)

/-- a name is stored; what changed -/
theorem store_ok2 {M : Model} {A : Around} {E : Value → Shared → Prop} {i : Nat} {x : Str} {v : V} {u : Value} {Q : Unit → Shared → Prop} (I : Inv X pins σ H s) (hN : X.N.Nodup) (hi : X.N[i]? = some x) (hx : Loc X.env.scope x) (r : RelV v u)
    (h : ∀ s', Inv X pins (σ.set i (some v)) H s' → (∃ a, Heap.SameBut a s.heap s'.heap ∧ (a = X.env.locals ∨ X.env.cells.lookup x = some a)) → Q () s') (hf : X.fn x = true ∨ X.env.scope.names.lookup x = some .local := by first | exact .inl rfl | exact .inr rfl | assumption) : wpAny M A (storeName X.env x u) Q E s := by
  obtain ⟨m, hn, hl⟩ := id I.loc
  have hcls : (X.env.scope.kind == .class || (X.env.scope.kind == .module && X.env.locals != X.env.globals)) = false := by rw [I.ok.kind]; rfl
  have hiσ : i < σ.length := by rw [I.len]; exact (List.getElem?_eq_some_iff.mp hi).1
  have cne := I.cne
  have tracked : ∀ {a : Addr} {h' : Heap}, (∃ o, s.heap.get? a = some o ∧ H a = none) → Heap.SameBut a s.heap h' → HOk X.prog X.w H h' := fun {a h'} ha hs b ob e => by
    obtain ⟨_, _, hfree⟩ := ha
    refine (I.hok b ob e).stay (fun c w' hc q => (hs.2 c ?_).trans q) (fun _ q => q) fun _ _ q => q
    rintro rfl
    rcases hc with rfl | hc
    · rw [hfree] at e; cases e
    · rw [hfree] at hc; cases hc
  rcases hx with hk | hk
  · refine wpAny_storeName_local hk hn (fun h' hn' hs => ?_) hcls
    obtain ⟨oL, _, _, hoL, _⟩ := id hn
    refine h _ ⟨I.ok, I.os, I.bare, ⟨fun b o e n hb hx => ?_, fun b o e n hb hx => ?_, I.base.free, fun b o e hx => ?_, I.base.tups, I.base.frzs, I.base.tbls⟩, ⟨_, hn', fun j y v' e1 e2 e3 => ?_⟩, fun y c e => ?_, I.free, I.freeC, fun p hp => ?_, tracked ⟨oL, hoL, I.free⟩ hs, by simpa using I.len⟩ ⟨_, hs, .inl rfl⟩
    · exact (hs.2 b (Nat.ne_of_lt (Nat.lt_of_lt_of_le (Heap.lt_size e) I.ok.above))).trans (I.base.keep b o e n hb hx)
    · obtain ⟨sl, e1⟩ := I.base.slot b o e n hb hx
      exact ⟨sl, (hs.2 b (Nat.ne_of_lt (Nat.lt_of_lt_of_le (Heap.lt_size e) I.ok.above))).trans e1⟩
    · obtain ⟨o', e1⟩ := I.base.there b o e hx
      exact ⟨o', (hs.2 b (Nat.ne_of_lt (Nat.lt_of_lt_of_le (Heap.lt_size e) I.ok.above))).trans e1⟩
    · by_cases hj : j = i
      · subst hj
        rw [hi] at e1; cases e1
        rw [List.getElem?_set_self hiσ] at e2
        cases e2
        exact ⟨u, r, .inl ⟨hk, by simp⟩⟩
      · rw [List.getElem?_set_ne (Ne.symm hj)] at e2
        obtain ⟨u', r', q⟩ := hl j y v' e1 e2 e3
        refine ⟨u', r', ?_⟩
        rcases q with ⟨k, e⟩ | ⟨k, c, e, z⟩
        · refine .inl ⟨k, ?_⟩
          have : y ≠ x := fun e => hj (nodup_ix hN e1 (e ▸ hi))
          simp [this, e]
        · exact .inr ⟨k, c, e, z.sameBut hs (cne y c e)⟩
    · obtain ⟨w', z⟩ := I.cell y c e
      exact ⟨w', z.sameBut hs (cne y c e)⟩
    · obtain ⟨e, n, ne, nf, d⟩ := I.pin p hp
      exact ⟨(hs.2 p.1 ne).trans e, n, ne, nf, d⟩
  · have hfn : X.fn x = true := by
      rcases hf with z | z
      · exact z
      · rw [z] at hk; cases hk
    obtain ⟨c, hc⟩ := I.ok.has x (.inl hk)
    obtain ⟨w', z⟩ := I.cell x c hc
    refine wpAny_storeName_cell I.ok.kind hk hc z (fun h' hc' hs => ?_)
    obtain ⟨oc, hoc, hocd⟩ := id z
    refine h { s with heap := h' } ⟨I.ok, I.os, I.bare, ⟨fun b o e n hb hx => ?_, fun b o e n hb hx => ?_, I.base.free, fun b o e hx => ?_, I.base.tups, I.base.frzs, I.base.tbls⟩, ⟨m, hn.sameBut hs (Ne.symm (cne x c hc)), fun j y v' e1 e2 e3 => ?_⟩, fun y c' e => ?_, I.free, I.freeC, fun p hp => ?_, tracked ⟨oc, hoc, I.freeC x c hc⟩ hs, by simpa using I.len⟩ ⟨c, hs, .inr hc⟩
    · exact (hs.2 b (Nat.ne_of_lt (Nat.lt_of_lt_of_le (Heap.lt_size e) (I.ok.cab x c hfn hc)))).trans (I.base.keep b o e n hb hx)
    · obtain ⟨sl, e1⟩ := I.base.slot b o e n hb hx
      exact ⟨sl, (hs.2 b (Nat.ne_of_lt (Nat.lt_of_lt_of_le (Heap.lt_size e) (I.ok.cab x c hfn hc)))).trans e1⟩
    · obtain ⟨o', e1⟩ := I.base.there b o e hx
      exact ⟨o', (hs.2 b (Nat.ne_of_lt (Nat.lt_of_lt_of_le (Heap.lt_size e) (I.ok.cab x c hfn hc)))).trans e1⟩
    · by_cases hj : j = i
      · subst hj
        rw [hi] at e1; cases e1
        rw [List.getElem?_set_self hiσ] at e2
        cases e2
        exact ⟨u, r, .inr ⟨.inl hk, c, hc, hc'⟩⟩
      · rw [List.getElem?_set_ne (Ne.symm hj)] at e2
        obtain ⟨u', r', q⟩ := hl j y v' e1 e2 e3
        refine ⟨u', r', ?_⟩
        rcases q with q | ⟨k, c', e, z'⟩
        · exact .inl q
        · refine .inr ⟨k, c', e, z'.sameBut hs ?_⟩
          rintro rfl
          exact hj (nodup_ix hN e1 (I.ok.inj _ _ _ e hc ▸ hi))
    · by_cases hcc : c' = c
      · subst hcc; exact ⟨_, hc'⟩
      · obtain ⟨w2, z2⟩ := I.cell y c' e
        exact ⟨w2, z2.sameBut hs hcc⟩
    · obtain ⟨e, n, ne, nf, d⟩ := I.pin p hp
      refine ⟨(hs.2 p.1 ?_).trans e, n, ne, nf, d⟩
      intro q
      rw [q, hoc] at e
      have q' : oc = p.2 := Option.some.inj e
      exact d w' (by rw [← q']; exact hocd)
theorem store_ok {M : Model} {A : Around} {E : Value → Shared → Prop} {i : Nat} {x : Str} {v : V} {u : Value} {Q : Unit → Shared → Prop} (I : Inv X pins σ H s) (hN : X.N.Nodup) (hi : X.N[i]? = some x) (hx : Loc X.env.scope x) (r : RelV v u)
    (h : ∀ s', Inv X pins (σ.set i (some v)) H s' → Q () s') (hf : X.fn x = true ∨ X.env.scope.names.lookup x = some .local := by first | exact .inl rfl | exact .inr rfl | assumption) : wpAny M A (storeName X.env x u) Q E s :=
  store_ok2 I hN hi hx r (fun s' I' _ => h s' I') hf
/-- behind a call or a block, the state as it is -/
theorem Inv.call' {s' : Shared} {ch : List Addr} (I : Inv X pins σ H s) (ho : s'.os = s.os) (u : Un (frs X.stack) ch H H' s.heap s'.heap) (hok : HOk X.prog X.w H' s'.heap) (hg : AllBare s'.gens)
    (hch : ∀ b ∈ ch, (b ∈ X.ex ∨ X.s₀.heap.objs.size ≤ b) ∧ b ≠ X.env.locals ∧ (∀ x c, X.env.cells.lookup x = some c → c ≠ b) ∧ ∀ p ∈ X.pn ++ pins, p.1 ≠ b) : Inv X pins σ H' s' := by
  obtain ⟨h', g', d', t', o'⟩ := s'
  have e : o' = s.os := ho
  subst e
  exact I.call (g' := g') (t' := t') (d' := d') u hok hg hch
end

/-! ### the judgements -/
/-- an exception: its class, its own dict's address (where it has one), the abstract heap behind it -/
noncomputable abbrev XK := Value → Option Addr → Hp → Prop
noncomputable abbrev St := List (Option V)
noncomputable abbrev VK := V → Hp → Prop
/-- an expression's reading; a test's; an argument list's -/
noncomputable abbrev TE := St → Hp → VK → Prop
noncomputable abbrev TT := St → Hp → (Bool → Hp → Prop) → Prop
noncomputable abbrev TA := St → Hp → (List V → Hp → Prop) → Prop
/-- what is wanted behind a statement -/
structure Ends where
  nx : St → Hp → Prop
  rt : VK
  bk : St → Hp → Prop := fun _ _ => False
  ct : St → Hp → Prop := fun _ _ => False
noncomputable abbrev TS := Ends → St → Hp → Prop

noncomputable def EP (X : Cx) (pins : List (Addr × Obj)) (σ : St) (Q : VK) (u : Value) (s' : Shared) : Prop := ∃ v H', Inv X pins σ H' s' ∧ RelV v u ∧ Q v H'
noncomputable def TP (X : Cx) (pins : List (Addr × Obj)) (σ : St) (Q : Bool → Hp → Prop) (b : Bool) (s' : Shared) : Prop := ∃ H', Inv X pins σ H' s' ∧ Q b H'
noncomputable def AP (X : Cx) (pins : List (Addr × Obj)) (σ : St) (Q : List V → Hp → Prop) (us : List Value) (s' : Shared) : Prop := ∃ vs H', Inv X pins σ H' s' ∧ Vals vs us ∧ Q vs H'
noncomputable def SP (X : Cx) (pins : List (Addr × Obj)) (D : Ends) (f : Flow) (s' : Shared) : Prop :=
  match f with
  | .next => ∃ σ' H', Inv X pins σ' H' s' ∧ D.nx σ' H'
  | .brk => ∃ σ' H', Inv X pins σ' H' s' ∧ D.bk σ' H'
  | .cont => ∃ σ' H', Inv X pins σ' H' s' ∧ D.ct σ' H'
  | .ret u => ∃ v σ' H', Inv X pins σ' H' s' ∧ RelV v u ∧ D.rt v H'

noncomputable def PE (X : Cx) (e : Expr) (t : TE) : Prop :=
  ∀ (pins : List (Addr × Obj)) (s : Shared) (σ : St) (H : Hp) (Q : VK), Inv X pins σ H s → t σ H Q → wpAny (model X.prog X.w) X.A (eval e X.env) (EP X pins σ Q) X.xe s
noncomputable def PT (X : Cx) (e : Expr) (t : TT) : Prop :=
  ∀ (pins : List (Addr × Obj)) (s : Shared) (σ : St) (H : Hp) (Q : Bool → Hp → Prop), Inv X pins σ H s → t σ H Q → wpAny (model X.prog X.w) X.A (isTrue e X.env (eval e X.env)) (TP X pins σ Q) X.xe s
/-- a test whatever its 'whole' is (and, or) -/
noncomputable def PW (X : Cx) (e : Expr) (t : TT) : Prop :=
  ∀ (whole : Sem Value) (pins : List (Addr × Obj)) (s : Shared) (σ : St) (H : Hp) (Q : Bool → Hp → Prop), Inv X pins σ H s → t σ H Q → wpAny (model X.prog X.w) X.A (isTrue e X.env whole) (TP X pins σ Q) X.xe s
theorem PW.pt {X : Cx} {e : Expr} {t : TT} (h : PW X e t) : PT X e t := h _
/-- an argument list (no star), from the left -/
noncomputable def PA (X : Cx) (es : List Expr) (t : TA) : Prop :=
  ∀ (pos : Pos) (pins : List (Addr × Obj)) (s : Shared) (σ : St) (H : Hp) (Q : List V → Hp → Prop), Inv X pins σ H s → t σ H Q → wpAny (model X.prog X.w) X.A (spliced (backTo pos (starEach es X.env))) (AP X pins σ Q) X.xe s
noncomputable def PS (X : Cx) (st : Stmt) (t : TS) : Prop :=
  ∀ (pins : List (Addr × Obj)) (s : Shared) (σ : St) (H : Hp) (D : Ends), Inv X pins σ H s → t D σ H → wpAny (model X.prog X.w) X.A (exec st X.env) (SP X pins D) X.xe s
noncomputable def PSs (X : Cx) (st : List Stmt) (t : TS) : Prop :=
  ∀ (pins : List (Addr × Obj)) (s : Shared) (σ : St) (H : Hp) (D : Ends), Inv X pins σ H s → t D σ H → wpAny (model X.prog X.w) X.A (execs st X.env) (SP X pins D) X.xe s
/-- weaken the end -/
theorem thn {α : Type} {t : Sem α} {Q Q' : α → Shared → Prop} {M : Model} {A : Around} {E : Value → Shared → Prop} {s : Shared} (h : wpAny M A t Q E s) (hQ : ∀ a s, Q a s → Q' a s) : wpAny M A t Q' E s := wpAny_mono h hQ fun _ _ x => x
end L2

namespace L2
open PySem PySem.Spec PyProof.Rows
section
variable {X : Cx}


/-! ### names and constants -/
noncomputable def tVar (i : Nat) : TE := fun σ H Q => ∃ v, σ[i]? = some (some v) ∧ Q v H
noncomputable def tC (v : V) : TE := fun _ H Q => Q v H
theorem pe_var {i : Nat} {x : Str} {pos : Pos} (hN : X.N[i]? = some x) (hv : Vis X.env.scope x) (hd : (x == ("__debug__" : Str)) = false := by decide) (hcd : (x == ("__classdict__" : Str)) = false := by decide) : PE X (.Name x pos) (tVar i) := by
  intro pins s σ H Q I h
  obtain ⟨v, e, h⟩ := h
  obtain ⟨m, hn, hl⟩ := I.loc
  obtain ⟨u, r, l⟩ := hl i x v hN e hv
  have fin : EP X pins σ Q u s := ⟨v, H, I, r, h⟩
  rcases l with ⟨hk, hm⟩ | ⟨hk, c, hc, hcell⟩
  · exact wpAny_Name (wpAny_loadName_local I.ok.kind hk hn hm fin) hd
  · rcases hk with hk | hk
    · exact wpAny_Name (wpAny_loadName_cell I.ok.kind hk hc hcell fin) hd
    · exact wpAny_Name (wpAny_loadName_free I.ok.kind hk hc hcell fin hcd) hd
theorem pe_int {i j pos} : PE X (.Constant (.int i) j pos) (tC (.int i)) := fun _ _ _ H _ I h => wpAny_Constant_int ⟨.int i, H, I.tok _, ⟨_, rfl⟩, h⟩
theorem pe_bl {b j pos} : PE X (.Constant (.bool b) j pos) (tC (.bl b)) := fun _ _ _ H _ I h => Constant_bool ⟨.bl b, H, I, rfl, h⟩
theorem pe_non {j pos} : PE X (.Constant .none j pos) (tC .non) := fun _ _ _ H _ I h => Constant_none ⟨.non, H, I, rfl, h⟩
theorem pe_str {x j pos} : PE X (.Constant (.str x) j pos) (tC (.str x)) := fun _ _ _ H _ I h => Calls.Constant_str ⟨.str x, H, I.tok _, ⟨_, rfl⟩, h⟩

/-- a global name of the def -/
noncomputable def Gl (X : Cx) (x : Str) : Prop := X.env.kindOf x = some .globalImplicit
theorem ld_glob {E : Value → Shared → Prop} {pins : List (Addr × Obj)} {s : Shared} {σ : St} {H : Hp} {x : Str} {u : Value} {pos : Pos} {Q : Value → Shared → Prop} (I : Inv X pins σ H s) (hg : Gl X x) (hm : X.mg x = some u) (h : Q u s)
    (hd : (x == ("__debug__" : Str)) = false := by decide) : wpAny (model X.prog X.w) X.A (eval (.Name x pos) X.env) Q E s :=
  Calls.Name_function_global I.ok.kind hg (Calls.loadGlobal_global (by rw [I.ok.glob]; exact I.mod.glob.keeps I.bk) hm h) hd
theorem ld_blt {E : Value → Shared → Prop} {pins : List (Addr × Obj)} {s : Shared} {σ : St} {H : Hp} {x : Str} {u : Value} {pos : Pos} {Q : Value → Shared → Prop} (I : Inv X pins σ H s) (hg : Gl X x) (hm : X.mg x = none) (hv : bootBuiltins x = some u) (h : Q u s)
    (hn : x ≠ "__name__" := by decide) (hd : (x == ("__debug__" : Str)) = false := by decide) : wpAny (model X.prog X.w) X.A (eval (.Name x pos) X.env) Q E s := by
  obtain ⟨mb, h1, h2⟩ := I.mod.blt
  exact Calls.Name_function_global I.ok.kind hg (Calls.loadGlobal_builtin (by rw [I.ok.glob]; exact I.mod.glob.keeps I.bk) hm (by rw [I.ok.blt]; exact h1.keeps I.bk) ((h2 x hn).trans hv) h) hd
/-- a module's constant, a class, a function, as a value -/
theorem pe_glob {x : Str} {v : V} {u : Value} {pos : Pos} (hg : Gl X x) (hm : X.mg x = some u) (r : RelV v u) (hd : (x == ("__debug__" : Str)) = false := by decide) : PE X (.Name x pos) (tC v) :=
  fun _ _ _ H _ I h => ld_glob I hg hm ⟨v, H, I, r, h⟩ hd
theorem pe_bltn {x : Str} {v : V} {u : Value} {pos : Pos} (hg : Gl X x) (hm : X.mg x = none) (hv : bootBuiltins x = some u) (r : RelV v u) (hn : x ≠ "__name__" := by decide) (hd : (x == ("__debug__" : Str)) = false := by decide) : PE X (.Name x pos) (tC v) :=
  fun _ _ _ H _ I h => ld_blt I hg hm hv ⟨v, H, I, r, h⟩ hn hd

/-! ### arithmetic -/
variable {a b : Expr} {ta tb : TE} {pos : Pos}

/-! ### comparisons -/
/-- a comparison as a value, as a test -/
noncomputable def tB (t : TE) : TT := fun σ H Q => t σ H fun x H1 => ∃ c, x = .bl c ∧ Q c H1
/-- an expression whose value is a bool, as a test -/
theorem pt_val {e : Expr} {t : TE} (h : PE X e t) (he : ∀ whole, isTrue e X.env whole = (do let v ← whole; standAt e.pos; holding [v] (truthy v)) := by intro _; rfl) : PT X e (tB t) := by
  intro pins s σ H Q I hw
  refine isTrue_plain (thn (h pins s σ H _ I hw) fun v s1 zz => ?_) (he _)
  obtain ⟨x, H1, I1, r1, q1⟩ := zz
  obtain ⟨d, rfl, q⟩ := q1
  cases r1
  exact wpAny_truthy_bool ⟨H1, I1, q⟩

/-! ### and, or, not -/
variable {tA tB' : TT} {rest : List Expr}
noncomputable def tAnd (t u : TT) : TT := fun σ H Q => t σ H fun c H1 => if c = true then u σ H1 Q else Q false H1
noncomputable def tOr (t u : TT) : TT := fun σ H Q => t σ H fun c H1 => if c = true then Q true H1 else u σ H1 Q
noncomputable def tNot (t : TT) : TT := fun σ H Q => t σ H fun c H1 => Q (!c) H1
theorem pw_and1 (ha : PT X a tA) : PW X (.BoolOp .And [a] pos) tA := by
  intro wh pins s σ H Q I h
  refine isTrue_and (thn (ha pins s σ H Q I h) fun c s1 e => ?_)
  cases c with
  | true => exact isTrue_and_nil e
  | false => exact e
theorem pw_or1 (ha : PT X a tA) : PW X (.BoolOp .Or [a] pos) tA := by
  intro wh pins s σ H Q I h
  refine isTrue_or (thn (ha pins s σ H Q I h) fun c s1 e => ?_)
  cases c with
  | false => exact isTrue_or_nil e
  | true => exact e
theorem pw_and (ha : PT X a tA) (hb : PW X (.BoolOp .And (b :: rest) pos) tB') : PW X (.BoolOp .And (a :: b :: rest) pos) (tAnd tA tB') := by
  intro wh pins s σ H Q I h
  refine isTrue_and (thn (ha pins s σ H _ I h) fun c s1 zz => ?_)
  obtain ⟨H1, I1, q1⟩ := zz
  cases c with
  | true => exact hb wh pins s1 σ H1 Q I1 q1
  | false => exact ⟨H1, I1, q1⟩
theorem pw_or (ha : PT X a tA) (hb : PW X (.BoolOp .Or (b :: rest) pos) tB') : PW X (.BoolOp .Or (a :: b :: rest) pos) (tOr tA tB') := by
  intro wh pins s σ H Q I h
  refine isTrue_or (thn (ha pins s σ H _ I h) fun c s1 zz => ?_)
  obtain ⟨H1, I1, q1⟩ := zz
  cases c with
  | true => exact ⟨H1, I1, q1⟩
  | false => exact hb wh pins s1 σ H1 Q I1 q1
theorem pt_not (ha : PT X a tA) : PT X (.UnaryOp .Not a pos) (tNot tA) := by
  intro pins s σ H Q I h
  exact isTrue_not (ha pins s σ H (fun c H1 => Q (!c) H1) I h)
/-- .. as values (bools) -/
noncomputable def tAndV (ta tb : TE) : TE := fun σ H Q => ta σ H fun x H1 => ∃ c, x = .bl c ∧ if c = true then tb σ H1 Q else Q (.bl false) H1
noncomputable def tNotV (ta : TE) : TE := fun σ H Q => ta σ H fun x H1 => ∃ c, x = .bl c ∧ Q (.bl (!c)) H1
theorem pe_one {op} {t : TE} (h : PE X a t) : PE X (.BoolOp op [a] pos) t := fun pins s σ H Q I hw => BoolOp_one (h pins s σ H Q I hw)
theorem pe_and (ha : PE X a ta) (hb : PE X (.BoolOp .And (b :: rest) pos) tb) : PE X (.BoolOp .And (a :: b :: rest) pos) (tAndV ta tb) := by
  intro pins s σ H Q I h
  refine BoolOp_and (thn (ha pins s σ H _ I h) fun v s1 zz => ?_)
  obtain ⟨x, H1, I1, r1, q1⟩ := zz
  obtain ⟨c, rfl, q1⟩ := q1
  cases r1
  refine wpAny_truthy_bool ?_
  cases c with
  | true => exact hb pins s1 σ H1 Q I1 q1
  | false => exact ⟨.bl false, H1, I1, rfl, q1⟩
theorem pe_not (ha : PE X a ta) : PE X (.UnaryOp .Not a pos) (tNotV ta) := by
  intro pins s σ H Q I h
  refine UnaryOp_ (thn (ha pins s σ H _ I h) fun v s1 zz => ?_)
  obtain ⟨x, H1, I1, r1, q1⟩ := zz
  obtain ⟨c, rfl, q1⟩ := q1
  cases r1
  exact not_of (wpAny_truthy_bool ⟨.bl (!c), H1, I1, rfl, q1⟩)
end
end L2

namespace L2
open PySem PySem.Spec PyProof.Rows

/-! ### a list, a tuple that is read: tracked, frozen, or an object of the module -/
noncomputable def SqL (K : PySem.W.Frag) (H : Hp) (a : Addr) (xs : List V) : Prop :=
  Rd H a (.lst xs) ∨
    ∃ (o : Obj) (its : Array Value) (n : Nat), K.lookup a = some o ∧ o.cls = .type "list" ∧ o.dict = none ∧ o.data = .seq its n ∧ its.size ≤ sizeLine ∧ Vals xs its.toList
noncomputable def SqT (K : PySem.W.Frag) (H : Hp) (a : Addr) (xs : List V) : Prop :=
  Rd H a (.tup xs) ∨
    ∃ (o : Obj) (its : Array Value) (n : Nat), K.lookup a = some o ∧ o.cls = .type "tuple" ∧ o.data = .seq its n ∧ its.size ≤ sizeLine ∧ Vals xs its.toList
noncomputable def absV : Value → Option V
  | .none => some .non
  | .bool b => some (.bl b)
  | .int i _ => some (.int i)
  | .str x _ => some (.str x)
  | .bytes b _ => some (.byt b)
  | .float b _ => some (.flt b)
  | .ref a => some (.ref a)
  | .type n => some (.ty n)
  | _ => none
theorem RelV.abs {x : V} {u : Value} (r : RelV x u) : absV u = some x := by
  cases x with
  | non => cases r; rfl
  | bl _ => cases r; rfl
  | int _ => obtain ⟨t, rfl⟩ := r; rfl
  | str _ => obtain ⟨t, rfl⟩ := r; rfl
  | byt _ => obtain ⟨t, rfl⟩ := r; rfl
  | flt _ => obtain ⟨t, rfl⟩ := r; rfl
  | ref _ => cases r; rfl
  | ty _ => cases r; rfl
theorem RelV.inj {x y : V} {u : Value} (r : RelV x u) (q : RelV y u) : x = y := Option.some.inj (r.abs.symm.trans q.abs)
theorem Vals.inj : ∀ {xs ys : List V} {us : List Value}, Vals xs us → Vals ys us → xs = ys
  | _, _, _, .nil, .nil => rfl
  | _, _, _, .cons r t, .cons r' t' => by rw [r.inj r', Vals.inj t t']
section
variable {X : Cx} {pins : List (Addr × Obj)} {σ : St} {H : Hp} {s : Shared} {a : Addr} {xs ys : List V}
theorem SqL.of {K : PySem.W.Frag} (h : H a = some (.lst xs)) : SqL K H a xs := .inl (.inl h)
theorem SqT.of {K : PySem.W.Frag} (h : H a = some (.tup xs)) : SqT K H a xs := .inl (.inl h)
theorem Inv.list (I : Inv X pins σ H s) (h : SqL X.K H a xs) : ∃ its : List Value, Vals xs its ∧ PlainL s.heap a its.toArray ∧ xs.length ≤ sizeLine := by
  rcases h with h | ⟨o, its, n, hk, hc, hd, hs, hz, r⟩
  · obtain ⟨z, its, n, r, e⟩ := h.ok I.hok
    exact ⟨its, r, ⟨_, n, e, rfl, rfl, rfl⟩, z⟩
  · refine ⟨its.toList, r, ⟨o, n, I.kIn a o hk, hc, hd, by simpa using hs⟩, ?_⟩
    have e := r.length
    simp only [Array.length_toList] at e
    omega
theorem Inv.tuple (I : Inv X pins σ H s) (h : SqT X.K H a xs) : ∃ its : List Value, Vals xs its ∧ IsTup s.heap a its.toArray ∧ xs.length ≤ sizeLine := by
  rcases h with h | ⟨o, its, n, hk, hc, hs, hz, r⟩
  · obtain ⟨z, its, r, p⟩ := h.ok I.hok
    exact ⟨its, r, p, z⟩
  · refine ⟨its.toList, r, ⟨o, I.kIn a o hk, hc, n, by simpa using hs⟩, ?_⟩
    have e := r.length
    simp only [Array.length_toList] at e
    omega
theorem Inv.list_inj (I : Inv X pins σ H s) (h : SqL X.K H a xs) (h' : SqL X.K H a ys) : xs = ys := by
  obtain ⟨its, r, ⟨o, n, e, _, _, d⟩, _⟩ := I.list h
  obtain ⟨its', r', ⟨o', n', e', _, _, d'⟩, _⟩ := I.list h'
  rw [e] at e'; cases e'
  rw [d] at d'
  injection d' with d1 _
  have : its = its' := by simpa using congrArg Array.toList d1
  subst this
  exact r.inj r'
end

/-! ### another wish about exceptions -/
noncomputable abbrev Cx.wish (X : Cx) (E : Value → Shared → Prop) : Cx := { X with xe := E }
/-- no exception leaves -/
noncomputable abbrev Cx.nox (X : Cx) : Cx := X.wish fun _ _ => False
theorem Cx.Ok.wish {X : Cx} (ok : X.Ok) (E : Value → Shared → Prop) : (X.wish E).Ok :=
  ⟨ok.mod, ok.kind, ok.glob, ok.blt, ok.above, ok.inj, ok.has, ok.cab, ok.hd, ok.frames, ok.stk, ok.exf, ok.bs, ok.bsz, ok.noex, ok.exfs, ok.funs, ok.frf⟩
theorem Cx.Ok.unwish {X : Cx} {E : Value → Shared → Prop} (ok : (X.wish E).Ok) : X.Ok :=
  ⟨ok.mod, ok.kind, ok.glob, ok.blt, ok.above, ok.inj, ok.has, ok.cab, ok.hd, ok.frames, ok.stk, ok.exf, ok.bs, ok.bsz, ok.noex, ok.exfs, ok.funs, ok.frf⟩
section
variable {X : Cx} {pins : List (Addr × Obj)} {σ : St} {H : Hp} {s : Shared} {E : Value → Shared → Prop}
theorem Inv.wish (I : Inv X pins σ H s) (E : Value → Shared → Prop) : Inv (X.wish E) pins σ H s := ⟨I.ok.wish E, I.os, I.bare, I.base, I.loc, I.cell, I.free, I.freeC, I.pin, I.hok, I.len⟩
theorem Inv.unwish (I : Inv (X.wish E) pins σ H s) : Inv X pins σ H s := ⟨I.ok.unwish, I.os, I.bare, I.base, I.loc, I.cell, I.free, I.freeC, I.pin, I.hok, I.len⟩
theorem SP.unwish {D : Ends} {f : Flow} {s' : Shared} (h : SP (X.wish E) pins D f s') : SP X pins D f s' := by
  cases f with
  | next => obtain ⟨σ', H', I, q⟩ := h; exact ⟨σ', H', I.unwish, q⟩
  | brk => obtain ⟨σ', H', I, q⟩ := h; exact ⟨σ', H', I.unwish, q⟩
  | cont => obtain ⟨σ', H', I, q⟩ := h; exact ⟨σ', H', I.unwish, q⟩
  | ret u => obtain ⟨v, σ', H', I, r, q⟩ := h; exact ⟨v, σ', H', I.unwish, r, q⟩
theorem PSs.nox {st : List Stmt} {t : TS} (h : PSs X.nox st t) : PSs X st t := fun pins s σ H D I hw =>
  wpAny_mono (h pins s σ H D (I.wish _) hw) (fun _ _ q => q.unwish) fun _ _ z => False.elim z
end

/-! ### blocks and small statements -/
section
variable {X : Cx} {st : Stmt} {rest : List Stmt} {t u : TS} {e : Expr} {te : TE} {pos : Pos}
noncomputable def tNext : TS := fun D σ H => D.nx σ H
noncomputable def tSeq (t u : TS) : TS := fun D σ H => t { D with nx := u D } σ H
theorem pss_nil : PSs X [] tNext := fun _ _ σ H _ I h => wpAny_execs_nil ⟨σ, H, I, h⟩
theorem pss_cons (h1 : PS X st t) (h2 : PSs X rest u) : PSs X (st :: rest) (tSeq t u) := by
  intro pins s σ H D I h
  refine wpAny_execs_cons (thn (h1 pins s σ H { D with nx := u D } I h) fun f s1 q => ?_)
  cases f with
  | next =>
    obtain ⟨σ', H', I', q⟩ := q
    exact h2 pins s1 σ' H' D I' q
  | ret v => exact q
  | brk => exact q
  | cont => exact q
theorem pss_one (h1 : PS X st t) : PSs X [st] t := by
  intro pins s σ H D I h
  refine wpAny_execs_cons (thn (h1 pins s σ H D I h) fun f s1 q => ?_)
  cases f with
  | next => exact wpAny_execs_nil q
  | ret v => exact q
  | brk => exact q
  | cont => exact q
/-- in a def's body nothing is shown -/
theorem Inv.quiet {pins : List (Addr × Obj)} {σ : St} {H : Hp} {s : Shared} (I : Inv X pins σ H s) : interactive X.env = false := by simp [interactive, I.ok.kind]
/-- an expression whose value is dropped -/
noncomputable def tDrop (te : TE) : TS := fun D σ H => te σ H fun _ H1 => D.nx σ H1
theorem ps_expr (he : PE X e te) (hs : swapsWith e none pos.line X.env = pure false := by rfl) : PS X (.Expr e pos) (tDrop te) := by
  intro pins s σ H D I h
  exact wpAny_Expr_any (thn (he pins s σ H _ I h) fun v s1 ⟨x, H1, I1, r1, q1⟩ => ⟨σ, H1, I1, q1⟩) I.quiet hs
noncomputable def tRet (te : TE) : TS := fun D σ H => te σ H D.rt
theorem ps_ret (he : PE X e te) : PS X (.Return (some e) pos) (tRet te) := by
  intro pins s σ H D I h
  exact wpAny_Return_some (thn (he pins s σ H _ I h) fun v s1 ⟨x, H1, I1, r1, q1⟩ => ⟨x, σ, H1, I1, r1, q1⟩)
noncomputable def tIfS (c : TT) (t u : TS) : TS := fun D σ H => c σ H fun b H1 => if b = true then t D σ H1 else u D σ H1
theorem ps_if {c : Expr} {a b : List Stmt} {tc : TT} (hc : PT X c tc) (ha : PSs X a t) (hb : PSs X b u) : PS X (.If c a b pos) (tIfS tc t u) := by
  intro pins s σ H D I h
  refine wpAny_If (thn (hc pins s σ H _ I h) fun d s1 zz => ?_)
  obtain ⟨H1, I1, q1⟩ := zz
  cases d with
  | true => exact ha pins s1 σ H1 D I1 q1
  | false => exact hb pins s1 σ H1 D I1 q1
/-- code that the proof never comes to -/
noncomputable def tNever : TS := fun _ _ _ => False
theorem ps_never : PS X st tNever := fun _ _ _ _ _ _ h => h.elim
end

/-! ### targets -/
noncomputable abbrev TG := V → St → Hp → (St → Hp → Prop) → Prop
noncomputable abbrev TGs := List V → St → Hp → (St → Hp → Prop) → Prop
noncomputable def PG (X : Cx) (target : Expr) (t : TG) : Prop :=
  ∀ (pins : List (Addr × Obj)) (s : Shared) (σ : St) (H : Hp) (v : V) (u : Value) (Q : St → Hp → Prop), Inv X pins σ H s → RelV v u → t v σ H Q →
    wpAny (model X.prog X.w) X.A (assign target X.env u) (fun _ s' => ∃ σ' H', Inv X pins σ' H' s' ∧ Q σ' H') X.xe s
/-- several targets, one after another -/
noncomputable def PGs (X : Cx) (ts : List Expr) (t : TGs) : Prop :=
  ∀ (pins : List (Addr × Obj)) (s : Shared) (σ : St) (H : Hp) (vs : List V) (us : List Value) (Q : St → Hp → Prop), Inv X pins σ H s → Vals vs us → t vs σ H Q →
    wpAny (model X.prog X.w) X.A (assignInOrder ((assignEach ts X.env).map (·.2)) us) (fun _ s' => ∃ σ' H', Inv X pins σ' H' s' ∧ Q σ' H') X.xe s
/-- o[i] = v, by values -/
noncomputable abbrev TSet := V → V → V → Hp → (Hp → Prop) → Prop
noncomputable def PSet (X : Cx) (t : TSet) : Prop :=
  ∀ (pins : List (Addr × Obj)) (s : Shared) (σ : St) (H : Hp) (o i v : V) (ov iv u : Value) (Q : Hp → Prop), Inv X pins σ H s → RelV o ov → RelV i iv → RelV v u → t o i v H Q →
    wpAny (model X.prog X.w) X.A (setItem ov iv u) (fun _ s' => ∃ H', Inv X pins σ H' s' ∧ Q H') X.xe s
section
variable {X : Cx} {pos : Pos}
noncomputable def gName (i : Nat) : TG := fun v σ H Q => Q (σ.set i (some v)) H
theorem pg_name {i : Nat} {x : Str} (hN : X.N.Nodup) (hi : X.N[i]? = some x) (hx : Loc X.env.scope x) (hf : X.fn x = true ∨ X.env.scope.names.lookup x = some .local := by first | exact .inl rfl | exact .inr rfl | assumption) : PG X (.Name x pos) (gName i) := by
  intro pins s σ H v u Q I r h
  exact wpAny_assign_Name (store_ok I hN hi hx r (fun s' I' => ⟨_, H, I', h⟩) hf)
noncomputable def gNil : TGs := fun vs σ H Q => vs = [] ∧ Q σ H
noncomputable def gCons (t : TG) (u : TGs) : TGs := fun vs σ H Q => ∃ v r, vs = v :: r ∧ t v σ H fun σ' H' => u r σ' H' Q
theorem pgs_nil : PGs X [] gNil := by
  intro pins s σ H vs us Q I r h
  obtain ⟨e, h⟩ := h
  subst e
  cases r
  exact assignInOrder_nil ⟨σ, H, I, h⟩
theorem pgs_cons {e : Expr} {es : List Expr} {t : TG} {u : TGs} (h1 : PG X e t) (h2 : PGs X es u)
    (hs : (assignEach (e :: es) X.env).map (·.2) = assign e X.env :: (assignEach es X.env).map (·.2) := by rfl) : PGs X (e :: es) (gCons t u) := by
  intro pins s σ H vs us Q I r h
  obtain ⟨v, vr, e1, h⟩ := h
  subst e1
  cases r with
  | cons r rr =>
    rw [hs]
    refine assignInOrder_cons (thn (h1 pins s σ H _ _ _ I r h) fun _ s1 zz => ?_)
    obtain ⟨σ1, H1, I1, q1⟩ := zz
    exact h2 pins s1 σ1 H1 _ _ Q I1 rr q1
/-- (a, b, ..) = a tuple of that length -/
noncomputable def gTup (K : PySem.W.Frag) (n : Nat) (t : TGs) : TG := fun v σ H Q => ∃ a xs, v = .ref a ∧ SqT K H a xs ∧ xs.length = n ∧ t xs σ H Q
theorem pg_tup {es : List Expr} {k : Nat} {t : TGs} {n : Nat} (hc : X.calm = true) (h : PGs X es t)
    (hn : (assignEach es X.env).length = n := by rfl) (hst : (assignEach es X.env).findIdx? (·.1) = none := by rfl) : PG X (.Tuple es k pos) (gTup X.K n t) := by
  intro pins s σ H v u Q I r hw
  obtain ⟨a, xs, e1, hq, hl, hw⟩ := hw
  subst e1
  cases r
  obtain ⟨its, rv, ht, hz⟩ := I.tuple hq
  refine assign_Tuple_tuple (I.ok.hd hc) ht (by simp [hn, ← hl, rv.length]) hst fun h' hx => ?_
  have I1 : Inv X pins σ H { s with heap := h' } := I.kept (t' := s.toks) fun b o e => hx b o (Nat.ne_of_lt (Heap.lt_size e)) e
  exact h pins _ σ H xs _ Q I1 (by simpa using rv) hw
/-- o[i] = .. -/
noncomputable def gSub (to ti : TE) (t : TSet) : TG := fun v σ H Q => to σ H fun o H1 => ti σ H1 fun i H2 => t o i v H2 fun H3 => Q σ H3
theorem pg_sub {o i : Expr} {to ti : TE} {t : TSet} (ho : PE X o to) (hi : PE X i ti) (hs : PSet X t)
    (ha : ∀ v, assign (.Subscript o i pos) X.env v = (do
      let ov ← holding [v] (eval o X.env)
      let iv ← holding [v, ov] (eval i X.env)
      standAt pos
      holding [v, ov, iv] (setItem ov iv v)
      release [v, ov, iv] []) := by intro _; rfl) : PG X (.Subscript o i pos) (gSub to ti t) := by
  intro pins s σ H v u Q I r h
  rw [ha]
  refine wpAny_bind (wpAny_holding (thn (ho pins s σ H _ I h) fun ov s1 zz => ?_))
  obtain ⟨x, H1, I1, r1, q1⟩ := zz
  refine wpAny_bind (wpAny_holding (thn (hi pins s1 σ H1 _ I1 q1) fun iv s2 zz => ?_))
  obtain ⟨y, H2, I2, r2, q2⟩ := zz
  refine wpAny_bind (wpAny_standAt (wpAny_bind (wpAny_holding (thn (hs pins s2 σ H2 x y v ov iv u _ I2 r1 r2 r q2) fun _ s3 zz => ?_))))
  obtain ⟨H3, I3, q3⟩ := zz
  exact wpAny_release ⟨σ, H3, I3, q3⟩
/-- target = value -/
noncomputable def tAsg (te : TE) (g : TG) : TS := fun D σ H => te σ H fun x H1 => g x σ H1 D.nx
theorem ps_asg {tg e : Expr} {te : TE} {g : TG} (he : PE X e te) (hg : PG X tg g) (hs : swapsWithSole [tg] e pos.line X.env = pure false := by rfl) (hw : swappedStores [tg] e X.env = pure none := by rfl)
    (h1 : (assignEach [tg] X.env).map (·.2) = [assign tg X.env] := by rfl) : PS X (.Assign [tg] e pos) (tAsg te g) := by
  intro pins s σ H D I h
  refine wpAny_Assign_stores (thn (he pins s σ H _ I h) fun v s1 zz => ?_) hs hw
  obtain ⟨x, H1, I1, r1, q1⟩ := zz
  rw [h1]
  exact thn (hg pins s1 σ H1 x v _ I1 r1 q1) fun _ s2 q => q
/-- name = value -/
theorem ps_set {i : Nat} {x : Str} {e : Expr} {te : TE} {pos' : Pos} (hN : X.N.Nodup) (hi : X.N[i]? = some x) (hx : Loc X.env.scope x) (he : PE X e te) (hs : swapsWith e (some (.Name x pos')) pos.line X.env = pure false := by rfl) (hf : X.fn x = true ∨ X.env.scope.names.lookup x = some .local := by first | exact .inl rfl | exact .inr rfl | assumption) :
    PS X (.Assign [.Name x pos'] e pos) (tAsg te (gName i)) := by
  intro pins s σ H D I h
  refine wpAny_Assign_Name (thn (he pins s σ H _ I h) fun v s1 zz => ?_) hs
  obtain ⟨y, H1, I1, r1, q1⟩ := zz
  exact store_ok I1 hN hi hx r1 (fun s2 I2 => ⟨_, H1, I2, q1⟩) hf
end

/-! ### while -/
section
variable {X : Cx} {pos : Pos}
end

/-! ### what a loop or a comprehension walks -/
/-- at turn i: it yields x (the heap may grow), or it stops -/
structure It where
  go : Nat → Hp → Prop
  yld : Nat → Hp → V → Hp → Prop
  stop : Nat → Hp → Prop
/-- the iterator's own objects may turn: they are not the frame's, not pinned, younger than the entry (or a comprehension's own) -/
noncomputable def FpOk (X : Cx) (pins : List (Addr × Obj)) (H : Hp) (b : Addr) : Prop :=
  H b = none ∧ b ≠ X.env.locals ∧ b ∉ X.fs ∧ (b ∈ X.ex ∨ X.s₀.heap.objs.size ≤ b) ∧ (∀ x c, X.env.cells.lookup x = some c → c ≠ b) ∧ ∀ p ∈ X.pn ++ pins, p.1 ≠ b
theorem Inv.fpOk {X : Cx} {pins : List (Addr × Obj)} {σ : St} {H H' : Hp} {s : Shared} {b : Addr} (I : Inv X pins σ H s) (hb : s.heap.objs.size ≤ b) (hn : H' b = none) : FpOk X pins H' b := by
  refine ⟨hn, Nat.ne_of_gt (Nat.lt_of_lt_of_le I.lt hb), I.nofs hb, .inr (Nat.le_trans I.sz hb), fun x c e z => ?_, fun p hp z => ?_⟩
  · obtain ⟨v, q⟩ := I.cell x c e
    exact absurd (Nat.lt_of_lt_of_le q.lt (by rw [z]; exact hb)) (Nat.lt_irrefl _)
  · exact absurd (Nat.lt_of_lt_of_le (Heap.lt_size (I.pin p hp).1) (by rw [z]; exact hb)) (Nat.lt_irrefl _)
structure Turn (P : Program) (w : World) (K : PySem.W.Frag) (tg : Expr) (J : It) (fp : List Addr) (it : Addr) (tn : Nat → Heap → Prop) : Prop where
  mem : it ∈ fp
  obj : ∀ i h, tn i h → ∀ b ∈ fp, ∃ o, h.get? b = some o ∧ ∀ v, o.data ≠ .cell v
  keep : ∀ i h h', tn i h → (∀ b ∈ fp, ∀ o, h.get? b = some o → h'.get? b = some o) → tn i h'
  item : ∀ (X : Cx), X.prog = P → X.w = w → X.K = K → X.calm = true → ∀ (i : Nat) (pins : List (Addr × Obj)) (s : Shared) (σ : St) (H : Hp) (E : Value → Shared → Prop), Inv X pins σ H s → (∀ b ∈ fp, FpOk X pins H b) → tn i s.heap → J.go i H →
    wpAny (model P w) X.A (pyNext (.ref it)) (fun r s1 => ∃ u, r = some u ∧
      wpAny (model P w) X.A (letOwnedTupleGo tg (.ref it) u) (fun _ s2 => ∃ x H', Inv X pins σ H' s2 ∧ RelV x u ∧ J.yld i H x H' ∧ tn (i + 1) s2.heap ∧ ∀ b ∈ fp, H' b = none) E s1) E s
  done : ∀ (X : Cx), X.prog = P → X.w = w → X.K = K → X.calm = true → ∀ (i : Nat) (pins : List (Addr × Obj)) (s : Shared) (σ : St) (H : Hp) (E : Value → Shared → Prop), Inv X pins σ H s → (∀ b ∈ fp, FpOk X pins H b) → tn i s.heap → J.stop i H →
    wpAny (model P w) X.A (pyNext (.ref it)) (fun r s1 => r = none ∧ Inv X pins σ H s1) E s
  self : ∀ (A : Around) (i : Nat) (s : Shared) (Q : Value → Shared → Prop) (E : Value → Shared → Prop), tn i s.heap → Q (.ref it) s → wpAny (model P w) A (pyIter (.ref it)) Q E s
noncomputable abbrev TI := St → Hp → (It → Hp → Prop) → Prop
/-- an iterator has come -/
noncomputable def PIE (X : Cx) (pins : List (Addr × Obj)) (σ : St) (tg : Expr) (R : It → Hp → Prop) (itv : Value) (s2 : Shared) : Prop :=
  ∃ (it : Addr) (fp : List Addr) (tn : Nat → Heap → Prop) (J : It) (H' : Hp), itv = .ref it ∧ Inv X pins σ H' s2 ∧ Turn X.prog X.w X.K tg J fp it tn ∧ tn 0 s2.heap ∧ (∀ b ∈ fp, FpOk X pins H' b) ∧ R J H'
noncomputable def PI (X : Cx) (tg iter : Expr) (wi : TI) : Prop :=
  ∀ (pins : List (Addr × Obj)) (s : Shared) (σ : St) (H : Hp) (R : It → Hp → Prop), Inv X pins σ H s → wi σ H R →
    wpAny (model X.prog X.w) X.A (eval iter X.env) (fun v s1 => wpAny (model X.prog X.w) X.A (pyIter v) (PIE X pins σ tg R) X.xe s1) X.xe s

/-- the step ahead of the store is nothing for an iterator that keeps no tuple -/
theorem go_of {M : Model} {A : Around} {E : Value → Shared → Prop} {s : Shared} {tg : Expr} {it : Addr} {u : Value} {o : Obj} {n : String} {vs : Array Value} {Q : Unit → Shared → Prop} (ho : s.heap.get? it = some o) (hc : o.cls = .type n) (hd : o.data = .fields vs)
    (hn : ["enumerate", "zip", "dict_itemiterator", "dict_reverseitemiterator", "odict_iterator", "itertools.zip_longest", "itertools.pairwise"].contains n = false) (hQ : Q () s) : wpAny M A (letOwnedTupleGo tg (.ref it) u) Q E s := by
  unfold letOwnedTupleGo
  cases tg <;> first
    | exact wpAny_pure hQ
    | (cases u <;> first
        | exact wpAny_pure hQ
        | (refine wpAny_bind (wpAny_load ho ?_)
           rw [hc, hd]
           show wpAny M A (if (["enumerate", "zip", "dict_itemiterator", "dict_reverseitemiterator", "odict_iterator", "itertools.zip_longest", "itertools.pairwise"].contains n && vs[0]? == some (rawInt _)) = true then _ else _) Q E s
           rw [if_neg (by intro h; rw [hn, Bool.false_and] at h; cases h)]
           exact wpAny_pure hQ))

/-- the list at a, as it stands at each turn (a loop may append to it) -/
noncomputable def Itl (K : PySem.W.Frag) (a : Addr) : It :=
  ⟨fun i H => ∃ xs x, SqL K H a xs ∧ xs[i]? = some x, fun i H x H' => H' = H ∧ ∀ xs, SqL K H a xs → xs[i]? = some x, fun i H => ∃ xs, SqL K H a xs ∧ xs.length ≤ i⟩
/-- lo, lo + 1, .. (n of them) -/
noncomputable def Itr (lo : Int) (n : Nat) : It := ⟨fun i _ => i < n, fun i H x H' => H' = H ∧ x = .int (lo + i), fun i _ => n ≤ i⟩
theorem turn_list {P : Program} {w : World} {K : PySem.W.Frag} {tg : Expr} (a it : Addr) : Turn P w K tg (Itl K a) [it] it (fun i h => h.IsListIter it a i) where
  mem := by simp
  obj := fun i h st b hb => by
    have e : b = it := by simpa using hb
    subst e
    obtain ⟨o, e, c, d⟩ := st
    exact ⟨o, e, fun v z => by rw [d] at z; cases z⟩
  keep := fun i h h' st k => st.at fun o e => k it (by simp) o e
  item := by
    intro X hP hw hK hc i pins s σ H E I hf st hg
    subst hP hw hK
    obtain ⟨xs, x, hq, hx⟩ := hg
    obtain ⟨its, rv, p, hz⟩ := I.list hq
    obtain ⟨u, hu, ru⟩ := rv.get hx
    obtain ⟨f0, f1, f2, f3, f4, f5⟩ := hf it (by simp)
    refine wpAny_pyNext_list_item st p.isList (x := u) (by simpa using hu) fun h' st' sb => ?_
    have I1 : Inv X pins σ H { s with heap := h' } := I.turned (t' := s.toks) (fun b o hb e => (sb.2 b hb).trans e) f0 f1 f3 f4 f5
    obtain ⟨o, e, c, d⟩ := id st'
    exact ⟨u, rfl, go_of (s := { s with heap := h' }) e c d (by decide) ⟨x, H, I1, ru, ⟨rfl, fun ys hy => by rw [I.list_inj hy hq]; exact hx⟩, st', fun b hb => (hf b hb).1⟩⟩
  done := by
    intro X hP hw hK hc i pins s σ H E I hf st hg
    subst hP hw hK
    obtain ⟨xs, hq, hx⟩ := hg
    obtain ⟨its, rv, p, hz⟩ := I.list hq
    obtain ⟨f0, f1, f2, f3, f4, f5⟩ := hf it (by simp)
    have hl := rv.length
    exact wpAny_pyNext_list_end (I.ok.hd hc) st p.isList (by simp; omega) fun h' eb => ⟨rfl, I.turned (t' := s.toks) (fun b o hb e => eb b o hb e) f0 f1 f3 f4 f5⟩
  self := fun _ _ _ _ _ st h => wpAny_pyIter_listiter st h
theorem turn_range {P : Program} {w : World} {K : PySem.W.Frag} {tg : Expr} (it : Addr) (lo : Int) (n : Nat) : Turn P w K tg (Itr lo n) [it] it (fun i h => IsRangeIter h it (lo + (i : Nat) * 1) ((n : Int) - (i : Nat)) 1) where
  mem := by simp
  obj := fun i h st b hb => by
    have e : b = it := by simpa using hb
    subst e
    exact ⟨_, st, fun v z => by
      have z' : Data.fields _ = Data.cell v := z
      cases z'⟩
  keep := fun i h h' st k => k it (by simp) _ st
  item := by
    intro X hP hw hK hc i pins s σ H E I hf st hg
    subst hP hw hK
    obtain ⟨f0, f1, f2, f3, f4, f5⟩ := hf it (by simp)
    have W := Walks.range (prog := X.prog) (w := X.w) (I.ok.hd hc) it lo 1 n
    refine W.item i s _ _ hg st fun v h' tk hv st' kk => ?_
    obtain ⟨t, rfl⟩ := hv
    have I1 : Inv X pins σ H { s with heap := h', toks := tk } := I.turned (fun b o hb e => kk b o (by simpa using hb) e) f0 f1 f3 f4 f5
    refine ⟨_, rfl, go_of (s := { s with heap := h', toks := tk }) (n := "range_iterator") st' rfl rfl (by decide) ⟨.int (lo + i), H, I1, ⟨t, ?_⟩, ⟨rfl, rfl⟩, st', fun b hb => (hf b hb).1⟩⟩
    rw [Int.mul_one]
  done := by
    intro X hP hw hK hc i pins s σ H E I hf st hg
    subst hP hw hK
    obtain ⟨f0, f1, f2, f3, f4, f5⟩ := hf it (by simp)
    exact wpAny_pyNext_range_end (I.ok.hd hc) st (by have : n ≤ i := hg; omega) fun h' eb => ⟨rfl, I.turned (t' := s.toks) (fun b o hb e => eb b o hb e) f0 f1 f3 f4 f5⟩
  self := fun _ _ _ _ _ st h => wpAny_pyIter_rangeiter st h
end L2

namespace L2
open PySem PySem.Spec PyProof.Rows
section
variable {X : Cx} {tg : Expr}
noncomputable def iList (K : PySem.W.Frag) (tl : TE) : TI := fun σ H R => tl σ H fun x H1 => ∃ a, x = .ref a ∧ (∃ xs, SqL K H1 a xs) ∧ R (Itl K a) H1
theorem pi_list {l : Expr} {tl : TE} (hl : PE X l tl) : PI X tg l (iList X.K tl) := by
  intro pins s σ H R I h
  refine thn (hl pins s σ H _ I h) fun v s1 zz => ?_
  obtain ⟨x, H1, I1, r1, q1⟩ := zz
  obtain ⟨a, e, ⟨xs, hq⟩, q⟩ := q1
  subst e
  cases r1
  obtain ⟨its, rv, p, hz⟩ := I1.list hq
  refine wpAny_pyIter_list p.isList ?_
  refine ⟨s1.heap.objs.size, [s1.heap.objs.size], _, _, H1, rfl, I1.kept (t' := s1.toks) fun b o e => Heap.get?_push_of_some _ e, turn_list a _, ⟨_, Heap.get?_push_size _ rfl, rfl, rfl⟩, fun b hb => ?_, q⟩
  have e : b = s1.heap.objs.size := by simpa using hb
  subst e
  exact I1.fpOk (Nat.le_refl _) (I1.hok.fresh (Nat.le_refl _))
/-- a range object just made, walked -/
theorem range_it {pins : List (Addr × Obj)} {σ : St} {H : Hp} {s : Shared} {R : It → Hp → Prop} {E : Value → Shared → Prop} {lo hi : Int} {t u v : Tok} {tk : Nat} (I : Inv X pins σ H s) (h1 : -(2 ^ 62) ≤ lo) (h2 : lo < 2 ^ 62) (h3 : -(2 ^ 62) ≤ hi) (h4 : hi < 2 ^ 62)
    (q : R (Itr lo (hi - lo).toNat) H) : wpAny (model X.prog X.w) X.A (pyIter (.ref s.heap.objs.size)) (PIE X pins σ tg R) E { s with heap := s.heap.push { cls := .type "range", data := .fields #[.int lo t, .int hi u, .int 1 v] }, toks := tk } := by
  refine wpAny_pyIter_range (IsRange.new ..) (small_one h1 h2 h3 h4) ?_
  have I1 : Inv X pins σ H { s with heap := s.heap.push { cls := .type "range", data := .fields #[.int lo t, .int hi u, .int 1 v] }, toks := tk } := I.kept fun b o e => Heap.get?_push_of_some _ e
  refine ⟨(s.heap.push { cls := .type "range", data := .fields #[.int lo t, .int hi u, .int 1 v] }).objs.size, [(s.heap.push { cls := .type "range", data := .fields #[.int lo t, .int hi u, .int 1 v] }).objs.size], _, _, H, rfl,
    I1.kept (t' := tk) fun b o e => Heap.get?_push_of_some _ e, turn_range _ lo (hi - lo).toNat, ?_, fun b hb => ?_, q⟩
  · have e1 : lo + ((0 : Nat) : Int) * 1 = lo := by simp
    have e2 : (((hi - lo).toNat : Nat) : Int) - ((0 : Nat) : Int) = Builtin.Range.rangeSize lo hi 1 := by rw [rangeSize_one]; split <;> omega
    show IsRangeIter _ _ (lo + ((0 : Nat) : Int) * 1) ((((hi - lo).toNat : Nat) : Int) - ((0 : Nat) : Int)) 1
    rw [e1, e2]
    exact Heap.get?_push_size _ rfl
  · have e : b = (s.heap.push { cls := .type "range", data := .fields #[.int lo t, .int hi u, .int 1 v] }).objs.size := by simpa using hb
    subst e
    exact I1.fpOk (Nat.le_refl _) (I1.hok.fresh (Nat.le_refl _))
noncomputable def iRng1 (ta : TA) : TI := fun σ H R => ta σ H fun vs H1 => ∃ j : Int, vs = [.int j] ∧ -(2 ^ 62) ≤ j ∧ j < 2 ^ 62 ∧ R (Itr 0 j.toNat) H1
theorem pi_range1 {a : Expr} {ta : TA} {p pos : Pos} (hg : Gl X "range") (hm : X.mg "range" = none) (ha : PA X [a] ta) (hs : starEach [a] X.env = [(false, eval a X.env)] := by rfl) : PI X tg (.Call (.Name "range" p) [a] [] pos) (iRng1 ta) := by
  intro pins s σ H R I h
  refine Call_ (ld_blt I hg hm boot_range (PyProof.Rows.callWith_type1 (thn (ha pos pins s σ H _ I h) fun us s1 zz => ?_) hs rfl))
  obtain ⟨vs, H1, I1, r1, q1⟩ := zz
  obtain ⟨j, e, q1, q2, q⟩ := q1
  subst e
  cases r1 with
  | cons r rr =>
    cases rr
    obtain ⟨t, rfl⟩ := r
    exact call_range_1 (range_it I1 (by omega) (by omega) q1 q2 (by simpa using q))

/-! ### for -/
/-- W: the invariant by the turn and a measure; N: what the body is to reach -/
noncomputable def tFor (wi : TI) (g : TG) (tb : TS) : TS := fun D σ H => wi σ H fun J H1 => ∃ W : Nat → Nat → St → Hp → Prop, (∃ m, W 0 m σ H1) ∧ ∀ i m σ H, W i m σ H →
  (J.stop i H ∧ D.nx σ H) ∨ (J.go i H ∧ ∃ N : St → Hp → Prop, (∀ σ' H', N σ' H' → ∃ m', m' < m ∧ W (i + 1) m' σ' H') ∧ ∀ x H', J.yld i H x H' → g x σ H' fun σ2 H2 => tb { D with nx := N, ct := N, bk := D.nx } σ2 H2)
/-- the records at fp as they stand -/
noncomputable def pinsAt (fp : List Addr) (h : Heap) : List (Addr × Obj) := fp.filterMap fun b => (h.get? b).map fun o => (b, o)
theorem mem_pinsAt {fp : List Addr} {h : Heap} {b : Addr} {o : Obj} (hb : b ∈ fp) (e : h.get? b = some o) : (b, o) ∈ pinsAt fp h := List.mem_filterMap.mpr ⟨b, hb, by rw [e]; rfl⟩
theorem of_pinsAt {fp : List Addr} {h : Heap} {p : Addr × Obj} (hp : p ∈ pinsAt fp h) : p.1 ∈ fp ∧ h.get? p.1 = some p.2 := by
  obtain ⟨b, hb, e⟩ := List.mem_filterMap.mp hp
  cases q : h.get? b with
  | none => rw [q] at e; cases e
  | some o =>
    rw [q] at e
    have e' : (b, o) = p := Option.some.inj e
    subst e'
    exact ⟨hb, q⟩
theorem Inv.pinned {pins : List (Addr × Obj)} {σ : St} {H : Hp} {s : Shared} {fp : List Addr} (I : Inv X pins σ H s) (hf : ∀ b ∈ fp, FpOk X pins H b) (ho : ∀ b ∈ fp, ∃ o, s.heap.get? b = some o ∧ ∀ v, o.data ≠ .cell v) : Inv X (pins ++ pinsAt fp s.heap) σ H s :=
  I.pins_of fun p hp => (List.mem_append.mp hp).elim (fun z => I.pin p (List.mem_append_right _ z)) fun z => by
    obtain ⟨hb, e⟩ := of_pinsAt z
    obtain ⟨f0, f1, f2, _⟩ := hf p.1 hb
    obtain ⟨o, e', d⟩ := ho p.1 hb
    rw [e] at e'; cases e'
    exact ⟨e, f0, f1, f2, d⟩
theorem Inv.unpinned {pins pl : List (Addr × Obj)} {σ : St} {H : Hp} {s : Shared} (I : Inv X (pins ++ pl) σ H s) : Inv X pins σ H s := I.pins_of fun p hp => I.pin p (List.mem_append_right _ (List.mem_append_left _ hp))
theorem ps_for {iter : Expr} {body : List Stmt} {wi : TI} {g : TG} {tb : TS} {pos : Pos} (hp : PassesOwn (model X.prog X.w) X.A X.env X.xe) (hc : X.calm = true) (hi : PI X tg iter wi) (hg : PG X tg g) (hb : PSs X body tb)
    (hs : ∀ x, foldedSetIterable iter X.env x = pure x := by intro _; rfl) : PS X (.For tg iter body [] pos) (tFor wi g tb) := by
  intro pins s σ H D I h
  refine wpAny_For (thn (hi pins s σ H _ I h) fun v s1 h1 => thn h1 fun itv s2 h2 => ?_) hs
  obtain ⟨it, fp, tn, J, H2, e, I2, T, st2, f2, W, ⟨m0, w0⟩, turn⟩ := h2
  subst e
  -- what stays true of the iterator's objects through the loop
  have stat : ∀ {H' : Hp}, (∀ b ∈ fp, H' b = none) → ∀ b ∈ fp, FpOk X pins H' b := fun hn b hb => ⟨hn b hb, (f2 b hb).2⟩
  refine codeAny_forLoop_any (fun n s' => ∃ i σ' H', Inv X pins σ' H' s' ∧ tn i s'.heap ∧ (∀ b ∈ fp, H' b = none) ∧ W i n σ' H') ?_ m0 ⟨0, σ, H2, I2, st2, fun b hb => (f2 b hb).1, w0⟩
  rintro n s3 ⟨i, σ3, H3, I3, st3, fr3, w3⟩
  rcases turn i n σ3 H3 w3 with ⟨stop, qn⟩ | ⟨go, N, hN, step⟩
  · refine wpAny_passesOwn hp (thn (T.done X rfl rfl rfl hc i pins s3 σ3 H3 X.xe I3 (stat fr3) st3 stop) fun r s4 zz => ?_)
    obtain ⟨hr, I4⟩ := zz
    subst hr
    exact wpAny_execs_nil ⟨σ3, H3, I4, qn⟩
  · refine wpAny_passesOwn hp (thn (T.item X rfl rfl rfl hc i pins s3 σ3 H3 X.xe I3 (stat fr3) st3 go) fun r s4 zz => ?_)
    obtain ⟨u, hr, h4⟩ := zz
    subst hr
    refine wpAny_passesOwn hp (thn h4 fun _ s5 zz => ?_)
    obtain ⟨x, H5, I5, r5, y5, st5, fr5⟩ := zz
    have I5' := I5.pinned (stat fr5) (T.obj _ _ st5)
    refine wpAny_passesOwn hp (thn (hg _ s5 σ3 H5 x u _ I5' r5 (step x H5 y5)) fun _ s6 zz => ?_)
    obtain ⟨σ6, H6, I6, q6⟩ := zz
    refine wpAny_passesOwn hp (thn (hb _ s6 σ6 H6 _ I6 q6) fun f s7 q7 => ?_)
    have again : ∀ {σ7 : St} {H7 : Hp}, Inv X (pins ++ pinsAt fp s5.heap) σ7 H7 s7 → N σ7 H7 → ∃ m, m < n ∧ ∃ i σ' H', Inv X pins σ' H' s7 ∧ tn i s7.heap ∧ (∀ b ∈ fp, H' b = none) ∧ W i m σ' H' := fun {σ7 H7} I7 n7 => by
      obtain ⟨m', hm, w7⟩ := hN σ7 H7 n7
      refine ⟨m', hm, i + 1, σ7, H7, I7.unpinned, T.keep _ _ _ st5 fun b hb o e => (I7.pin (b, o) (List.mem_append_right _ (List.mem_append_right _ (mem_pinsAt hb e)))).1, fun b hb => ?_, w7⟩
      obtain ⟨o, e, d⟩ := T.obj _ _ st5 b hb
      exact (I7.pin (b, o) (List.mem_append_right _ (List.mem_append_right _ (mem_pinsAt hb e)))).2.1
    cases f with
    | next => obtain ⟨σ7, H7, I7, n7⟩ := q7; exact again I7 n7
    | cont => obtain ⟨σ7, H7, I7, n7⟩ := q7; exact again I7 n7
    | brk => obtain ⟨σ7, H7, I7, q7⟩ := q7; exact ⟨σ7, H7, I7.unpinned, q7⟩
    | ret v => obtain ⟨x7, σ7, H7, I7, r7, q7⟩ := q7; exact ⟨x7, σ7, H7, I7.unpinned, r7, q7⟩
end

/-! ### the forms one uses -/
/-- over a list that the body leaves as it is -/
theorem for_list {K : PySem.W.Frag} {a : Addr} {xs : List V} {g : TG} {tb : TS} {D : Ends} {σ : St} {H : Hp} (Pv : Nat → St → Hp → Prop) (h0 : Pv 0 σ H) (hl : ∀ i σ H, i ≤ xs.length → Pv i σ H → SqL K H a xs)
    (hs : ∀ i x σ H, xs[i]? = some x → Pv i σ H → g x σ H fun σ2 H2 => tb { D with nx := Pv (i + 1), ct := Pv (i + 1), bk := D.nx } σ2 H2) (hd : ∀ σ H, Pv xs.length σ H → D.nx σ H) :
    ∃ W : Nat → Nat → St → Hp → Prop, (∃ m, W 0 m σ H) ∧ ∀ i m σ H, W i m σ H →
      ((Itl K a).stop i H ∧ D.nx σ H) ∨ ((Itl K a).go i H ∧ ∃ N : St → Hp → Prop, (∀ σ' H', N σ' H' → ∃ m', m' < m ∧ W (i + 1) m' σ' H') ∧ ∀ x H', (Itl K a).yld i H x H' → g x σ H' fun σ2 H2 => tb { D with nx := N, ct := N, bk := D.nx } σ2 H2) := by
  refine ⟨fun i m σ H => m = xs.length - i ∧ i ≤ xs.length ∧ Pv i σ H, ⟨xs.length, by simp, Nat.zero_le _, h0⟩, ?_⟩
  rintro i m σ H ⟨rfl, hi, p⟩
  have q := hl i σ H hi p
  by_cases hlt : i < xs.length
  · refine .inr ⟨⟨xs, xs[i], q, by simp [hlt]⟩, Pv (i + 1), fun σ' H' p' => ⟨xs.length - (i + 1), by omega, rfl, hlt, p'⟩, fun x H' y => ?_⟩
    obtain ⟨e, y⟩ := y
    subst e
    exact hs i x σ _ (y xs q) p
  · have e : i = xs.length := by omega
    subst e
    exact .inl ⟨⟨xs, q, Nat.le_refl _⟩, hd σ H p⟩
theorem for_range {lo : Int} {n : Nat} {g : TG} {tb : TS} {D : Ends} {σ : St} {H : Hp} (Pv : Nat → St → Hp → Prop) (h0 : Pv 0 σ H)
    (hs : ∀ i σ H, i < n → Pv i σ H → g (.int (lo + i)) σ H fun σ2 H2 => tb { D with nx := Pv (i + 1), ct := Pv (i + 1), bk := D.nx } σ2 H2) (hd : ∀ σ H, Pv n σ H → D.nx σ H) :
    ∃ W : Nat → Nat → St → Hp → Prop, (∃ m, W 0 m σ H) ∧ ∀ i m σ H, W i m σ H →
      ((Itr lo n).stop i H ∧ D.nx σ H) ∨ ((Itr lo n).go i H ∧ ∃ N : St → Hp → Prop, (∀ σ' H', N σ' H' → ∃ m', m' < m ∧ W (i + 1) m' σ' H') ∧ ∀ x H', (Itr lo n).yld i H x H' → g x σ H' fun σ2 H2 => tb { D with nx := N, ct := N, bk := D.nx } σ2 H2) := by
  refine ⟨fun i m σ H => m = n - i ∧ i ≤ n ∧ Pv i σ H, ⟨n, by simp, Nat.zero_le _, h0⟩, ?_⟩
  rintro i m σ H ⟨rfl, hi, p⟩
  by_cases hlt : i < n
  · refine .inr ⟨hlt, Pv (i + 1), fun σ' H' p' => ⟨n - (i + 1), by omega, rfl, hlt, p'⟩, fun x H' y => ?_⟩
    obtain ⟨e, y⟩ := y
    subst e y
    exact hs i σ _ hlt p
  · have e : i = n := by omega
    subst e
    exact .inl ⟨Nat.le_refl _, hd σ H p⟩
end L2

namespace L2
open PySem PySem.Spec PyProof.Rows

noncomputable abbrev R2 := V → V → Hp → VK → Prop
/-- a two-place operation on values: f is binaryOp op, inplaceOp op or compareOp op -/
noncomputable def OpR (X : Cx) (f : Value → Value → Sem Value) (r : R2) : Prop :=
  ∀ (pins : List (Addr × Obj)) (s : Shared) (σ : St) (H : Hp) (x y : V) (v u : Value) (Q : VK), Inv X pins σ H s → RelV x v → RelV y u → r x y H Q →
    wpAny (model X.prog X.w) X.A (f v u) (EP X pins σ Q) X.xe s
/-- a call of a value that is known (a builtin, a type) with values -/
noncomputable def CallR (X : Cx) (f : Value) (r : List V → Hp → VK → Prop) : Prop :=
  ∀ (pins : List (Addr × Obj)) (s : Shared) (σ : St) (H : Hp) (xs : List V) (us : List Value) (Q : VK), Inv X pins σ H s → Vals xs us → r xs H Q →
    wpAny (model X.prog X.w) X.A (call f us) (EP X pins σ Q) X.xe s

noncomputable def tOp (r : R2) (ta tb : TE) : TE := fun σ H Q => ta σ H fun x H1 => tb σ H1 fun y H2 => r x y H2 Q
/-- ints in, under C, and a value out -/
noncomputable def rI (C : Int → Int → Prop) (g : Int → Int → V) : R2 := fun x y H Q => ∃ i j, x = .int i ∧ y = .int j ∧ C i j ∧ Q (g i j) H
noncomputable def rI0 (g : Int → Int → V) : R2 := fun x y H Q => ∃ i j, x = .int i ∧ y = .int j ∧ Q (g i j) H

section
variable {X : Cx} {a b c : Expr} {ta tb tc : TE} {pos : Pos}

theorem binT (ha : PE X a ta) (hb : PE X b tb) {pins : List (Addr × Obj)} {s : Shared} {σ : St} {H : Hp} {R : V → V → Hp → Prop} (I : Inv X pins σ H s)
    (h : ta σ H fun x H1 => tb σ H1 fun y H2 => R x y H2) {Q : Value → Shared → Prop} {f : Value → Value → Sem Value}
    (hf : ∀ v u s2 x y H2, Inv X pins σ H2 s2 → RelV x v → RelV y u → R x y H2 → wpAny (model X.prog X.w) X.A (f v u) Q X.xe s2) :
    wpAny (model X.prog X.w) X.A (eval a X.env) (fun v s₁ => wpAny (model X.prog X.w) X.A (eval b X.env) (fun u s₂ => wpAny (model X.prog X.w) X.A (f v u) Q X.xe s₂) X.xe s₁) X.xe s := by
  refine thn (ha pins s σ H _ I h) fun v s1 zz => ?_
  obtain ⟨x, H1, I1, r1, q1⟩ := zz
  refine thn (hb pins s1 σ H1 _ I1 q1) fun u s2 zz => ?_
  obtain ⟨y, H2, I2, r2, q2⟩ := zz
  exact hf v u s2 x y H2 I2 r1 r2 q2

theorem pe_op {op : Operator} {r : R2} (ho : OpR X (binaryOp op) r) (ha : PE X a ta) (hb : PE X b tb) : PE X (.BinOp a op b pos) (tOp r ta tb) := by
  intro pins s σ H Q I h
  exact wpAny_BinOp (binT ha hb I h fun v u s2 x y H2 I2 rx ry q => ho pins s2 σ H2 x y v u Q I2 rx ry q)

/-! ### ints -/
theorem opI {f : Value → Value → Sem Value} {C : Int → Int → Prop} {g : Int → Int → Int}
    (rule : ∀ (i j : Int) (t u : Tok) (s : Shared) (Q : Value → Shared → Prop) (E : Value → Shared → Prop), C i j → Q (.int (g i j) s.toks) { s with toks := s.toks + 1 } → wpAny (model X.prog X.w) X.A (f (.int i t) (.int j u)) Q E s) :
    OpR X f (rI C fun i j => .int (g i j)) := by
  intro pins s σ H x y v u Q I rx ry h
  obtain ⟨i, j, rfl, rfl, hc, q⟩ := h
  obtain ⟨t, rfl⟩ := rx
  obtain ⟨t', rfl⟩ := ry
  exact rule i j t t' s _ _ hc ⟨.int (g i j), H, I.tok _, ⟨_, rfl⟩, q⟩
theorem opI0 {f : Value → Value → Sem Value} {g : Int → Int → Int}
    (rule : ∀ (i j : Int) (t u : Tok) (s : Shared) (Q : Value → Shared → Prop) (E : Value → Shared → Prop), Q (.int (g i j) s.toks) { s with toks := s.toks + 1 } → wpAny (model X.prog X.w) X.A (f (.int i t) (.int j u)) Q E s) :
    OpR X f (rI0 fun i j => .int (g i j)) := by
  intro pins s σ H x y v u Q I rx ry h
  obtain ⟨i, j, rfl, rfl, q⟩ := h
  obtain ⟨t, rfl⟩ := rx
  obtain ⟨t', rfl⟩ := ry
  exact rule i j t t' s _ _ ⟨.int (g i j), H, I.tok _, ⟨_, rfl⟩, q⟩
theorem opB0 {f : Value → Value → Sem Value} {g : Int → Int → Bool}
    (rule : ∀ (i j : Int) (t u : Tok) (s : Shared) (Q : Value → Shared → Prop) (E : Value → Shared → Prop), Q (.bool (g i j)) s → wpAny (model X.prog X.w) X.A (f (.int i t) (.int j u)) Q E s) :
    OpR X f (rI0 fun i j => .bl (g i j)) := by
  intro pins s σ H x y v u Q I rx ry h
  obtain ⟨i, j, rfl, rfl, q⟩ := h
  obtain ⟨t, rfl⟩ := rx
  obtain ⟨t', rfl⟩ := ry
  exact rule i j t t' s _ _ ⟨.bl (g i j), H, I, rfl, q⟩

noncomputable def CDiv (i j : Int) : Prop := 0 < j ∧ j < 1073741824
noncomputable def CPow (i j : Int) : Prop := 0 ≤ j ∧ j ≤ 1000000 ∧ i.natAbs < 2 ^ 64
noncomputable def CMul (i j : Int) : Prop := (-(2 ^ 64) < i ∧ i < 2 ^ 64) ∨ (-(2 ^ 64) < j ∧ j < 2 ^ 64)
theorem CMul.ok {i j : Int} (h : CMul i j) : IntMulOk i j := by
  rcases h with ⟨h1, h2⟩ | ⟨h1, h2⟩
  · exact .of_left (intBits_le_64 h1 h2)
  · exact .of_right (intBits_le_64 h1 h2)

theorem op_add : OpR X (binaryOp .Add) (rI0 fun i j => .int (i + j)) := opI0 fun _ _ _ _ _ _ _ q => add_int q
/-- // by a positive divisor -/
theorem op_fdiv : OpR X (binaryOp .FloorDiv) (rI CDiv fun i j => .int (i / j)) := opI fun i j _ _ _ _ _ hc q => by
  have h1 : (0 : Int) < j := hc.1
  have h2 : j < 1073741824 := hc.2
  exact floordiv_int (by omega) (by rw [Int.fdiv_eq_ediv_of_nonneg i (by omega)]; exact q) (.inl (PyProof.noPylong_small (by omega)))
/-- % by a positive divisor of any size -/
theorem op_mod : OpR X (binaryOp .Mod) (rI (fun _ j => 0 < j) fun i j => .int (i % j)) := opI fun i j _ _ _ _ _ hc q => by
  have h1 : (0 : Int) < j := hc
  exact mod_int' (by omega) (by rw [Int.fmod_eq_emod_of_nonneg i (by omega)]; exact q)
theorem op_pow : OpR X (binaryOp .Pow) (rI CPow fun i j => .int (i ^ j.toNat)) := opI fun _ _ _ _ _ _ _ hc q => pow_int_small hc.1 hc.2.1 hc.2.2 q
theorem op_shl : OpR X (binaryOp .LShift) (rI CPow fun i j => .int (i * 2 ^ j.toNat)) := opI fun _ _ _ _ _ _ _ hc q => lshift_int_small hc.1 hc.2.1 hc.2.2 q
theorem op_or : OpR X (binaryOp .BitOr) (rI0 fun i j => .int (Builtin.bitOr i j)) := opI0 fun _ _ _ _ _ _ _ q => or_int q



/-! ### bools among ints: n += (a < b) -/
end

/-! ### comparisons -/
/-- the scalars that == tells apart as data does -/
noncomputable def scal : V → V → Bool
  | .non, .non => true | .non, .int _ => true | .int _, .non => true | .non, .bl _ => true | .bl _, .non => true | .non, .str _ => true | .str _, .non => true
  | .int _, .int _ => true | .bl _, .bl _ => true | .str _, .str _ => true | .byt _, .byt _ => true
  | .int _, .str _ => true | .str _, .int _ => true | .bl _, .str _ => true | .str _, .bl _ => true
  | _, _ => false
noncomputable def rEq : R2 := fun x y H Q => scal x y = true ∧ Q (.bl (decide (x = y))) H
noncomputable def rNe : R2 := fun x y H Q => scal x y = true ∧ Q (.bl (!decide (x = y))) H

theorem dec_int {i j : Int} : decide (V.int i = V.int j) = (i == j) := by
  rw [Bool.eq_iff_iff]
  simp
theorem dec_bl {i j : Bool} : decide (V.bl i = V.bl j) = (i == j) := by
  rw [Bool.eq_iff_iff]
  simp
theorem dec_str {i j : Str} : decide (V.str i = V.str j) = (i == j) := by
  rw [Bool.eq_iff_iff]
  simp
theorem dec_byt {i j : Array UInt8} : decide (V.byt i = V.byt j) = (i.toList == j.toList) := by
  rw [Bool.eq_iff_iff]
  cases i
  cases j
  simp

section
variable {X : Cx} {a b c : Expr} {ta tb tc : TE} {pos : Pos}
theorem fin_bl {pins : List (Addr × Obj)} {σ : St} {H : Hp} {s : Shared} {Q : VK} {k k' : Bool} (I : Inv X pins σ H s) (q : Q (.bl k) H) (e : k = k') : EP X pins σ Q (.bool k') s := by
  subst e
  exact ⟨.bl k, H, I, rfl, q⟩
theorem op_eq : OpR X (compareOp .Eq) rEq := by
  intro pins s σ H x y v u Q I rx ry h
  obtain ⟨hs, q⟩ := h
  cases x with
  | non =>
    cases rx
    cases y with
    | non => cases ry; exact PySem.EqNone.eq_none_none (fin_bl I q (by simp))
    | bl j => cases ry; exact PySem.EqNone.eq_none_bool (fin_bl I q (by simp))
    | int j => obtain ⟨t', rfl⟩ := ry; exact PySem.EqNone.eq_none_int (fin_bl I q (by simp))
    | str j => obtain ⟨t', rfl⟩ := ry; exact PySem.EqNone.eq_none_str (fin_bl I q (by simp))
    | _ => exact absurd (show false = true from hs) Bool.false_ne_true
  | bl i =>
    cases rx
    cases y with
    | non => cases ry; exact PySem.EqNone.eq_bool_none (fin_bl I q (by simp))
    | bl j => cases ry; exact eq_bool (fin_bl I q dec_bl)
    | str j => obtain ⟨t', rfl⟩ := ry; exact PySem.EqMixed.eq_bool_str (fin_bl I q (by simp))
    | _ => exact absurd (show false = true from hs) Bool.false_ne_true
  | int i =>
    obtain ⟨t, rfl⟩ := rx
    cases y with
    | non => cases ry; exact PySem.EqNone.eq_int_none (fin_bl I q (by simp))
    | int j => obtain ⟨t', rfl⟩ := ry; exact eq_int (fin_bl I q dec_int)
    | str j => obtain ⟨t', rfl⟩ := ry; exact PySem.EqMixed.eq_int_str (fin_bl I q (by simp))
    | _ => exact absurd (show false = true from hs) Bool.false_ne_true
  | str i =>
    obtain ⟨t, rfl⟩ := rx
    cases y with
    | non => cases ry; exact PySem.EqNone.eq_str_none (fin_bl I q (by simp))
    | bl j => cases ry; exact PySem.EqMixed.eq_str_bool (fin_bl I q (by simp))
    | int j => obtain ⟨t', rfl⟩ := ry; exact PySem.EqMixed.eq_str_int (fin_bl I q (by simp))
    | str j => obtain ⟨t', rfl⟩ := ry; exact eq_str (fin_bl I q dec_str)
    | _ => exact absurd (show false = true from hs) Bool.false_ne_true
  | byt i =>
    obtain ⟨t, rfl⟩ := rx
    cases y with
    | byt j => obtain ⟨t', rfl⟩ := ry; exact PySem.W.eq_bytes (fin_bl I q dec_byt)
    | _ => exact absurd (show false = true from hs) Bool.false_ne_true
  | _ => cases y <;> exact absurd (show false = true from hs) Bool.false_ne_true
theorem op_ne : OpR X (compareOp .NotEq) rNe := by
  intro pins s σ H x y v u Q I rx ry h
  obtain ⟨hs, q⟩ := h
  cases x with
  | non =>
    cases rx
    cases y with
    | non => cases ry; exact PySem.EqNone.ne_none_none (fin_bl I q (by simp))
    | bl j => cases ry; exact PySem.EqNone.ne_none_bool (fin_bl I q (by simp))
    | int j => obtain ⟨t', rfl⟩ := ry; exact PySem.EqNone.ne_none_int (fin_bl I q (by simp))
    | str j => obtain ⟨t', rfl⟩ := ry; exact PySem.EqNone.ne_none_str (fin_bl I q (by simp))
    | _ => exact absurd (show false = true from hs) Bool.false_ne_true
  | bl i =>
    cases rx
    cases y with
    | non => cases ry; exact PySem.EqNone.ne_bool_none (fin_bl I q (by simp))
    | bl j => cases ry; exact ne_bool (fin_bl I q (congrArg not dec_bl))
    | str j => obtain ⟨t', rfl⟩ := ry; exact PySem.EqMixed.ne_bool_str (fin_bl I q (by simp))
    | _ => exact absurd (show false = true from hs) Bool.false_ne_true
  | int i =>
    obtain ⟨t, rfl⟩ := rx
    cases y with
    | non => cases ry; exact PySem.EqNone.ne_int_none (fin_bl I q (by simp))
    | int j => obtain ⟨t', rfl⟩ := ry; exact ne_int (fin_bl I q (congrArg not dec_int))
    | str j => obtain ⟨t', rfl⟩ := ry; exact PySem.EqMixed.ne_int_str (fin_bl I q (by simp))
    | _ => exact absurd (show false = true from hs) Bool.false_ne_true
  | str i =>
    obtain ⟨t, rfl⟩ := rx
    cases y with
    | non => cases ry; exact PySem.EqNone.ne_str_none (fin_bl I q (by simp))
    | bl j => cases ry; exact PySem.EqMixed.ne_str_bool (fin_bl I q (by simp))
    | int j => obtain ⟨t', rfl⟩ := ry; exact PySem.EqMixed.ne_str_int (fin_bl I q (by simp))
    | str j => obtain ⟨t', rfl⟩ := ry; exact ne_str (fin_bl I q (congrArg not dec_str))
    | _ => exact absurd (show false = true from hs) Bool.false_ne_true
  | byt i =>
    obtain ⟨t, rfl⟩ := rx
    cases y with
    | byt j => obtain ⟨t', rfl⟩ := ry; exact PySem.W.ne_bytes (fin_bl I q (congrArg not dec_byt))
    | _ => exact absurd (show false = true from hs) Bool.false_ne_true
  | _ => cases y <;> exact absurd (show false = true from hs) Bool.false_ne_true

theorem op_lt : OpR X (compareOp .Lt) (rI0 fun i j => .bl (decide (i < j))) := opB0 fun _ _ _ _ _ _ _ q => lt_int q
theorem op_le : OpR X (compareOp .LtE) (rI0 fun i j => .bl (decide (i ≤ j))) := opB0 fun _ _ _ _ _ _ _ q => le_int q
theorem op_gt : OpR X (compareOp .Gt) (rI0 fun i j => .bl (decide (j < i))) := opB0 fun _ _ _ _ _ _ _ q => gt_int q


theorem op_notin_str : OpR X (compareOp .NotIn) (fun x y H Q => ∃ i j, x = .str i ∧ y = .str j ∧ Q (.bl (!(!(Builtin.Str.occurrences j i 0 j.length 1).isEmpty))) H) := by
  intro pins s σ H x y v u Q I rx ry h
  obtain ⟨i, j, rfl, rfl, q⟩ := h
  obtain ⟨t, rfl⟩ := rx
  obtain ⟨t', rfl⟩ := ry
  exact notIn_str (fin_bl I q rfl)


theorem nomark (b : Expr) {op : CmpOp} (h : op ≠ .In := by decide) (h2 : op ≠ .NotIn := by decide) : behindInMarks op b = false := by
  have e1 : (op == CmpOp.In) = false := by cases op <;> first | rfl | exact absurd rfl h
  have e2 : (op == CmpOp.NotIn) = false := by cases op <;> first | rfl | exact absurd rfl h2
  cases b <;> simp [behindInMarks, e1, e2]
/-- a comparison as a value; hm: nomark b, or (for in, not in) by with_unfolding_all rfl -/
theorem pe_cmpR {op : CmpOp} {r : R2} (ho : OpR X (compareOp op) r) (ha : PE X a ta) (hb : PE X b tb) (hm : behindInMarks op b = false) : PE X (.Compare a [op] [b] pos) (tOp r ta tb) := by
  intro pins s σ H Q I h
  exact wpAny_Compare1 (binT ha hb I h fun v u s2 x y H2 I2 rx ry q => ho pins s2 σ H2 x y v u Q I2 rx ry q) hm
/-- a reading of a value as a test -/
noncomputable def tTest (t : TE) : TT := fun σ H Q => t σ H fun x H' => ∃ k, x = .bl k ∧ Q k H'
theorem pt_cmpR {op : CmpOp} {r : R2} (ho : OpR X (compareOp op) r) (ha : PE X a ta) (hb : PE X b tb) (hm : behindInMarks op b = false) : PT X (.Compare a [op] [b] pos) (tTest (tOp r ta tb)) := by
  intro pins s σ H Q I h
  refine wpAny_isTrue_Compare1 (thn (ha pins s σ H _ I h) fun v s1 ⟨x, H1, I1, r1, q1⟩ => thn (hb pins s1 σ H1 _ I1 q1) fun u s2 ⟨y, H2, I2, r2, q2⟩ =>
    thn (ho pins s2 σ H2 x y v u _ I2 r1 r2 q2) fun c s3 zz => ?_) hm
  obtain ⟨z, H3, I3, r3, k, e, q3⟩ := zz
  subst e
  cases r3
  exact wpAny_truthy_bool ⟨H3, I3, q3⟩
/-- a op1 b op2 c -/
noncomputable def tChain (r r' : R2) (ta tb tc : TE) : TE := fun σ H Q => ta σ H fun x H1 => tb σ H1 fun y H2 => r x y H2 fun z H3 => ∃ k, z = .bl k ∧
  (if k = true then tc σ H3 fun w' H4 => r' y w' H4 Q else Q (.bl false) H3)
theorem pe_chain {op op' : CmpOp} {r r' : R2} (ho : OpR X (compareOp op) r) (ho' : OpR X (compareOp op') r') (ha : PE X a ta) (hb : PE X b tb) (hc : PE X c tc)
    (hm : lastMarks [op, op'] [b, c] = false := by with_unfolding_all rfl) : PE X (.Compare a [op, op'] [b, c] pos) (tChain r r' ta tb tc) := by
  intro pins s σ H Q I h
  refine Compare_chain (thn (ha pins s σ H _ I h) fun v s1 ⟨x, H1, I1, r1, q1⟩ => chain_link (thn (hb pins s1 σ H1 _ I1 q1) fun u s2 ⟨y, H2, I2, r2, q2⟩ =>
    thn (ho pins s2 σ H2 x y v u _ I2 r1 r2 q2) fun d s3 zz => ?_)) hm
  obtain ⟨z, H3, I3, r3, k, e, q3⟩ := zz
  subst e
  cases r3
  refine wpAny_truthy_bool ?_
  cases k with
  | false => exact ite_ff ⟨.bl false, H3, I3, rfl, q3⟩
  | true => exact ite_tt (chain_last (thn (hc pins s3 σ H3 _ I3 q3) fun w' s4 ⟨z', H4, I4, r4, q4⟩ => ho' pins s4 σ H4 y z' u w' Q I4 r2 r4 q4))
theorem pt_chain {op op' : CmpOp} {r r' : R2} (ho : OpR X (compareOp op) r) (ho' : OpR X (compareOp op') r') (ha : PE X a ta) (hb : PE X b tb) (hc : PE X c tc)
    (hm : lastMarks [op, op'] [b, c] = false := by with_unfolding_all rfl) : PT X (.Compare a [op, op'] [b, c] pos) (tTest (tChain r r' ta tb tc)) := by
  intro pins s σ H Q I h
  refine isTrue_chain (thn (ha pins s σ H _ I h) fun v s1 ⟨x, H1, I1, r1, q1⟩ => test_link (thn (hb pins s1 σ H1 _ I1 q1) fun u s2 ⟨y, H2, I2, r2, q2⟩ =>
    thn (ho pins s2 σ H2 x y v u _ I2 r1 r2 q2) fun d s3 zz => ?_)) hm
  obtain ⟨z, H3, I3, r3, k, e, q3⟩ := zz
  subst e
  cases r3
  refine wpAny_truthy_bool ?_
  cases k with
  | false =>
    obtain ⟨k', e', q'⟩ := q3
    cases e'
    exact ite_ff ⟨H3, I3, q'⟩
  | true =>
    refine ite_tt (test_last (thn (hc pins s3 σ H3 _ I3 q3) fun w' s4 ⟨z', H4, I4, r4, q4⟩ => thn (ho' pins s4 σ H4 y z' u w' _ I4 r2 r4 q4) fun d' s5 zz => ?_))
    obtain ⟨z2, H5, I5, r5, k2, e2, q5⟩ := zz
    subst e2
    cases r5
    exact wpAny_truthy_bool ⟨H5, I5, q5⟩

/-! ### truth -/
theorem line63 : (sizeLine : Nat) < 2 ^ 63 := by rw [sizeLine_eq]; decide

/-! ### strs and bytes -/
theorem op_add_str : OpR X (binaryOp .Add) (fun x y H Q => ∃ i j, x = .str i ∧ y = .str j ∧ i.length + j.length ≤ sizeLine ∧ Q (.str (i ++ j)) H) := by
  intro pins s σ H x y v u Q I rx ry h
  obtain ⟨i, j, rfl, rfl, hz, q⟩ := h
  obtain ⟨t, rfl⟩ := rx
  obtain ⟨t', rfl⟩ := ry
  exact add_str (fun t' tk => ⟨.str (i ++ j), H, I.tok _, ⟨_, rfl⟩, q⟩) hz


/-! ### scalar builtins, by CallR -/
theorem vals1 {x : V} {us : List Value} (r : Vals [x] us) : ∃ u, us = [u] ∧ RelV x u := by
  cases r with
  | cons r1 r2 => cases r2; exact ⟨_, rfl, r1⟩
theorem vals2 {x y : V} {us : List Value} (r : Vals [x, y] us) : ∃ u w', us = [u, w'] ∧ RelV x u ∧ RelV y w' := by
  cases r with
  | cons r1 r2 =>
    cases r2 with
    | cons r3 r4 => cases r4; exact ⟨_, _, rfl, r1, r3⟩
/-- divmod: a new tuple -/
theorem call_divmod : CallR X (.builtin "divmod") (fun xs H Q => ∃ i j, xs = [.int i, .int j] ∧ CDiv i j ∧ ∀ p, H p = none → Q (.ref p) (upd H p (.tup [.int (i / j), .int (i % j)]))) := by
  intro pins s σ H xs us Q I r h
  obtain ⟨i, j, rfl, ⟨h1, h2⟩, q⟩ := h
  obtain ⟨u, w', rfl, ⟨t, rfl⟩, ⟨t', rfl⟩⟩ := vals2 r
  refine divmod_int (by omega) ?_ (.inl (PyProof.noPylong_small (by omega)))
  rw [Int.fdiv_eq_ediv_of_nonneg i (by omega), Int.fmod_eq_emod_of_nonneg i (by omega)]
  have hn : H s.heap.objs.size = none := I.hok.fresh (Nat.le_refl _)
  refine ⟨.ref s.heap.objs.size, _, ?_, rfl, q _ hn⟩
  refine I.laid (fun b o e => Heap.get?_push_of_some _ e) (Nat.le_refl _) ⟨by simp only [List.length_cons, List.length_nil]; rw [sizeLine_eq]; decide, [.int (i / j) s.toks, .int (i % j) (s.toks + 1)], .cons ⟨_, rfl⟩ (.cons ⟨_, rfl⟩ .nil), ?_⟩
  exact ⟨_, Heap.get?_push_size s.heap rfl, rfl, 0, rfl⟩
end
end L2

namespace L2
open PySem PySem.Spec PyProof.Rows

/-! ### an instance, its attributes a map -/
structure ObjM (h : Heap) (x dx C : Addr) (mA : Str → Option Value) : Prop where
  obj : h.get? x = some (PySem.W.instObj C dx)
  ns : h.Ns1 dx mA
  ne : dx ≠ x

theorem lookIn_ns {h : Heap} {dx : Addr} {mA : Str → Option Value} (n : h.Ns1 dx mA) : ∃ od, h.get? dx = some od ∧ ∀ name, PySem.W.lookIn name od = some (mA name) := by
  obtain ⟨o, es, ep, ho, hd, hk, _, hm⟩ := n
  refine ⟨o, ho, fun name => ?_⟩
  have e := hm name
  unfold nsFind findBy at e
  rw [← Array.find?_toList] at e
  unfold PySem.W.lookIn
  rw [hd]
  dsimp only
  split
  · rename_i y q
    rw [q] at e
    exact congrArg some e
  · rename_i q
    rw [q] at e
    have a : es.toList.any (·.refKey) = false := by
      rw [List.any_eq_false]
      intro y hy
      obtain ⟨z, t, hkey⟩ := hk y (Array.mem_toList_iff.mp hy)
      simp [DictEntry.refKey, hkey]
    have a' : ¬ es.toList.any (·.refKey) = true := by rw [a]; exact Bool.false_ne_true
    rw [if_neg a']
    exact congrArg some e

theorem ObjM.look {h : Heap} {x dx C : Addr} {mA : Str → Option Value} (I : ObjM h x dx C mA) : ∃ od, PySem.W.InstAt h x (PySem.W.instObj C dx) C (some od) ∧ ∀ name, PySem.W.lookIn name od = some (mA name) :=
  let ⟨od, ho, hl⟩ := lookIn_ns I.ns
  ⟨od, ⟨I.obj, rfl, rfl, ho⟩, hl⟩

section
variable {prog : Program} {w : World} {A : Around} {E : Value → Shared → Prop} {s : Shared} {K : PySem.W.Frag} {x dx C f : Addr} {mA : Str → Option Value} {name : Str} {v : Value}

theorem get_map {expr : Bool} {Q : Value → Shared → Prop} (X : K.In s.heap) (I : ObjM s.heap x dx C mA) (hg : PySem.W.plainGet K C name = true) (hh : PySem.W.hasDictIn K C = true)
    (ha : PySem.W.findIn K (.ref C) name = some none) (hv : mA name = some v) (hv' : PySem.W.handedIn v = true) (h : Q v { s with toks := s.toks + 1 }) :
    wpAny (model prog w) A (getAttr (.ref x) name expr) Q E s := by
  obtain ⟨od, J, hl⟩ := I.look
  exact PySem.W.get_value X J (PySem.W.plainGet_of hg).1 (PySem.W.findObj_own hh ha rfl (by rw [hl, hv])) hv' h


theorem get_meth {pl : Sem Bool} {Q : Value × List Value → Shared → Prop} (X : K.In s.heap) (I : ObjM s.heap x dx C mA) (hg : PySem.W.plainGet K C name = true)
    (hf : PySem.W.findIn K (.ref C) name = some (some (.ref f))) (ht : PySem.W.isFn K (.ref f) = true) (hv : mA name = none) (h : Q (.ref f, [.ref x]) s) :
    wpAny (model prog w) A (getMethod (.ref x) name pl) Q E s := by
  obtain ⟨od, J, hl⟩ := I.look
  exact PySem.W.method_fn X J (PySem.W.plainGet_of hg).1 (PySem.W.plainGet_of hg).2 hf (beq_iff_eq.mp ht) (by show (PySem.W.lookIn name od).map (·.isSome) = some false; rw [hl, hv]; rfl) h

theorem set_map {ns : List Str} {Q : Unit → Shared → Prop} (X : K.In s.heap) (I : ObjM s.heap x dx C mA)
    (hs : PySem.W.findIn K (.ref C) "__setattr__" = some (some (.builtin "object.__setattr__"))) (hp : PySem.W.plainOver K C = true) (ht : PySem.W.takerIn K C name = some none) (hh : PySem.W.hasDictIn K C = true)
    (hw : PySem.Within mA ns) (hsz : ns.length ≤ sizeLine)
    (h : ∀ h', ObjM h' x dx C (fun y => if y = name then some v else mA y) → Heap.SameBut dx s.heap h' → Q () { s with heap := h', toks := s.toks + 2 }) :
    wpAny (model prog w) A (setAttr (.ref x) name v) Q E s := by
  obtain ⟨od, J, hl⟩ := I.look
  refine PySem.W.set_plain X J hs (PySem.W.osa_open (s := { s with toks := s.toks + 1 }) (r := none) X J hp ht fun b => ?_)
  obtain ⟨cd, hc, hd'⟩ := PySem.W.any_some hh
  have hx : s.heap.get? x = some ⟨.ref C, some dx, .plain, #[]⟩ := I.obj
  refine wpAny_bind (wpAny_pure (wpAny_bind (wpAny_bind (wpAny_loadPart hx (wpAny_bind (PySem.W.Looks.here (s := { s with toks := s.toks + 1 }) (PySem.W.looks_clsIn X hc) ?_))))))
  rw [hd']
  refine wpAny_pure (a := some dx) (wpAny_bind (wpAny_pure (wpAny_bind ?_)))
  refine wpAny_nsSet1 (s := { s with toks := s.toks + 1 }) I.ns fun h' hn2 hs2 => ?_
  obtain ⟨oD, esD, epD, hoD, hdD, hcD⟩ := hn2.count (PySem.Within.cons name v hw)
  refine wpAny_bind (wpAny_lookBehind hoD (by rw [hdD]; exact pastItsLine_dict (Nat.le_trans hcD (by rw [List.length_cons]; omega))) ?_)
  exact wpAny_pure (h _ ⟨(hs2.2 _ (Ne.symm I.ne)).trans I.obj, hn2, I.ne⟩ hs2)

/-- C(..): the dict at the heap's end, the instance behind it; then its __init__ -/
theorem make_map {R : Result → Shared → Prop} {vs : List Value} {kw : List (Str × Value)} (X : K.In s.heap) (hm : PySem.W.makesIn K C = true)
    (hi : PySem.W.findIn K (.ref C) "__init__" = some (some (.ref f))) (hf : PySem.W.typeIn K (.ref f) = some (.type "function"))
    (h : codeAny (model prog w) (A.under (.builtin "type.__call__" ⟨.ref C :: vs, kw⟩)) (.call (.ref f) ⟨.ref (s.heap.objs.size + 1) :: vs, kw⟩) (PySem.W.InitBack (s.heap.objs.size + 1) R)
      { s with heap := (s.heap.push PySem.W.emptyDict).push (PySem.W.instObj C s.heap.objs.size) }) :
    codeAny (model prog w) A (.call (.ref C) ⟨vs, kw⟩) R s := by
  obtain ⟨hh, g, d, t, os⟩ := s
  exact PySem.W.make_core (PySem.W.makes_of X hm) (PySem.W.looks_findIn X hi) (fun self => PySem.W.bind_fn X self hf) (.inl rfl) h
end

/-! ### the attributes as a list of pairs -/
noncomputable def putF (f : Str) (v : V) : List (Str × V) → List (Str × V)
  | [] => [(f, v)]
  | (g, x) :: r => if g = f then (g, v) :: r else (g, x) :: putF f v r
theorem lookup_putF (f g : Str) (v : V) : ∀ fs : List (Str × V), (putF f v fs).lookup g = if g = f then some v else fs.lookup g
  | [] => by
    show List.lookup g [(f, v)] = _
    by_cases h : g = f
    · have hb : (g == f) = true := beq_iff_eq.mpr h
      simp only [List.lookup, hb, if_pos h]
    · have hb : (g == f) = false := beq_eq_false_iff_ne.mpr h
      simp only [List.lookup, hb, if_neg h]
  | (k, x) :: r => by
    have ih := lookup_putF f g v r
    rw [show putF f v ((k, x) :: r) = (if k = f then (k, v) :: r else (k, x) :: putF f v r) from rfl]
    by_cases hk : k = f
    · rw [if_pos hk]
      by_cases h : g = k
      · have hb : (g == k) = true := beq_iff_eq.mpr h
        simp only [List.lookup, hb, if_pos (h.trans hk)]
      · have hb : (g == k) = false := beq_eq_false_iff_ne.mpr h
        simp only [List.lookup, hb, if_neg (fun e : g = f => h (e.trans hk.symm))]
    · rw [if_neg hk]
      by_cases h : g = k
      · have hb : (g == k) = true := beq_iff_eq.mpr h
        simp only [List.lookup, hb, if_neg (fun e : g = f => hk (h.symm.trans e))]
      · have hb : (g == k) = false := beq_eq_false_iff_ne.mpr h
        simp only [List.lookup, hb]
        exact ih
theorem keys_putF (f : Str) (v : V) : ∀ fs : List (Str × V), f ∈ (putF f v fs).map (·.1) ∧ ∀ g, g ∈ fs.map (·.1) → g ∈ (putF f v fs).map (·.1)
  | [] => ⟨by simp [putF], fun g h => by simp at h⟩
  | (k, x) :: r => by
    obtain ⟨i1, i2⟩ := keys_putF f v r
    rw [show putF f v ((k, x) :: r) = (if k = f then (k, v) :: r else (k, x) :: putF f v r) from rfl]
    by_cases hk : k = f
    · rw [if_pos hk]
      subst hk
      exact ⟨by simp, fun g h => by simpa using h⟩
    · rw [if_neg hk]
      refine ⟨?_, fun g h => ?_⟩
      · rw [List.map_cons]
        exact List.mem_cons_of_mem _ i1
      · rw [List.map_cons] at h ⊢
        rcases List.mem_cons.mp h with e | e
        · exact List.mem_cons.mpr (.inl e)
        · exact List.mem_cons_of_mem _ (i2 g e)
theorem length_putF (f : Str) (v : V) : ∀ fs : List (Str × V), (putF f v fs).length ≤ fs.length + 1
  | [] => by simp [putF]
  | (k, x) :: r => by
    have ih := length_putF f v r
    rw [show putF f v ((k, x) :: r) = (if k = f then (k, v) :: r else (k, x) :: putF f v r) from rfl]
    by_cases hk : k = f
    · rw [if_pos hk, List.length_cons, List.length_cons]; omega
    · rw [if_neg hk, List.length_cons, List.length_cons]; omega

theorem RelO.some_of {v : V} {o : Option Value} (r : RelO (some v) o) : ∃ u, o = some u ∧ RelV v u := by
  cases o with
  | none => exact (show False from r).elim
  | some u => exact ⟨u, rfl, r⟩
theorem RelO.none_of {o : Option Value} (r : RelO none o) : o = none := by
  cases o with
  | none => rfl
  | some u => exact (show False from r).elim
theorem handed_of {v : V} {u : Value} (r : RelV v u) : PySem.W.handedIn u = true := by
  cases v with
  | non => cases (show u = Value.none from r); rfl
  | bl b => cases (show u = Value.bool b from r); rfl
  | int i => obtain ⟨t, e⟩ := (show ∃ t, u = Value.int i t from r); cases e; rfl
  | str x => obtain ⟨t, e⟩ := (show ∃ t, u = Value.str x t from r); cases e; rfl
  | byt b => obtain ⟨t, e⟩ := (show ∃ t, u = Value.bytes b t from r); cases e; rfl
  | flt b => obtain ⟨t, e⟩ := (show ∃ t, u = Value.float b t from r); cases e; rfl
  | ref a => cases (show u = Value.ref a from r); rfl
  | ty n => cases (show u = Value.type n from r); rfl

section
variable {P : Program} {w : World} {H H' : Hp} {h h' : Heap} {a C dx : Addr} {fs fs' : List (Str × V)}
theorem ins_get (hok : HOk P w H h) (e : H a = some (.ins C dx fs)) : ∃ mA, ObjM h a dx C mA ∧ (∀ f, RelO (fs.lookup f) (mA f)) ∧ PySem.Within mA (fs.map (·.1)) ∧ fs.length ≤ 1000 ∧ H dx = some (.own a) := by
  obtain ⟨d, z, ne, ob, mA, n, r, q⟩ := (show ObjOk P w H h a (.ins C dx fs) from hok a _ e)
  exact ⟨mA, ⟨ob, n, ne⟩, r, q, z, d⟩
end

/-! ### what of the text a class must have -/
structure Cls (K : PySem.W.Frag) (C : Addr) : Prop where
  pg : PySem.W.plainGet K C Str.empty = true
  hd : PySem.W.hasDictIn K C = true
  po : PySem.W.plainOver K C = true
  sa : PySem.W.findIn K (.ref C) "__setattr__" = some (some (.builtin "object.__setattr__"))
theorem Cls.get {K : PySem.W.Frag} {C : Addr} (c : Cls K C) (f : Str) : PySem.W.plainGet K C f = true := c.pg
/-- no class of it has the name -/
noncomputable def NoAttr (K : PySem.W.Frag) (C : Addr) (f : Str) : Prop := PySem.W.findIn K (.ref C) f = some none
theorem NoAttr.taker {K : PySem.W.Frag} {C : Addr} {f : Str} (n : NoAttr K C f) : PySem.W.takerIn K C f = some none := by
  unfold PySem.W.takerIn
  rw [show PySem.W.findIn K (.ref C) f = some none from n]
  rfl
/-- a method: a plain def of the class or of one above it -/
structure Meth (K : PySem.W.Frag) (C : Addr) (m : Str) (f : Addr) : Prop where
  at_ : PySem.W.findIn K (.ref C) m = some (some (.ref f))
  fn : PySem.W.isFn K (.ref f) = true
  kp : PySem.W.keepIn K (.ref f) = true

section
variable {X : Cx} {pins : List (Addr × Obj)} {σ : St} {H : Hp} {s : Shared} {a C dx : Addr} {fs : List (Str × V)} {f : Str} {v : V} {A : Around} {E : Value → Shared → Prop}

theorem getattr_ok {b : Bool} {Q : Value → Shared → Prop} (I : Inv X pins σ H s) (e : H a = some (.ins C dx fs)) (c : Cls X.K C) (n : NoAttr X.K C f) (l : fs.lookup f = some v)
    (h : ∀ u s', Inv X pins σ H s' → RelV v u → Q u s') : wpAny (model X.prog X.w) A (getAttr (.ref a) f b) Q E s := by
  obtain ⟨mA, O, r, _, _, _⟩ := ins_get I.hok e
  obtain ⟨u, hu, ru⟩ := RelO.some_of (v := v) (o := mA f) (by rw [← l]; exact r f)
  exact get_map I.kIn O (c.get f) c.hd n hu (handed_of ru) (h u _ (I.tok _) ru)


theorem getmeth_ok {m : Str} {g : Addr} {pl : Sem Bool} {Q : Value × List Value → Shared → Prop} (I : Inv X pins σ H s) (e : H a = some (.ins C dx fs)) (c : Cls X.K C) (k : Meth X.K C m g) (l : fs.lookup m = none)
    (h : Q (.ref g, [.ref a]) s) : wpAny (model X.prog X.w) A (getMethod (.ref a) m pl) Q E s := by
  obtain ⟨mA, O, r, _, _, _⟩ := ins_get I.hok e
  have hn : mA m = none := RelO.none_of (by rw [← l]; exact r m)
  exact get_meth I.kIn O (c.get m) k.at_ k.fn hn h

theorem setattr_ok {y : V} {u : Value} {Q : Unit → Shared → Prop} (I : Inv X pins σ H s) (e : H a = some (.ins C dx fs)) (c : Cls X.K C) (n : NoAttr X.K C f) (hl : fs.length < 1000) (ry : RelV y u)
    (h : ∀ s', Inv X pins σ (upd H a (.ins C dx (putF f y fs))) s' → Q () s') : wpAny (model X.prog X.w) A (setAttr (.ref a) f u) Q E s := by
  obtain ⟨mA, O, r, wi, _, ho⟩ := ins_get I.hok e
  have hz : (fs.map (·.1)).length ≤ sizeLine := by rw [List.length_map, sizeLine_eq]; omega
  refine set_map I.kIn O c.sa c.po n.taker c.hd wi hz fun h' O' sb => h _ ?_
  have hd : ∃ o, h'.get? dx = some o := let ⟨o, _, _, e', _⟩ := O'.ns; ⟨o, e'⟩
  refine I.write (x := a) (e := dx) (by rw [e]; exact True.intro) (.inr ho) (fun b q hb z => (sb.2 b hb).trans z) hd ?_
  refine ⟨by rw [upd_ne O.ne]; exact ho, ?_, O.ne, O'.obj, _, O'.ns, fun g => ?_, fun g hg => ?_⟩
  · have := length_putF f y fs; omega
  · show RelO ((putF f y fs).lookup g) (if g = f then some u else mA g)
    rw [lookup_putF]
    by_cases q : g = f
    · rw [if_pos q, if_pos q]; exact ry
    · rw [if_neg q, if_neg q]; exact r g
  · by_cases q : g = f
    · rw [q]; exact (keys_putF f y fs).1
    · refine (keys_putF f y fs).2 g (wi g fun z => hg ?_)
      show (if g = f then some u else mA g) = none
      rw [if_neg q]; exact z

/-- a new instance, tracked, without attributes -/
theorem Inv.made (I : Inv X pins σ H s) : Inv X pins σ (upd (upd H s.heap.objs.size (.own (s.heap.objs.size + 1))) (s.heap.objs.size + 1) (.ins C s.heap.objs.size []))
    { s with heap := (s.heap.push PySem.W.emptyDict).push (PySem.W.instObj C s.heap.objs.size) } := by
  have e1 : (s.heap.push PySem.W.emptyDict).get? s.heap.objs.size = some PySem.W.emptyDict := Heap.get?_push_size s.heap rfl
  have e2 : ((s.heap.push PySem.W.emptyDict).push (PySem.W.instObj C s.heap.objs.size)).get? (s.heap.objs.size + 1) = some (PySem.W.instObj C s.heap.objs.size) := by
    have := Heap.get?_push_size (s.heap.push PySem.W.emptyDict) (o := PySem.W.instObj C s.heap.objs.size) rfl
    rwa [Heap.size_push] at this
  have e3 : (s.heap.push PySem.W.emptyDict).Ns s.heap.objs.size (fun _ => none) := ⟨PySem.W.emptyDict, #[], _, e1, rfl, (fun e he => absurd he (by simp)), fun _ => rfl⟩
  have I1 := I.laid (a := s.heap.objs.size) (o := .own (s.heap.objs.size + 1)) (h' := s.heap.push PySem.W.emptyDict) (t' := s.toks) (fun b u q => Heap.get?_push_of_some _ q) (Nat.le_refl _) ⟨_, e1⟩
  refine I1.laid (a := s.heap.objs.size + 1) (o := .ins C s.heap.objs.size []) (t' := s.toks) (fun b u q => Heap.get?_push_of_some _ q) (Nat.le_of_eq (Heap.size_push _ _)) ?_
  have ne : s.heap.objs.size ≠ s.heap.objs.size + 1 := Nat.ne_of_lt (Nat.lt_succ_self _)
  refine ⟨by rw [upd_ne ne, upd_same], Nat.zero_le _, ne, e2, fun _ => none, (Heap.Ns1.of_empty e3).at fun o q => Heap.get?_push_of_some _ q, fun _ => True.intro, fun y hy => absurd rfl hy⟩

/-- e.f where nothing but the object is asked: through attributeBase (super) and the last hold -/
theorem attr_of {prog : Program} {w : World} {env : Env} {e : Expr} {f : Str} {pos : Pos} {s : Shared} {Q : Value → Shared → Prop} (hb : attributeBase e f env (eval e env) = eval e env)
    (h : wpAny (model prog w) A (eval e env) (fun o s₁ => wpAny (model prog w) A (getAttr o f true) Q E s₁) E s) : wpAny (model prog w) A (eval (.Attribute e f pos) env) Q E s :=
  Attribute_any_ h (by rw [arm_eval_Attribute, hb])
end

/-! ### readings and rules -/
/-- e.f, an attribute of the instance -/
noncomputable def tFld (K : PySem.W.Frag) (ta : TE) (f : Str) : TE := fun σ H Q => ta σ H fun x H1 => ∃ a C dx fs v, x = .ref a ∧ H1 a = some (.ins C dx fs) ∧ Cls K C ∧ NoAttr K C f ∧ fs.lookup f = some v ∧ Q v H1
/-- e.f = value -/
noncomputable def sFld (K : PySem.W.Frag) (ta tv : TE) (f : Str) : TS := fun D σ H => tv σ H fun y H1 => ta σ H1 fun x H2 => ∃ a C dx fs, x = .ref a ∧ H2 a = some (.ins C dx fs) ∧ Cls K C ∧ NoAttr K C f ∧ fs.length < 1000 ∧
  D.nx σ (upd H2 a (.ins C dx (putF f y fs)))

section
variable {X : Cx} {o e value : Expr} {f : Str} {pos pos' tpos : Pos} {ta tv : TE}
theorem pe_fld (he : PE X e ta) (hb : attributeBase e f X.env (eval e X.env) = eval e X.env) : PE X (.Attribute e f pos) (tFld X.K ta f) := by
  intro pins s σ H Q I h
  refine attr_of hb (thn (he pins s σ H _ I h) fun u s1 zz => ?_)
  obtain ⟨x, H1, I1, rx, a, C, dx, fs, v, ex, ea, c, n, l, q⟩ := zz
  subst ex
  obtain rfl : u = Value.ref a := rx
  exact getattr_ok I1 ea c n l fun u' s2 I2 ru => ⟨v, H1, I2, ru, q⟩
theorem ps_fld (ha : PE X o ta) (hv : PE X value tv) (hs : swapsWith value (some (.Attribute o f pos')) pos.line X.env = pure false) : PS X (.Assign [.Attribute o f pos'] value pos) (sFld X.K ta tv f) := by
  intro pins s σ H D I h
  refine plainObj_wpAny_Assign_Attribute (thn (hv pins s σ H _ I h) fun u s1 ⟨y, H1, I1, ry, q⟩ => thn (ha pins s1 σ H1 _ I1 q) fun ov s2 zz => ?_) hs
  obtain ⟨x, H2, I2, rx, a, C, dx, fs, ex, ea, c, n, l, q2⟩ := zz
  subst ex
  obtain rfl : ov = Value.ref a := rx
  exact setattr_ok I2 ea c n l ry fun s3 I3 => ⟨σ, _, I3, q2⟩

end

/-! ### isinstance -/
section
variable {X : Cx} {pins : List (Addr × Obj)} {σ : St} {H : Hp} {s : Shared} {A : Around} {E : Value → Shared → Prop} {Q : Value → Shared → Prop} {c : Value} {b : Bool}
/-- the type of a value, as the fragment's deciders take it; for an instance its class -/
inductive TyOf (K : PySem.W.Frag) (H : Hp) : V → Value → Prop where
  | non : TyOf K H .non (.type "NoneType")
  | bl (x : Bool) : TyOf K H (.bl x) (.type "bool")
  | int (i : Int) : TyOf K H (.int i) (.type "int")
  | str (x : Str) : TyOf K H (.str x) (.type "str")
  | flt (x : UInt64) : TyOf K H (.flt x) (.type "float")
  | lst {a : Addr} {xs : List V} (e : H a = some (.lst xs)) : TyOf K H (.ref a) (.type "list")
  | frz {a : Addr} {o : Obj} {xs : List V} (e : H a = some (.frz o (.lst xs))) : TyOf K H (.ref a) (.type "list")
  | tup {a : Addr} {xs : List V} (e : H a = some (.tup xs)) : TyOf K H (.ref a) (.type "tuple")
  | dK {a : Addr} {kvs : List (Key × V)} (e : H a = some (.dK kvs)) : TyOf K H (.ref a) (.type "dict")
  | dT {a : Addr} {kvs : List (List Key × V)} (e : H a = some (.dT kvs)) : TyOf K H (.ref a) (.type "dict")
  | ins {a C dx : Addr} {fs : List (Str × V)} (e : H a = some (.ins C dx fs)) (cl : Cls K C) (ha : PySem.W.findIn K (.ref C) "__class__" = some (some (.builtin "object.__class__")))
      (hn : PySem.W.specialIn K (.builtin "object.__class__") "__get__" = some (some (.builtin "getset_descriptor.__get__"))) (htk : PySem.W.takesIn K (.builtin "object.__class__") = some true)
      (hm : PySem.W.mroIn K C (.type "object") = some true) : TyOf K H (.ref a) (.ref C)
/-- isinstance(x, c) for one class c, a built-in or an own one: kitOne's answer -/
theorem isinst_ok {x : V} {u t : Value} (I : Inv X pins σ H s) (rx : RelV x u) (ty : TyOf X.K H x t) (e : PySem.W.kitOne X.K t c = some b) (h : ∀ tk, Q (.bool b) { s with toks := tk }) :
    wpAny (model X.prog X.w) A (call (.builtin "isinstance") [u, c]) Q E s := by
  cases ty with
  | non => cases (show u = Value.none from rx); exact PySem.W.kia_one PySem.W.kitx_none I.kIn True.intro e (fun z => nomatch z) h
  | bl y => cases (show u = Value.bool y from rx); exact PySem.W.kia_one PySem.W.kitx_bool I.kIn True.intro e (fun z => nomatch z) h
  | int i => obtain ⟨t, q⟩ := (show ∃ t, u = Value.int i t from rx); cases q; exact PySem.W.kia_one PySem.W.kitx_int I.kIn True.intro e (fun z => nomatch z) h
  | str y => obtain ⟨t, q⟩ := (show ∃ t, u = Value.str y t from rx); cases q; exact PySem.W.kia_one PySem.W.kitx_str I.kIn True.intro e (fun z => nomatch z) h
  | flt y => obtain ⟨t, q⟩ := (show ∃ t, u = Value.float y t from rx); cases q; exact PySem.W.kia_one PySem.W.kitx_float I.kIn True.intro e (fun z => nomatch z) h
  | @lst a xs ea =>
    cases (show u = Value.ref a from rx)
    obtain ⟨_, _, n, _, h1⟩ := (show ObjOk X.prog X.w H s.heap a (.lst xs) from I.hok a _ ea)
    exact PySem.W.kia_one PySem.W.kitx_list I.kIn ⟨_, h1, rfl⟩ e (fun z => nomatch z) h
  | @frz a ob xs ea =>
    cases (show u = Value.ref a from rx)
    obtain ⟨_, _, _, n, _, h1⟩ := (show ObjOk X.prog X.w H s.heap a (.frz ob (.lst xs)) from I.hok a _ ea)
    exact PySem.W.kia_one PySem.W.kitx_list I.kIn ⟨_, h1, rfl⟩ e (fun z => nomatch z) h
  | @tup a xs ea =>
    cases (show u = Value.ref a from rx)
    obtain ⟨_, _, _, p⟩ := (show ObjOk X.prog X.w H s.heap a (.tup xs) from I.hok a _ ea)
    obtain ⟨o, h1, h2, _⟩ := p
    exact PySem.W.kia_one PySem.W.kitx_tuple I.kIn ⟨o, h1, h2⟩ e (fun z => nomatch z) h
  | @dK a kvs ea =>
    cases (show u = Value.ref a from rx)
    obtain ⟨_, _, vs, _, p⟩ := (show ObjOk X.prog X.w H s.heap a (.dK kvs) from I.hok a _ ea)
    obtain ⟨o, es, ep, h1, h2, _⟩ := p
    exact PySem.W.kia_one PySem.W.kitx_dict I.kIn ⟨o, h1, h2.1⟩ e (fun z => nomatch z) h
  | @dT a kvs ea =>
    cases (show u = Value.ref a from rx)
    obtain ⟨_, _, xs, _, o, es, ep, h1, h2, _⟩ := (show ObjOk X.prog X.w H s.heap a (.dT kvs) from I.hok a _ ea)
    exact PySem.W.kia_one PySem.W.kitx_dict I.kIn ⟨o, h1, h2.1⟩ e (fun z => nomatch z) h
  | @ins a C dx fs ea cl ha hn htk hm =>
    cases (show u = Value.ref a from rx)
    obtain ⟨mA, O, _⟩ := ins_get I.hok ea
    obtain ⟨od, J, _⟩ := O.look
    exact PySem.W.kia_one (PySem.W.kitx_own (cl.get _) cl.hd ha hn htk hm) I.kIn J e (fun z => nomatch z) h
end
end L2

namespace L2
open PySem PySem.Spec PyProof.Rows

/-! ### room -/
structure Room (k : Nat) (A : Around) : Prop where
  hd : A.handled = none
  dp : A.depth + 3 * k + 5 < recursionLimit
  un : A.units + 16 * k + 200 < cLine
theorem Room.mono {j k : Nat} {A : Around} (r : Room k A) (h : j ≤ k) : Room j A := ⟨r.hd, by have := r.dp; omega, by have := r.un; omega⟩
theorem Room.deeper {k : Nat} {A : Around} (r : Room (k + 1) A) (env : Env) : Room k (A.deeper env) :=
  ⟨r.hd, by have := r.dp; show A.depth + 1 + 3 * k + 5 < _; omega, by have := r.un; show A.units + 3 + 16 * k + 200 < _; omega⟩
theorem make_depth {A : Around} {C : Addr} {us : List Value} {kw : List (Str × Value)} : (A.under (.builtin "type.__call__" ⟨.ref C :: us, kw⟩)).depth = A.depth + 1 := by
  first | rfl | simp [Around.under, Code.weight, Code.isCreation, Code.isGuard, Code.isCaller, Code.frames, Code.isFrame, guardIds]
theorem make_units {A : Around} {C : Addr} {us : List Value} {kw : List (Str × Value)} : (A.under (.builtin "type.__call__" ⟨.ref C :: us, kw⟩)).units = A.units + 1 := by
  first | rfl | simp [Around.under, Code.cUnits, Code.frames, Code.isFrame]
theorem Room.make {k : Nat} {A : Around} (r : Room (k + 1) A) (C : Addr) (us : List Value) (kw : List (Str × Value)) : Room k (A.under (.builtin "type.__call__" ⟨.ref C :: us, kw⟩)) :=
  ⟨r.hd, by have := r.dp; rw [make_depth]; omega, by have := r.un; rw [make_units]; omega⟩
theorem Room.depth {k : Nat} {A : Around} (r : Room k A) : A.depth < recursionLimit := by have := r.dp; omega
theorem Room.units {k : Nat} {A : Around} (r : Room k A) : A.units + 64 < cLine := by have := r.un; omega
theorem Room.units0 {k : Nat} {A : Around} (r : Room k A) : A.units < cLine := by have := r.un; omega

/-! ### argument lists and displays -/
noncomputable def tNil : TA := fun _ H Q => Q [] H
noncomputable def tCons (ta : TE) (tr : TA) : TA := fun σ H Q => ta σ H fun x H1 => tr σ H1 fun xs H2 => Q (x :: xs) H2
section
variable {X : Cx} {e : Expr} {es : List Expr} {te : TE} {t : TA} {pos : Pos}
theorem pa_nil : PA X [] tNil := fun _ _ _ _ H Q I h => Calls.spliced_nil ⟨[], H, I, .nil, h⟩
theorem pa_cons (ha : PE X e te) (hr : PA X es t) (hs : starEach (e :: es) X.env = (false, eval e X.env) :: starEach es X.env := by rfl) : PA X (e :: es) (tCons te t) := by
  intro pos pins s σ H Q I h
  rw [hs]
  show wpAny _ _ (spliced ((false, eval e X.env) :: backTo pos (starEach es X.env))) _ _ s
  refine Calls.spliced_cons (thn (ha pins s σ H _ I h) fun u s1 zz => ?_)
  obtain ⟨x, H1, I1, r1, q1⟩ := zz
  exact thn (hr pos pins s1 σ H1 _ I1 q1) fun us s2 ⟨xs, H2, I2, r2, q2⟩ => ⟨x :: xs, H2, I2, .cons r1 r2, q2⟩

/-- a tuple, a list of written items -/
noncomputable def tTup (t : TA) : TE := fun σ H Q => t σ H fun xs H1 => xs.length ≤ sizeLine ∧ ∀ p, H1 p = none → Q (.ref p) (upd H1 p (.tup xs))
noncomputable def tLst (t : TA) : TE := fun σ H Q => t σ H fun xs H1 => xs.length ≤ sizeLine ∧ ∀ p, H1 p = none → Q (.ref p) (upd H1 p (.lst xs))
theorem pe_tup {x1} (h : PA X es t) : PE X (.Tuple es x1 pos) (tTup t) := by
  intro pins s σ H Q I hq
  refine wpAny_Tuple_spliced (thn (h pos pins s σ H _ I hq) fun us s1 ⟨xs, H1, I1, r, z, q⟩ => ⟨by rw [← r.length]; exact z, ?_⟩)
  have hf : H1 s1.heap.objs.size = none := I1.hok.fresh (Nat.le_refl _)
  refine ⟨.ref s1.heap.objs.size, upd H1 s1.heap.objs.size (.tup xs), I1.laid (t' := s1.toks) (fun b u e => Heap.get?_push_of_some _ e) (Nat.le_refl _) ?_, rfl, q _ hf⟩
  exact ⟨z, us, r, ⟨_, Heap.get?_push_size _ rfl, rfl, _, rfl⟩⟩
theorem pe_lst (h : PA X es t) : PE X (.List es pos) (tLst t) := by
  intro pins s σ H Q I hq
  refine wpAny_List_spliced (thn (h pos pins s σ H _ I hq) fun us s1 ⟨xs, H1, I1, r, z, q⟩ => ⟨by rw [← r.length]; exact z, ?_⟩)
  have hf : H1 s1.heap.objs.size = none := I1.hok.fresh (Nat.le_refl _)
  refine ⟨.ref s1.heap.objs.size, upd H1 s1.heap.objs.size (.lst xs), I1.laid (t' := s1.toks) (fun b u e => Heap.get?_push_of_some _ e) (Nat.le_refl _) ?_, rfl, q _ hf⟩
  exact ⟨z, us, 0, r, Heap.get?_push_size _ rfl⟩
end

/-! ### what a def promises -/
/-- a def's promise: the bound arguments in the parameters' order, the heap, the wanted end, the wanted exception -/
noncomputable abbrev Sp := List V → Hp → VK → XK → Prop
/-- how an exception lies behind a call (file 08 gives it): the callers' frames, abstract heap and state ahead of the call, the wish, the exception, the state -/
noncomputable abbrev CXT := List Env → Hp → Shared → XK → Value → Shared → Prop

/-- the state at a call -/
structure Env0 (P : Program) (w : World) (K : PySem.W.Frag) (mg : Str → Option Value) (base : Heap) (A : Around) (outer : List Env) (s : Shared) (H : Hp) : Prop where
  frames : A.frames = some outer
  mod : Mod K mg base
  bs : ∀ b o, base.get? b = some o → s.heap.get? b = some o ∧ H b = none
  bsz : base.objs.size ≤ s.heap.objs.size
  funs : s.heap.FunFrames base outer
  frf : ∀ b ∈ frs outer, H b = none
  hok : HOk P w H s.heap
  bare : AllBare s.gens
/-- a call's end -/
noncomputable def CE (outer : List Env) (P : Program) (w : World) (H : Hp) (s : Shared) (Q : VK) (u : Value) (s' : Shared) : Prop :=
  ∃ v H', s'.os = s.os ∧ AllBare s'.gens ∧ Un (frs outer) [] H H' s.heap s'.heap ∧ HOk P w H' s'.heap ∧ RelV v u ∧ Q v H'
noncomputable def CR (CX : CXT) (outer : List Env) (P : Program) (w : World) (H : Hp) (s : Shared) (Q : VK) (E : XK) (r : Result) (s' : Shared) : Prop :=
  match r with
  | .ok (.ret u) => CE outer P w H s Q u s'
  | .ok _ => False
  | .error e => CX outer H s E e s'
structure FnOk (P : Program) (w : World) (K : PySem.W.Frag) (mg : Str → Option Value) (base : Heap) (CX : CXT) (k : Nat) (f : Addr) (fd : FuncData) (ps : List Str) (sp : Sp) : Prop where
  len : ∀ vs H Q E, sp vs H Q E → vs.length = ps.length
  run : ∀ (A : Around) (outer : List Env) (s : Shared) (H : Hp) (args : Args) (us : List Value) (vs : List V) (Q : VK) (E : XK), Room k A → Env0 P w K mg base A outer s H → BindsTo s fd args (ps.zip us) → Vals vs us → sp vs H Q E →
    codeAny (model P w) A (.call (.ref f) args) (CR CX outer P w H s Q E) s
theorem FnOk.mono {P : Program} {w : World} {K : PySem.W.Frag} {mg : Str → Option Value} {base : Heap} {CX : CXT} {j k : Nat} {f : Addr} {fd : FuncData} {ps : List Str} {sp : Sp} (F : FnOk P w K mg base CX j f fd ps sp) (h : j ≤ k) :
    FnOk P w K mg base CX k f fd ps sp := ⟨F.len, fun A outer s H args us vs Q E hr => F.run A outer s H args us vs Q E (hr.mono h)⟩

theorem Env0.make {P : Program} {w : World} {K : PySem.W.Frag} {mg : Str → Option Value} {base : Heap} {A : Around} {outer : List Env} {s : Shared} {H : Hp} (e : Env0 P w K mg base A outer s H) (C : Addr) (us : List Value) (kw : List (Str × Value)) :
    Env0 P w K mg base (A.under (.builtin "type.__call__" ⟨.ref C :: us, kw⟩)) outer s H := ⟨by first | exact e.frames | (simpa [Around.under, Code.envs, Code.isFrame, pushEnvs] using e.frames), e.mod, e.bs, e.bsz, e.funs, e.frf, e.hok, e.bare⟩

section
variable {X : Cx} {pins : List (Addr × Obj)} {σ : St} {H : Hp} {s s' : Shared}
/-- from a body: what a callee wants -/
theorem Inv.env0 (I : Inv X pins σ H s) : Env0 X.prog X.w X.K X.mg X.base X.A X.stack s H :=
  ⟨I.ok.frames, I.ok.mod, I.bs, Nat.le_trans I.ok.bsz I.sz, I.stack, I.stkFree, I.hok, I.bare⟩
/-- behind a call -/
theorem Inv.after {Q : VK} {u : Value} (I : Inv X pins σ H s) (h : CE X.stack X.prog X.w H s Q u s') : EP X pins σ Q u s' := by
  obtain ⟨v, H', os, bare, un, hok, r, q⟩ := h
  obtain ⟨hh, g, d, t, os'⟩ := s'
  obtain rfl : os' = s.os := os
  exact ⟨v, H', I.call (h' := hh) (g' := g) (d' := d) (t' := t) (ch := []) un hok bare (fun b z => absurd z (by simp)), r, q⟩
end

/-! ### calls -/
/-- f(..): the written arguments, then the defaults dvs; E: what is wanted of an exception -/
noncomputable def tCall (sp : Sp) (dvs : List V) (E : XK) (t : TA) : TE := fun σ H Q => t σ H fun vs H1 => sp (vs ++ dvs) H1 Q E
/-- C(..): a new instance and its dict, then __init__ -/
noncomputable def tMake (C : Addr) (sp : Sp) (dvs : List V) (E : XK) (t : TA) : TE := fun σ H Q => t σ H fun vs H1 => ∀ x dx, H1 x = none → H1 dx = none → dx ≠ x →
  sp (.ref x :: (vs ++ dvs)) (upd (upd H1 dx (.own x)) x (.ins C dx [])) (fun v H2 => v = .non ∧ Q (.ref x) H2) E

/-- how the parameters are bound: us the positional arguments, kw the keywords' values by name, ds the defaults that fill up -/
noncomputable def Binds (K : PySem.W.Frag) (fd : FuncData) (ps : List Str) (ds : List Value) : Prop :=
  ∀ (s : Shared) (us : List Value), K.In s.heap → (us ++ ds).length = ps.length → BindsTo s fd ⟨us, []⟩ (ps.zip (us ++ ds))
/-- every parameter is given -/
theorem Binds.all {K : PySem.W.Frag} {fd : FuncData} {ps : List Str} (h : ∀ us : List Value, us.length = ps.length → bindArgs fd ⟨us, []⟩ = pure (ps.zip us)) : Binds K fd ps [] := fun s us _ hl => by
  rw [List.append_nil] at hl ⊢
  exact .of_eq (h us hl)

/-- an exception of a callee reaches what this body wants of exceptions -/
noncomputable def Passes (CX : CXT) (X : Cx) (E : XK) : Prop := ∀ (pins : List (Addr × Obj)) (σ : St) (H : Hp) (s : Shared) (e : Value) (s' : Shared), Inv X pins σ H s → CX X.stack H s E e s' → X.xe e s'

section
variable {X : Cx} {CX : CXT} {k : Nat} {f C : Addr} {fd : FuncData} {ps : List Str} {sp : Sp} {dvs : List V} {ds : List Value} {E : XK} {x m : Str} {p pos apos : Pos} {e o : Expr} {es : List Expr} {ta : TE} {t : TA}

/-- the callee runs -/
theorem run_fn {pins : List (Addr × Obj)} {σ : St} {H : Hp} {s : Shared} {Q : VK} {us : List Value} {vs : List V} (F : FnOk X.prog X.w X.K X.mg X.base CX k f fd ps sp) (hr : Room k X.A) (hb : Binds X.K fd ps ds) (hd : Vals dvs ds) (hx : Passes CX X E)
    (I : Inv X pins σ H s) (r : Vals vs us) (h : sp (vs ++ dvs) H Q E) : wpAny (model X.prog X.w) X.A (call (.ref f) us) (EP X pins σ Q) X.xe s := by
  have r2 : Vals (vs ++ dvs) (us ++ ds) := r.append hd
  have hl : (us ++ ds).length = ps.length := by rw [← r2.length]; exact F.len _ _ _ _ h
  refine wpAny_call (codeAny_mono (F.run X.A X.stack s H ⟨us, []⟩ (us ++ ds) (vs ++ dvs) Q E hr I.env0 (hb s us I.kIn hl) r2 h) fun r s' hq => ?_)
  cases r with
  | error e => exact hx pins σ H s e s' I hq
  | ok fl =>
    cases fl with
    | ret u => exact I.after hq
    | next => exact False.elim hq
    | brk => exact False.elim hq
    | cont => exact False.elim hq

theorem pe_call (F : FnOk X.prog X.w X.K X.mg X.base CX k f fd ps sp) (hr : Room k X.A) (hg : Gl X x) (hm : X.mg x = some (.ref f)) (hk : PySem.W.keepIn X.K (.ref f) = true) (hb : Binds X.K fd ps ds) (hd : Vals dvs ds) (hx : Passes CX X E)
    (ha : PA X (e :: es) t) (hdb : (x == ("__debug__" : Str)) = false := by decide) (he : starEach (e :: es) X.env = (false, eval e X.env) :: starEach es X.env := by rfl) (hpl : (backTo pos (starEach es X.env)).any (·.1) = false := by rfl) :
    PE X (.Call (.Name x p) (e :: es) [] pos) (tCall sp dvs E t) := by
  intro pins s σ H Q I h
  refine wpAny_Call_Name_kw (ld_glob I hg hm ?_ hdb)
  refine PySem.W.callWith_K (h₀ := X.base) I.ok.mod.kin hk (thn (ha pos pins s σ H _ I h) fun us s1 ⟨vs, H1, I1, r, q⟩ => ⟨I1.kIn, ?_⟩) he hpl
  exact run_fn F hr hb hd hx I1 r q


/-- what a class must have to be made -/
structure Mk (K : PySem.W.Frag) (C f : Addr) : Prop where
  makes : PySem.W.makesIn K C = true
  init : PySem.W.findIn K (.ref C) "__init__" = some (some (.ref f))
  fn : PySem.W.isFn K (.ref f) = true
  kp : PySem.W.keepIn K (.ref C) = true

theorem run_make {pins : List (Addr × Obj)} {σ : St} {H : Hp} {s : Shared} {Q : VK} {us : List Value} {vs : List V} (M : Mk X.K C f) (F : FnOk X.prog X.w X.K X.mg X.base CX k f fd ps sp) (hr : Room (k + 1) X.A) (hb : Binds X.K fd ps ds) (hd : Vals dvs ds)
    (hx : Passes CX X E) (I : Inv X pins σ H s) (r : Vals vs us)
    (h : ∀ x dx, H x = none → H dx = none → dx ≠ x → sp (.ref x :: (vs ++ dvs)) (upd (upd H dx (.own x)) x (.ins C dx [])) (fun v H2 => v = .non ∧ Q (.ref x) H2) E) :
    wpAny (model X.prog X.w) X.A (call (.ref C) us) (EP X pins σ Q) X.xe s := by
  have hq := h (s.heap.objs.size + 1) s.heap.objs.size (I.hok.fresh (Nat.le_succ _)) (I.hok.fresh (Nat.le_refl _)) (Nat.ne_of_lt (Nat.lt_succ_self _))
  have I2 := Inv.made (C := C) I
  have r2 : Vals (V.ref (s.heap.objs.size + 1) :: (vs ++ dvs)) (Value.ref (s.heap.objs.size + 1) :: (us ++ ds)) := .cons rfl (r.append hd)
  have hl : (Value.ref (s.heap.objs.size + 1) :: us ++ ds).length = ps.length := by
    have e := r2.length
    rw [F.len _ _ _ _ hq] at e
    exact e.symm
  refine wpAny_call (make_map (f := f) I.kIn M.makes M.init (beq_iff_eq.mp M.fn) (codeAny_mono (F.run _ X.stack _ _ ⟨Value.ref (s.heap.objs.size + 1) :: us, []⟩ (Value.ref (s.heap.objs.size + 1) :: (us ++ ds)) _ _ E (hr.make C us [])
    (I2.env0.make C us []) (hb _ (Value.ref (s.heap.objs.size + 1) :: us) I2.kIn hl) r2 hq) fun r s' hq' => ?_))
  cases r with
  | error e => exact hx pins σ _ _ e s' I2 hq'
  | ok fl =>
    cases fl with
    | ret u =>
      obtain ⟨v, H', I3, rv, ev, q3⟩ := I2.after hq'
      subst ev
      exact ⟨rv, ⟨V.ref (s.heap.objs.size + 1), H', I3, rfl, q3⟩⟩
    | next => exact False.elim hq'
    | brk => exact False.elim hq'
    | cont => exact False.elim hq'
theorem pe_make (M : Mk X.K C f) (F : FnOk X.prog X.w X.K X.mg X.base CX k f fd ps sp) (hr : Room (k + 1) X.A) (hg : Gl X x) (hm : X.mg x = some (.ref C)) (hb : Binds X.K fd ps ds) (hd : Vals dvs ds) (hx : Passes CX X E)
    (ha : PA X (e :: es) t) (hdb : (x == ("__debug__" : Str)) = false := by decide) (he : starEach (e :: es) X.env = (false, eval e X.env) :: starEach es X.env := by rfl) (hpl : (backTo pos (starEach es X.env)).any (·.1) = false := by rfl) :
    PE X (.Call (.Name x p) (e :: es) [] pos) (tMake C sp dvs E t) := by
  intro pins s σ H Q I h
  refine wpAny_Call_Name_kw (ld_glob I hg hm ?_ hdb)
  refine PySem.W.callWith_K (h₀ := X.base) I.ok.mod.kin M.kp (thn (ha pos pins s σ H _ I h) fun us s1 ⟨vs, H1, I1, r, q⟩ => ⟨I1.kIn, ?_⟩) he hpl
  exact run_make M F hr hb hd hx I1 r q
end

/-! ### keywords -/
section
variable {X : Cx} {CX : CXT} {k : Nat} {f C : Addr} {fd : FuncData} {ps ks : List Str} {sp : Sp} {E : XK} {x m : Str} {p pos apos kpos : Pos} {e o : Expr} {es : List Expr} {kws : List Keyword} {te ta : TE} {t tk : TA} {nm : Option Str}

variable {g : List Value → List Value → List Value} {gV : List V → List V → List V}
end

/-! ### a def's body keeps its promise -/
/-- names: the parameters first -/
structure FnScope (N P : List Str) (sc : Scope) : Prop where
  kind : sc.kind = .function
  co : sc.isCoroutine = false
  gen : sc.isGenerator = false
  nd : N.Nodup
  pre : N.take P.length = P
  par : ∀ x ∈ P, sc.names.lookup x = some .local ∨ sc.names.lookup x = some .cell
  nofree : ∀ y ∈ sc.names, y.2 ≠ .free

theorem bindL_out {kindOf : Str → Option NameKind} {x : Str} : ∀ {binds : List (Str × Value)} {m : Str → Option Value}, (∀ v, (x, v) ∉ binds) → bindL kindOf binds m x = m x
  | [], _, _ => rfl
  | (n, v) :: r, m, h => by
    unfold bindL
    rw [bindL_out fun w hw => h w (List.mem_cons_of_mem _ hw)]
    split
    · have : x ≠ n := by rintro rfl; exact h v List.mem_cons_self
      simp [this]
    · rfl
theorem bindC_out {kindOf : Str → Option NameKind} {x : Str} : ∀ {binds : List (Str × Value)} {m : Str → Option Value}, (∀ v, (x, v) ∉ binds) → bindC kindOf binds m x = m x
  | [], _, _ => rfl
  | (n, v) :: r, m, h => by
    unfold bindC
    rw [bindC_out fun w hw => h w (List.mem_cons_of_mem _ hw)]
    split
    · rfl
    · have : x ≠ n := by rintro rfl; exact h v List.mem_cons_self
      simp [this]
theorem bindL_get {kindOf : Str → Option NameKind} {x : Str} {v : Value} : ∀ {P : List Str} {vs : List Value} {i : Nat} {m : Str → Option Value}, P.Nodup → P[i]? = some x → vs[i]? = some v → kindOf x = some .local →
    bindL kindOf (P.zip vs) m x = some v
  | [], _, _, _, _, h, _, _ => by simp at h
  | _ :: _, [], _, _, _, _, h, _ => by simp at h
  | p :: P, w :: vs, 0, m, nd, h1, h2, hk => by
    simp at h1 h2; subst h1; subst h2
    show bindL kindOf ((p, w) :: P.zip vs) m p = _
    unfold bindL
    rw [bindL_out fun v hv => (List.nodup_cons.mp nd).1 (List.of_mem_zip hv).1, if_pos hk]
    simp
  | p :: P, w :: vs, i + 1, m, nd, h1, h2, hk => by
    show bindL kindOf ((p, w) :: P.zip vs) m x = _
    unfold bindL
    exact bindL_get (i := i) (List.nodup_cons.mp nd).2 (by simpa using h1) (by simpa using h2) hk
theorem bindC_get {kindOf : Str → Option NameKind} {x : Str} {v : Value} : ∀ {P : List Str} {vs : List Value} {i : Nat} {m : Str → Option Value}, P.Nodup → P[i]? = some x → vs[i]? = some v → kindOf x ≠ some .local →
    bindC kindOf (P.zip vs) m x = some v
  | [], _, _, _, _, h, _, _ => by simp at h
  | _ :: _, [], _, _, _, _, h, _ => by simp at h
  | p :: P, w :: vs, 0, m, nd, h1, h2, hk => by
    simp at h1 h2; subst h1; subst h2
    show bindC kindOf ((p, w) :: P.zip vs) m p = _
    unfold bindC
    rw [bindC_out fun v hv => (List.nodup_cons.mp nd).1 (List.of_mem_zip hv).1, if_neg hk]
    simp
  | p :: P, w :: vs, i + 1, m, nd, h1, h2, hk => by
    show bindC kindOf ((p, w) :: P.zip vs) m x = _
    unfold bindC
    exact bindC_get (i := i) (List.nodup_cons.mp nd).2 (by simpa using h1) (by simpa using h2) hk

/-- the names' values at the entry -/
noncomputable def start (N : List Str) (vs : List V) : St := vs.map some ++ List.replicate (N.length - vs.length) none

/-- the context of a def's body, at its entry; an exception leaves the frame, then lies as CX says -/
noncomputable def cxOf (CX : CXT) (P : Program) (w : World) (K : PySem.W.Frag) (mg : Str → Option Value) (base : Heap) (N : List Str) (qual : Str) (scope : Scope) (f : Addr) (cd : Value) (A : Around) (outer : List Env) (s : Shared) (H : Hp) (E : XK) : Cx where
  prog := P
  w := w
  K := K
  mg := mg
  base := base
  A := A.deeper (envOfC qual scope s.heap.objs.size f cd)
  N := N
  s₀ := s
  H₀ := H
  env := envOfC qual scope s.heap.objs.size f cd
  outer := outer
  stack := envOfC qual scope s.heap.objs.size f cd :: outer
  ex := []
  calm := true
  fn := fun _ => true
  pn := []
  xe := fun e s' => wpAny (model P w) (A.deeper (envOfC qual scope s.heap.objs.size f cd)) (leaving (envOfC qual scope s.heap.objs.size f cd) e) (fun _ s'' => CX outer H s E e s'') (fun e' s'' => CX outer H s E e' s'') s'

theorem cell_has {sc : Scope} {n : Nat} {x : Str} (h : sc.names.lookup x = some .cell) : ∃ c, (cellsFrom n sc.names []).lookup x = some c := by
  have q := PySem.W.cellsFrom_some sc.names n [] (.inl h)
  exact Option.isSome_iff_exists.mp q

theorem inv_start {CX : CXT} {P : Program} {w : World} {K : PySem.W.Frag} {mg : Str → Option Value} {base : Heap} {N ps : List Str} {qual : Str} {scope : Scope} {f : Addr} {cd : Value} {A : Around} {outer : List Env} {s s1 : Shared} {H : Hp} {E : XK} {us : List Value} {vs : List V}
    (S : FnScope N ps scope) (hd : A.handled = none) (e0 : Env0 P w K mg base A outer s H) (hl : vs.length = ps.length) (r : Vals vs us)
    (x : InCallC s s.heap.objs.size (bindL (envOfC qual scope s.heap.objs.size f cd).kindOf (ps.zip us) fun _ => none) (cellsFrom (s.heap.objs.size + 1) scope.names []) (bindC (envOfC qual scope s.heap.objs.size f cd).kindOf (ps.zip us) fun _ => none) s1) :
    Inv (cxOf CX P w K mg base N qual scope f cd A outer s H E) [] (start N vs) H s1 := by
  have hpl : ps.length ≤ N.length := by have := congrArg List.length S.pre; rw [List.length_take] at this; omega
  obtain ⟨h1, tk, rfl, hk⟩ := x.done
  have noA : ∀ b : Addr, b ∉ (cxOf CX P w K mg base N qual scope f cd A outer s H E).ex := fun b z => absurd (show b ∈ ([] : List Addr) from z) (by simp)
  refine ⟨⟨e0.mod, S.kind, rfl, rfl, Nat.le_refl _, fun y z c h1 h2 => ?_, fun y hy => ?_, fun y c _ h => ?_, fun _ => hd, Around.frames_deeper e0.frames, .inr ⟨rfl, rfl⟩, fun b z => absurd z (noA b), e0.bs, e0.bsz, fun b _ _ => noA b, fun b z => absurd z (noA b), e0.funs, e0.frf⟩,
    rfl, e0.bare, Un.kept hk, ⟨_, x.toInCall.ns, fun i y v h1 h2 h3 => ?_⟩, fun y c h => ⟨_, x.cell y c h⟩, e0.hok.fresh (Nat.le_refl _), fun y c h => ?_, fun p hp => absurd (show p ∈ ([] : List (Addr × Obj)) from hp) (by simp), e0.hok.kept hk, ?_⟩
  · exact name_of_addr x.apart (PySem.mem_of_lookup h1) (PySem.mem_of_lookup h2)
  · have hy : scope.names.lookup y = some .cell ∨ scope.names.lookup y = some .free := hy
    rcases hy with hy | hy
    · exact cell_has hy
    · exact absurd rfl (S.nofree _ (PySem.mem_of_lookup hy))
  · exact Nat.le_of_lt (x.above y c (PySem.mem_of_lookup h))
  · have hi : i < vs.length := by
      unfold start at h2
      by_cases hi : i < vs.length
      · exact hi
      · rw [List.getElem?_append_right (by simpa using hi)] at h2
        rw [List.getElem?_replicate] at h2
        split at h2 <;> cases h2
    have ha : vs[i]? = some v := by
      unfold start at h2
      rw [List.getElem?_append_left (by simpa using hi), List.getElem?_map] at h2
      cases e : vs[i]? with
      | none => rw [e] at h2; cases h2
      | some a => rw [e] at h2; cases h2; rfl
    obtain ⟨u, hu, rv⟩ := r.get ha
    have hp : ps[i]? = some y := by
      rw [← S.pre, List.getElem?_take_of_lt (by omega)]; exact h1
    have ndP : ps.Nodup := by rw [← S.pre]; exact S.nd.sublist (List.take_sublist _ _)
    refine ⟨u, rv, ?_⟩
    rcases S.par y (List.mem_of_getElem? hp) with k | k
    · exact .inl ⟨k, bindL_get ndP hp hu k⟩
    · obtain ⟨c, e⟩ := cell_has (n := s.heap.objs.size + 1) k
      refine .inr ⟨.inl k, c, e, ?_⟩
      have q := x.cell y c e
      rw [bindC_get ndP hp hu (by show scope.names.lookup y ≠ _; rw [k]; decide)] at q
      exact q
  · exact e0.hok.fresh (Nat.le_of_lt (x.above y c (PySem.mem_of_lookup h)))
  · unfold start
    show _ = N.length
    rw [List.length_append, List.length_map, List.length_replicate]
    omega

/-- THE RULE: a def (or a method) of the text, by its body. The body's reading t is chosen for each entry; it is run at the parameters' values -/
theorem fn_of {CX : CXT} {P : Program} {w : World} {K : PySem.W.Frag} {mg : Str → Option Value} {base : Heap} {k : Nat} {f : Addr} {name qual : Str} {params : Arguments} {body : List Stmt} {scope : Scope} {dV kV doc pm cdv ct oc : Value} {an od : Option Addr}
    {osl : Array (Option Value)} {N ps : List Str} {sp : Sp} (lk : K.lookup f = some ⟨oc, od, .func (PySem.W.fnOf name qual params body scope dV kV doc pm an cdv ct), osl⟩) (hcd : PySem.W.codeIn K cdv qual = true) (S : FnScope N ps scope)
    (len : ∀ vs H Q E, sp vs H Q E → vs.length = ps.length)
    (hbody : ∀ (A : Around) (outer : List Env) (s : Shared) (H : Hp) (vs : List V) (Q : VK) (E : XK), Room k (A.deeper (envOfC qual scope s.heap.objs.size f cdv)) → sp vs H Q E →
      ∃ t, PSs (cxOf CX P w K mg base N qual scope f cdv A outer s H E) body t ∧ t { nx := fun _ H' => Q .non H', rt := Q } (start N vs) H) :
    FnOk P w K mg base CX (k + 1) f (PySem.W.fnOf name qual params body scope dV kV doc pm an cdv ct) ps sp := by
  refine ⟨len, fun A outer s H args us vs Q E hr e0 hb r hsp => ?_⟩
  have hl := len _ _ _ _ hsp
  have KX : K.In s.heap := e0.mod.kin.keeps fun b o e => (e0.bs b o e).1
  have lim : s.heap.NoLimit := e0.mod.nolimit.keeps fun b o e => (e0.bs b o e).1
  have hkind : ∀ y ∈ ps.zip us, scope.names.lookup y.1 = some .local ∨ (scope.names.lookup y.1 = some .cell ∧ ((cellsFrom (s.heap.objs.size + 1) scope.names []).lookup y.1).isSome = true) := fun ⟨n, v⟩ hy => by
    rcases S.par n (List.of_mem_zip hy).1 with q | q
    · exact .inl q
    · exact .inr ⟨q, PySem.W.cellsFrom_some _ _ _ (.inl q)⟩
  refine codeAny_call_function hr.depth (KX _ _ lk) rfl S.co S.gen rfl (PySem.W.codeRec_of KX hcd) (hb _ _ _ _ ?_)
  refine wpAny_newFunctionEnv_cells S.kind hkind fun env he s1 x => ?_
  subst he
  refine ⟨lim.keeps x.toInCall.keep, codeAny_func ?_⟩
  obtain ⟨t, ht, hq⟩ := hbody A outer s H vs Q E (hr.deeper _) hsp
  have I : Inv (cxOf CX P w K mg base N qual scope f cdv A outer s H E) [] (start N vs) H s1 := inv_start S hr.hd e0 hl r x
  refine wpAny_mono (ht [] s1 (start N vs) H _ I hq) (fun fl s' hs => ?_) fun e s' hs => hs
  have fin : ∀ {σ' : St} {H' : Hp} {v : V} {u : Value}, Inv (cxOf CX P w K mg base N qual scope f cdv A outer s H E) [] σ' H' s' → RelV v u → Q v H' → CE outer P w H s Q u s' :=
    fun {σ' H' v u} J rv q => ⟨v, H', J.os, J.bare, J.base, J.hok, rv, q⟩
  cases fl with
  | ret u =>
    obtain ⟨v, σ', H', J, rv, q⟩ := hs
    exact fin J rv q
  | next =>
    obtain ⟨σ', H', J, q⟩ := hs
    exact fin (v := V.non) (u := Value.none) J rfl q
  | brk =>
    obtain ⟨_, _, _, q⟩ := hs
    exact False.elim q
  | cont =>
    obtain ⟨_, _, _, q⟩ := hs
    exact False.elim q
end L2

namespace L2
open PySem PySem.Spec PyProof.Rows
section
variable {X : Cx} {x : Str} {p pos : Pos} {e : Expr} {es : List Expr} {t : TA} {id T : String} {r : List V → Hp → VK → Prop}

noncomputable def tCB (r : List V → Hp → VK → Prop) (t : TA) : TE := fun σ H Q => t σ H fun vs H1 => r vs H1 Q
/-- f(e, ..), f a built-in function -/
theorem pe_callB (hc : CallR X (.builtin id) r) (hg : Gl X x) (hm : X.mg x = none) (hv : bootBuiltins x = some (.builtin id)) (ha : PA X (e :: es) t) (hn : x ≠ "__name__" := by decide) (hdb : (x == ("__debug__" : Str)) = false := by decide)
    (he : starEach (e :: es) X.env = (false, eval e X.env) :: starEach es X.env := by rfl) (hpl : (backTo pos (starEach es X.env)).any (·.1) = false := by rfl) : PE X (.Call (.Name x p) (e :: es) [] pos) (tCB r t) := by
  intro pins s σ H Q I h
  refine wpAny_Call_Name_kw (ld_blt I hg hm hv ?_ hn hdb)
  exact PyProof.Rows.callWith_builtin1 (thn (ha pos pins s σ H _ I h) fun us s1 ⟨vs, H1, I1, r1, q1⟩ => hc pins s1 σ H1 vs us Q I1 r1 q1) he hpl
/-- T(e, ..), T a built-in type -/
theorem pe_callTy (hc : CallR X (.type T) r) (hg : Gl X x) (hm : X.mg x = none) (hv : bootBuiltins x = some (.type T)) (ha : PA X (e :: es) t) (hn : x ≠ "__name__" := by decide) (hdb : (x == ("__debug__" : Str)) = false := by decide)
    (he : starEach (e :: es) X.env = (false, eval e X.env) :: starEach es X.env := by rfl) (hpl : (backTo pos (starEach es X.env)).any (·.1) = false := by rfl) : PE X (.Call (.Name x p) (e :: es) [] pos) (tCB r t) := by
  intro pins s σ H Q I h
  refine wpAny_Call_Name_kw (ld_blt I hg hm hv ?_ hn hdb)
  exact PyProof.Rows.callWith_type1 (thn (ha pos pins s σ H _ I h) fun us s1 ⟨vs, H1, I1, r1, q1⟩ => hc pins s1 σ H1 vs us Q I1 r1 q1) he hpl
end
end L2

namespace HT
open PySem PyProof.Rows



section
open PySem.SeqAt
open PySem.AutoSeq1 (wpAny_loadPart')
open PySem.MeetsSeq PySem.MeetsSeq2 PySem.MeetsSeq3

end

section
variable {prog : Program} {w : World} {A : Around} {E : Value → Shared → Prop} {s : Shared}



/-! ### t[a:b], not the whole -/
/-- a slice's bound as a place among n (d where it is left out) -/
noncomputable def sIx (n d : Nat) : Option Int → Nat
  | none => d
  | some v => if v < 0 then (v + (n : Int)).toNat else min v.toNat n
theorem sIx_none (n d : Nat) : sIx n d none = d := rfl
theorem sIx_nat (n d k : Nat) : sIx n d (some (k : Int)) = min k n := by
  show (if (k : Int) < 0 then ((k : Int) + (n : Int)).toNat else min (k : Int).toNat n) = min k n
  rw [if_neg (by omega), Int.toNat_natCast]
theorem sIx_le (n d : Nat) (hd : d ≤ n) (o : Option Int) : sIx n d o ≤ n := by
  cases o with
  | none => exact hd
  | some v =>
    show (if v < 0 then (v + (n : Int)).toNat else min v.toNat n) ≤ n
    by_cases hv : v < 0
    · rw [if_pos hv]; omega
    · rw [if_neg hv]; exact Nat.min_le_right _ _

end
end HT

namespace L2
open PySem PySem.Spec PyProof.Rows

/-! ### the parts of a slice -/
noncomputable abbrev TO := St → Hp → (Option Int → Hp → Prop) → Prop
/-- a slice's part (left out, or an int) -/
noncomputable def PO (X : Cx) (e : Option Expr) (t : TO) : Prop :=
  ∀ (pins : List (Addr × Obj)) (s : Shared) (σ : St) (H : Hp) (Q : Option Int → Hp → Prop), Inv X pins σ H s → t σ H Q →
    wpAny (model X.prog X.w) X.A (evalPart e X.env) (fun u s' => ∃ o H', Inv X pins σ H' s' ∧ IsPart u o ∧ Q o H') X.xe s
noncomputable def tNoPart : TO := fun _ H Q => Q none H
noncomputable def tPart (t : TE) : TO := fun σ H Q => t σ H fun x H1 => ∃ i, x = .int i ∧ Q (some i) H1


section
variable {X : Cx} {e : Expr} {te : TE} {lo hi : Option Expr} {tl th : TO} {pos p2 : Pos}

theorem po_none : PO X none tNoPart := by
  intro pins s σ H Q I h
  rw [evalPart_none]
  exact wpAny_pure ⟨none, H, I, .none, h⟩
theorem po_some (h : PE X e te) : PO X (some e) (tPart te) := by
  intro pins s σ H Q I hw
  rw [evalPart_some]
  refine thn (h pins s σ H _ I hw) fun u s1 zz => ?_
  obtain ⟨x, H1, I1, r1, q1⟩ := zz
  obtain ⟨i, rfl, q⟩ := q1
  obtain ⟨t, rfl⟩ := r1
  exact ⟨some i, H1, I1, .int i t, q⟩

/-- what a slice of a value is, by values: the slice object stands at sl -/
noncomputable def SlR (X : Cx) (r : V → Option Int → Option Int → Hp → VK → Prop) : Prop :=
  ∀ (pins : List (Addr × Obj)) (s : Shared) (σ : St) (H : Hp) (x : V) (v vl vu : Value) (lo hi : Option Int) (sl : Addr) (Q : VK), Inv X pins σ H s → RelV x v → s.heap.IsSliceOf sl vl vu .none → IsPart vl lo → IsPart vu hi → r x lo hi H Q →
    ∃ T id, typeLookup (.type T) "__getitem__" = pure (some (.builtin id)) ∧ s.TypeIs v T ∧ wpAny (model X.prog X.w) X.A (getItem v (.ref sl)) (EP X pins σ Q) X.xe s
noncomputable def tSl (r : V → Option Int → Option Int → Hp → VK → Prop) (te : TE) (tl th : TO) : TE := fun σ H Q => te σ H fun x H1 => tl σ H1 fun l H2 => th σ H2 fun u H3 => r x l u H3 Q
/-- a[lo:hi], any a -/
theorem pe_slice {r : V → Option Int → Option Int → Hp → VK → Prop} (hr : SlR X r) (he : PE X e te) (hl : PO X lo tl) (hu : PO X hi th) : PE X (.Subscript e (.Slice lo hi none p2) pos) (tSl r te tl th) := by
  intro pins s σ H Q I h
  refine Subscript_ (thn (he pins s σ H _ I h) fun v s1 zz => ?_)
  obtain ⟨x, H1, I1, r1, q1⟩ := zz
  refine wpAny_Slice (thn (hl pins s1 σ H1 _ I1 q1) fun vl s2 ⟨l, H2, I2, pl, q2⟩ => thn (hu pins s2 σ H2 _ I2 q2) fun vu s3 zz => ?_)
  obtain ⟨u, H3, I3, pu, q3⟩ := zz
  rw [evalPart_none]
  refine wpAny_pure ?_
  have I4 : Inv X pins σ H3 { s3 with heap := s3.heap.push { cls := .type "slice", data := .fields #[vl, vu, .none] } } := I3.kept (t' := s3.toks) fun b ob q => Heap.get?_push_of_some _ q
  obtain ⟨T, id, hT, ht, hg⟩ := hr pins { s3 with heap := s3.heap.push { cls := .type "slice", data := .fields #[vl, vu, .none] } } σ H3 x v vl vu l u s3.heap.objs.size Q I4 r1 (Heap.IsSliceOf.new ..) pl pu q3
  show wpAny (model X.prog X.w) X.A (subscriptTail e (.Slice lo hi none p2) v (.ref s3.heap.objs.size)) (EP X pins σ Q) X.xe { s3 with heap := s3.heap.push { cls := .type "slice", data := .fields #[vl, vu, .none] } }
  exact tail_any (ops := [.ref s3.heap.objs.size, v]) ht hT hg (by with_unfolding_all rfl)

/-- the items of xs[lo:hi] -/
noncomputable def cutV (xs : List V) (lo hi : Option Int) : List V := (xs.drop (HT.sIx xs.length 0 lo)).take (HT.sIx xs.length xs.length hi - HT.sIx xs.length 0 lo)
theorem cutV_length (xs : List V) (lo hi : Option Int) : (cutV xs lo hi).length ≤ xs.length := by
  unfold cutV
  rw [List.length_take, List.length_drop]
  omega

/-! ### t < u, t + u -/
end
end L2

namespace L2
open PySem PySem.Spec PyProof.Rows

/-! ### places -/
/-- the place that an index of any sign means -/
noncomputable def ixN (n : Nat) (i : Int) : Option Nat := if 0 ≤ i then (if i < n then some i.toNat else none) else if -(n : Int) ≤ i then some (i + n).toNat else none
noncomputable def atI {α : Type} (xs : List α) (i : Int) : Option α := (ixN xs.length i).bind fun j => xs[j]?
theorem ixN_seq {n : Nat} {i : Int} {j : Nat} (h : ixN n i = some j) : seqIndex? i n = some j ∧ j < n ∧ -(n : Int) ≤ i ∧ i < n := by
  unfold ixN at h
  by_cases h0 : 0 ≤ i
  · rw [if_pos h0] at h
    by_cases h1 : i < n
    · rw [if_pos h1] at h
      have e : i.toNat = j := Option.some.inj h
      exact ⟨by rw [seqIndex_of h0 h1, e], by omega, by omega, h1⟩
    · rw [if_neg h1] at h; cases h
  · rw [if_neg h0] at h
    by_cases h1 : -(n : Int) ≤ i
    · rw [if_pos h1] at h
      have e : (i + n).toNat = j := Option.some.inj h
      exact ⟨by rw [seqIndex_neg (by omega) h1, e], by omega, h1, by omega⟩
    · rw [if_neg h1] at h; cases h
theorem atI_get {α : Type} {xs : List α} {i : Int} {v : α} (h : atI xs i = some v) : ∃ j, seqIndex? i xs.length = some j ∧ xs[j]? = some v ∧ j < xs.length ∧ -(xs.length : Int) ≤ i ∧ i < xs.length := by
  unfold atI at h
  cases e : ixN xs.length i with
  | none => rw [e] at h; cases h
  | some j =>
    rw [e] at h
    obtain ⟨h1, h2, h3, h4⟩ := ixN_seq e
    exact ⟨j, h1, h, h2, h3, h4⟩
theorem atI_nat {α : Type} {xs : List α} {j : Nat} {v : α} (h : xs[j]? = some v) : atI xs (j : Int) = some v := by
  have hj : j < xs.length := (List.getElem?_eq_some_iff.mp h).1
  have e : ixN xs.length (j : Int) = some j := by
    unfold ixN
    rw [if_pos (by omega), if_pos (by omega)]; simp
  unfold atI; rw [e]; exact h

/-! ### what may be subscripted -/
/-- what stands as an index of a plain subscript -/
noncomputable def PlainIx (b : Expr) : Prop := ∀ o i, subscripted b false o i = operate [o, i] (getItem o i)
/-- a subscript by values -/
noncomputable def IxR (X : Cx) (r : R2) : Prop :=
  ∀ (value slice : Expr) (pins : List (Addr × Obj)) (s : Shared) (σ : St) (H : Hp) (x y : V) (v u : Value) (Q : VK), Inv X pins σ H s → RelV x v → RelV y u → r x y H Q →
    subscripted slice false v u = operate [v, u] (getItem v u) → wpAny (model X.prog X.w) X.A (subscriptTail value slice v u) (EP X pins σ Q) X.xe s
/-- a call of a builtin's method by values: the receiver, the arguments -/
noncomputable def MtR (X : Cx) (id : String) (r : V → List V → Hp → VK → Prop) : Prop :=
  ∀ (pins : List (Addr × Obj)) (s : Shared) (σ : St) (H : Hp) (x : V) (xs : List V) (v : Value) (us : List Value) (Q : VK), Inv X pins σ H s → RelV x v → Vals xs us → r x xs H Q →
    wpAny (model X.prog X.w) X.A (call (.builtin id) (v :: us)) (EP X pins σ Q) X.xe s
section
variable {X : Cx} {a b : Expr} {ta tb : TE} {pos : Pos}
/-- a[b] -/
theorem pe_ix {r : R2} (hr : IxR X r) (ha : PE X a ta) (hb : PE X b tb) (hs : PlainIx b) : PE X (.Subscript a b pos) (tOp r ta tb) := by
  intro pins s σ H Q I h
  exact Subscript_ (binT ha hb I h fun v u s2 x y H2 I2 rx ry q => hr a b pins s2 σ H2 x y v u Q I2 rx ry q (hs _ _))

noncomputable def rIxL (K : PySem.W.Frag) : R2 := fun x y H Q => ∃ p xs i v, x = .ref p ∧ y = .int i ∧ SqL K H p xs ∧ atI xs i = some v ∧ Q v H
noncomputable def rIxT (K : PySem.W.Frag) : R2 := fun x y H Q => ∃ p xs i v, x = .ref p ∧ y = .int i ∧ SqT K H p xs ∧ atI xs i = some v ∧ Q v H
noncomputable def rIxS : R2 := fun x y H Q => ∃ z i c, x = .str z ∧ y = .int i ∧ z.length ≤ sizeLine ∧ atI z.cps.toList i = some c ∧ Q (.str ⟨#[c]⟩) H
theorem ix_list : IxR X (rIxL X.K) := by
  intro value slice pins s σ H x y v u Q I rx ry h hs
  obtain ⟨p, xs, i, z, rfl, rfl, hq, he, q⟩ := h
  cases rx
  obtain ⟨t, rfl⟩ := ry
  obtain ⟨its, r, pl, hz⟩ := I.list hq
  obtain ⟨j, h1, h2, h3, h4, h5⟩ := atI_get he
  obtain ⟨w, ew, rw'⟩ := r.get h2
  have hl := r.length
  have hn := line63
  have fin : EP X pins σ Q w s := ⟨z, H, I, rw', q⟩
  by_cases h0 : 0 ≤ i
  · have hj : i.toNat = j := by
      rw [seqIndex_of h0 h5] at h1
      exact Option.some.inj h1
    exact item_listR pl.isList h0 (by omega) (by rw [hj]; simpa using ew) fin hs
  · have hj : (i + (its.toArray.size : Int)).toNat = j := by
      rw [seqIndex_neg (by omega) h4] at h1
      rw [List.size_toArray, ← hl]
      exact Option.some.inj h1
    exact subscriptTail_builtinR (x := w) pl.isList.typeIs slot_list_getitem.lookup
      (wpAny_getItem_list_neg (Q := fun r s' => r = w ∧ EP X pins σ Q r s') pl.isList (by omega) (by rw [List.size_toArray] <;> omega) (by omega) (by rw [hj]; simpa using ew) ⟨rfl, fin⟩) hs
theorem ix_tup : IxR X (rIxT X.K) := by
  intro value slice pins s σ H x y v u Q I rx ry h hs
  obtain ⟨p, xs, i, z, rfl, rfl, hq, he, q⟩ := h
  cases rx
  obtain ⟨t, rfl⟩ := ry
  obtain ⟨its, r, pl, hz⟩ := I.tuple hq
  obtain ⟨j, h1, h2, h3, h4, h5⟩ := atI_get he
  obtain ⟨w, ew, rw'⟩ := r.get h2
  have hl := r.length
  have hn := line63
  have fin : EP X pins σ Q w s := ⟨z, H, I, rw', q⟩
  exact subscriptTail_builtinR (x := w) pl.typeIs slot_tuple_getitem.lookup
    (getItem_tuple (j := j) (Q := fun r s' => r = w ∧ EP X pins σ Q r s') pl (by omega) (by omega) (by rw [List.size_toArray, ← hl]; exact h1) (by simpa using ew) ⟨rfl, fin⟩) hs
theorem ix_str : IxR X rIxS := by
  intro value slice pins s σ H x y v u Q I rx ry h hs
  obtain ⟨z, i, c, rfl, rfl, hz, he, q⟩ := h
  obtain ⟨t, rfl⟩ := rx
  obtain ⟨t', rfl⟩ := ry
  obtain ⟨j, h1, h2, h3, h4, h5⟩ := atI_get he
  have hl : z.cps.toList.length = z.length := by simp [Str.length]
  rw [hl] at h1 h4 h5
  have hn := line63
  exact tail_any (typeIs_str s z t) slot_str_getitem.lookup (getItem_str (c := c) (by
    have e1 : decide (i < -(2 ^ 63 : Int)) = false := decide_eq_false (by omega)
    have e2 : decide (i ≥ 2 ^ 63) = false := decide_eq_false (by omega)
    rw [e1, e2, Bool.or_false]) (by rw [h1]; simpa using h2) ⟨.str ⟨#[c]⟩, H, I.tok _, ⟨_, rfl⟩, q⟩) hs

/-! ### xs[i] = v, any sign -/
/-- the list's object behind a store -/
theorem mapSeq_set (its : List Value) (n j : Nat) (u : Value) : Obj.mapSeq (·.setIfInBounds j u) { cls := .type "list", data := .seq its.toArray n } = { cls := .type "list", data := .seq (its.set j u).toArray n } := by
  simp [Obj.mapSeq]
theorem Inv.lst {pins : List (Addr × Obj)} {σ : St} {H : Hp} {s : Shared} {p : Addr} {xs : List V} (I : Inv X pins σ H s) (h : H p = some (.lst xs)) :
    ∃ (its : List Value) (n : Nat), Vals xs its ∧ s.heap.get? p = some { cls := .type "list", data := .seq its.toArray n } ∧ xs.length ≤ sizeLine := by
  obtain ⟨z, its, n, r, e⟩ := I.hok p _ h
  exact ⟨its, n, r, e, z⟩
/-- the list at p is written by an update of its object -/
theorem Inv.lstUpd {pins : List (Addr × Obj)} {σ : St} {H : Hp} {s : Shared} {p : Addr} {xs ys : List V} {its its' : List Value} {n n' : Nat} {f : Obj → Obj} (I : Inv X pins σ H s) (h : H p = some (.lst xs))
    (ho : s.heap.get? p = some { cls := .type "list", data := .seq its.toArray n }) (hf : f { cls := .type "list", data := .seq its.toArray n } = { cls := .type "list", data := .seq its'.toArray n' }) (r : Vals ys its') (hz : ys.length ≤ sizeLine) (t : Nat) :
    Inv X pins σ (upd H p (.lst ys)) { s with heap := s.heap.update p f, toks := t } := by
  have e : (s.heap.update p f).get? p = some { cls := .type "list", data := .seq its'.toArray n' } := by
    rw [Heap.get?_update_self f ho (by rw [hf] <;> rfl), hf]
  refine I.write (x := p) (e := p) (by rw [h]; trivial) (.inl rfl) (fun b u hb q => (Heap.get?_update_other _ _ (Ne.symm hb)).trans q) ⟨_, e⟩ ?_
  exact ⟨hz, its', n', r, e⟩
noncomputable def rSetL : V → V → V → Hp → (Hp → Prop) → Prop := fun o i v H Q => ∃ p xs k j, o = .ref p ∧ i = .int k ∧ H p = some (.lst xs) ∧ ixN xs.length k = some j ∧ Q (upd H p (.lst (xs.set j v)))
theorem set_list : PSet X rSetL := by
  intro pins s σ H o i v ov iv u Q I ro ri rv h
  obtain ⟨p, xs, k, j, rfl, rfl, hp, hj, q⟩ := h
  cases ro
  obtain ⟨t, rfl⟩ := ri
  obtain ⟨its, n, r, ho, hz⟩ := I.lst hp
  obtain ⟨h1, h2, h3, h4⟩ := ixN_seq hj
  have hl := r.length
  have hn := line63
  have I' : Inv X pins σ (upd H p (.lst (xs.set j v))) { s with heap := s.heap.update p (Obj.mapSeq (·.setIfInBounds j u)) } :=
    I.lstUpd hp ho (mapSeq_set its n j u) (r.set rv j) (by rw [List.length_set]; exact hz) s.toks
  by_cases h0 : 0 ≤ k
  · have hk : k.toNat = j := by
      rw [seqIndex_of h0 h4] at h1
      exact Option.some.inj h1
    exact PySem.W.ki_setAt ho h0 (by omega) (by rw [List.size_toArray, ← hl]; exact h4) (by rw [hk]; exact ⟨_, I', q⟩)
  · have hk : (k + (its.toArray.size : Int)).toNat = j := by
      rw [seqIndex_neg (by omega) h3] at h1
      rw [List.size_toArray, ← hl]
      exact Option.some.inj h1
    exact PySem.W.ki_setBack ho (by omega) (by rw [List.size_toArray, ← hl]; exact h3) (by omega) (by rw [hk]; exact ⟨_, I', q⟩)

/-! ### slices -/
theorem slice_bounds (lo hi : Option Int) (n : Nat) : (sliceBounds lo hi none n).1 = ((HT.sIx n 0 lo : Nat) : Int) ∧ (sliceBounds lo hi none n).2.1 = ((HT.sIx n n hi : Nat) : Int) ∧ (sliceBounds lo hi none n).2.2 = 1 := by
  refine ⟨?_, ?_, rfl⟩
  · cases lo with
    | none => simp [sliceBounds, HT.sIx]
    | some i =>
      simp only [sliceBounds, HT.sIx, Option.getD_none, show (1 : Int) > 0 by decide, if_true]
      by_cases h : i < 0
      · simp only [h, if_true] <;> omega
      · simp only [h, if_false] <;> omega
  · cases hi with
    | none => simp [sliceBounds, HT.sIx]
    | some i =>
      simp only [sliceBounds, HT.sIx, Option.getD_none, show (1 : Int) > 0 by decide, if_true]
      by_cases h : i < 0
      · simp only [h, if_true] <;> omega
      · simp only [h, if_false] <;> omega
theorem slicePick_cut (its : List Value) (lo hi : Option Int) : slicePick its.toArray lo hi none = ((its.drop (HT.sIx its.length 0 lo)).take (HT.sIx its.length its.length hi - HT.sIx its.length 0 lo)).toArray := by
  obtain ⟨h1, h2, h3⟩ := slice_bounds lo hi its.toArray.size
  unfold slicePick
  rw [h1, h2, h3]
  simp only [sliceRange_one, pick_run, List.size_toArray] <;> rfl
/-- xs[lo:hi] of a list: a new list -/
noncomputable def rSlL (K : PySem.W.Frag) : V → Option Int → Option Int → Hp → VK → Prop := fun x lo hi H Q => ∃ a xs, x = .ref a ∧ SqL K H a xs ∧ ∀ p, H p = none → Q (.ref p) (upd H p (.lst (cutV xs lo hi)))
theorem sl_list : SlR X (rSlL X.K) := by
  intro pins s σ H x v vl vu lo hi sl Q I rx hs pl pu h
  obtain ⟨a, xs, rfl, hx, q⟩ := h
  cases rx
  obtain ⟨its, r, ht, hz⟩ := I.list hx
  have hlen := r.length
  refine ⟨"list", _, slot_list_getitem.lookup, ht.isList.typeIs, ?_⟩
  refine wpAny_getItem_list_slice ht.isList hs pl pu .none (by simp) ?_ (by rw [List.size_toArray] <;> omega)
  rw [slicePick_cut, ← hlen]
  refine ⟨.ref s.heap.objs.size, _, I.laid (t' := s.toks) (o := .lst (cutV xs lo hi)) (fun b ob q => Heap.get?_push_of_some _ q) (Nat.le_refl _) ?_, rfl, q _ (I.hok.fresh (Nat.le_refl _))⟩
  exact ⟨Nat.le_trans (cutV_length xs lo hi) hz, _, 0, (r.drop (HT.sIx xs.length 0 lo)).take (HT.sIx xs.length xs.length hi - HT.sIx xs.length 0 lo), Heap.get?_push_size _ rfl⟩

/-! ### in, not in: flat items -/
noncomputable def flatV : V → Bool
  | .non => true
  | .bl _ => true
  | .int _ => true
  | .str _ => true
  | _ => false
/-- == of flat values -/
noncomputable def eqV : V → V → Bool
  | .non, .non => true
  | .bl a, .bl b => a == b
  | .bl a, .int b => (if a then 1 else 0) == b
  | .int a, .bl b => a == (if b then 1 else 0)
  | .int a, .int b => a == b
  | .str a, .str b => a == b
  | _, _ => false
theorem eqAt_V {A : Around} {s : Shared} {y x : V} {u v : Value} (ry : RelV y u) (rx : RelV x v) (fy : flatV y = true) (fx : flatV x = true) : SeqAt.EqAt A s u v (eqV y x) := by
  cases y with
  | non =>
    cases ry
    cases x with
    | non => cases rx; exact SeqAt.EqAt.same _
    | bl b => cases rx; exact SeqAt.EqAt.none_bool b
    | int b => obtain ⟨t, rfl⟩ := rx; exact SeqAt.EqAt.none_int b t
    | str b => obtain ⟨t, rfl⟩ := rx; exact SeqAt.EqAt.none_str b t
    | _ => exact absurd (show false = true from fx) Bool.false_ne_true
  | bl a =>
    cases ry
    cases x with
    | non => cases rx; exact SeqAt.EqAt.bool_none a
    | bl b => cases rx; exact SeqAt.EqAt.bool_bool a b
    | int b => obtain ⟨t, rfl⟩ := rx; exact SeqAt.EqAt.bool_int a b t
    | str b => obtain ⟨t, rfl⟩ := rx; exact SeqAt.EqAt.bool_str a b t
    | _ => exact absurd (show false = true from fx) Bool.false_ne_true
  | int a =>
    obtain ⟨t', rfl⟩ := ry
    cases x with
    | non => cases rx; exact SeqAt.EqAt.int_none a t'
    | bl b => cases rx; exact SeqAt.EqAt.int_bool a t' b
    | int b => obtain ⟨t, rfl⟩ := rx; exact SeqAt.EqAt.int_int a t' b t
    | str b => obtain ⟨t, rfl⟩ := rx; exact SeqAt.EqAt.int_str a t' b t
    | _ => exact absurd (show false = true from fx) Bool.false_ne_true
  | str a =>
    obtain ⟨t', rfl⟩ := ry
    cases x with
    | non => cases rx; exact SeqAt.EqAt.str_none a t'
    | bl b => cases rx; exact SeqAt.EqAt.str_bool a t' b
    | int b => obtain ⟨t, rfl⟩ := rx; exact SeqAt.EqAt.str_int a t' b t
    | str b => obtain ⟨t, rfl⟩ := rx; exact SeqAt.EqAt.str_str a t' b t
    | _ => exact absurd (show false = true from fx) Bool.false_ne_true
  | _ => exact absurd (show false = true from fy) Bool.false_ne_true
/-- the items' answers, read off the values (a value's own answer does not lean on its token) -/
noncomputable def eqU (x : V) (u : Value) : Bool := match u with
  | .none => eqV .non x
  | .bool b => eqV (.bl b) x
  | .int i _ => eqV (.int i) x
  | .str z _ => eqV (.str z) x
  | _ => false
theorem eqU_of {x y : V} {u : Value} (r : RelV y u) (f : flatV y = true) : eqU x u = eqV y x := by
  cases y with
  | non => cases r; rfl
  | bl b => cases r; rfl
  | int i => obtain ⟨t, rfl⟩ := r; rfl
  | str z => obtain ⟨t, rfl⟩ := r; rfl
  | _ => exact absurd (show false = true from f) Bool.false_ne_true
theorem any_eqU {x : V} : ∀ {xs : List V} {us : List Value}, Vals xs us → xs.all flatV = true → us.any (eqU x) = xs.any fun y => eqV y x
  | _, _, .nil, _ => rfl
  | y :: xs, u :: us, .cons r t, f => by
    rw [List.all_cons, Bool.and_eq_true] at f
    rw [List.any_cons, List.any_cons, eqU_of r f.1, any_eqU t f.2]
theorem mem_eqAt {A : Around} {s : Shared} {x : V} {v : Value} (rx : RelV x v) (fx : flatV x = true) : ∀ {xs : List V} {us : List Value}, Vals xs us → xs.all flatV = true → ∀ u ∈ us, SeqAt.EqAt A s u v (eqU x u)
  | _, _, .nil, _ => fun u hu => by cases hu
  | y :: xs, u :: us, .cons r t, f => fun u' hu => by
    rw [List.all_cons, Bool.and_eq_true] at f
    rcases List.mem_cons.mp hu with rfl | hu
    · rw [eqU_of r f.1]; exact eqAt_V r rx f.1 fx
    · exact mem_eqAt rx fx t f.2 u' hu
noncomputable def inV (x : V) (xs : List V) : Bool := xs.any fun y => eqV y x
/-- x in a list or tuple of flat items -/
noncomputable def rIn (K : PySem.W.Frag) (neg : Bool) : R2 := fun x y H Q => ∃ p xs, y = .ref p ∧ (SqL K H p xs ∨ SqT K H p xs) ∧ flatV x = true ∧ xs.all flatV = true ∧ Q (.bl (if neg then !inV x xs else inV x xs)) H
theorem op_in_seq : OpR X (compareOp .In) (rIn X.K false) := by
  intro pins s σ H x y v u Q I rx ry h
  obtain ⟨p, xs, rfl, hq, fx, fs, q⟩ := h
  cases ry
  rcases hq with hq | hq
  · obtain ⟨its, r, pl, hz⟩ := I.list hq
    refine SeqAt.in_listAt (eqU x) pl.isList (fun w hw => mem_eqAt rx fx r fs w (by simpa using hw)) ⟨.bl _, H, I, rfl, ?_⟩
    rw [show its.toArray.any (eqU x) = its.any (eqU x) by simp, any_eqU r fs]
    exact q
  · obtain ⟨its, r, pl, hz⟩ := I.tuple hq
    refine SeqAt.in_tupleAt (eqU x) pl (fun w hw => mem_eqAt rx fx r fs w (by simpa using hw)) ⟨.bl _, H, I, rfl, ?_⟩
    rw [show its.toArray.any (eqU x) = its.any (eqU x) by simp, any_eqU r fs]
    exact q

/-! ### len, list(x), tuple(x) of any list or tuple that is read -/
theorem call_len_seq : CallR X (.builtin "len") (fun xs H Q => ∃ p ys, xs = [.ref p] ∧ (SqL X.K H p ys ∨ SqT X.K H p ys) ∧ Q (.int ys.length) H) := by
  intro pins s σ H xs us Q I r h
  obtain ⟨p, ys, rfl, hq, q⟩ := h
  obtain ⟨u, rfl, rx⟩ := vals1 r
  cases rx
  have hn := line63
  rcases hq with hq | hq
  · obtain ⟨its, r', pl, hz⟩ := I.list hq
    have hlen := r'.length
    exact Calls.call_len_list pl.isList (by simp only [List.size_toArray] <;> omega) ⟨.int ys.length, H, I.tok _, ⟨s.toks + 1, by rw [List.size_toArray, hlen]⟩, q⟩
  · obtain ⟨its, r', pl, hz⟩ := I.tuple hq
    have hlen := r'.length
    exact len_tuple pl (by simp only [List.size_toArray] <;> omega) ⟨.int ys.length, H, I.tok _, ⟨s.toks + 1, by rw [List.size_toArray, hlen]⟩, q⟩
theorem call_len_str : CallR X (.builtin "len") (fun xs H Q => ∃ z, xs = [.str z] ∧ z.length ≤ sizeLine ∧ Q (.int z.length) H) := by
  intro pins s σ H xs us Q I r h
  obtain ⟨z, rfl, hz, q⟩ := h
  obtain ⟨u, rfl, t, rfl⟩ := vals1 r
  have hn := line63
  exact len_str (by omega) ⟨.int z.length, H, I.tok _, ⟨_, rfl⟩, q⟩
theorem call_list_of : CallR X (.type "list") (fun xs H Q => ∃ p ys, xs = [.ref p] ∧ (SqL X.K H p ys ∨ SqT X.K H p ys) ∧ ∀ l, H l = none → Q (.ref l) (upd H l (.lst ys))) := by
  intro pins s σ H xs us Q I r h
  obtain ⟨p, ys, rfl, hq, q⟩ := h
  obtain ⟨u, rfl, rx⟩ := vals1 r
  cases rx
  have fin : ∀ (its : List Value), Vals ys its → ys.length ≤ sizeLine → ∀ (h' : Heap) (c' : Nat), (∀ b o', s.heap.get? b = some o' → h'.get? b = some o') →
      h'.get? s.heap.objs.size = some { cls := .type "list", dict := none, data := .seq its.toArray c', slots := #[] } → EP X pins σ Q (.ref s.heap.objs.size) { s with heap := h' } := fun its r' hz h' c' kp e =>
    ⟨.ref s.heap.objs.size, _, I.laid (t' := s.toks) kp (Nat.le_refl _) (show ObjOk X.prog X.w _ h' _ (.lst ys) from ⟨hz, its, c', r', e⟩), rfl, q _ (I.hok.fresh (Nat.le_refl _))⟩
  rcases hq with hq | hq
  · obtain ⟨its, r', pl, hz⟩ := I.list hq
    have hlen := r'.length
    obtain ⟨o, ho, hc, n, hd⟩ := pl.isList
    exact call_list_seq p (.inl rfl) ho hc hd (fun h' c' kp e => fin its r' hz h' c' kp e) (by simp only [List.size_toArray] <;> omega)
  · obtain ⟨its, r', pl, hz⟩ := I.tuple hq
    have hlen := r'.length
    obtain ⟨o, ho, hc, n, hd⟩ := pl
    exact call_list_seq p (.inr rfl) ho hc hd (fun h' c' kp e => fin its r' hz h' c' kp e) (by simp only [List.size_toArray] <;> omega)

/-! ### the call of a builtin's method: o.m(..) -/
/-- the value is of that builtin type -/
noncomputable def tyV (K : PySem.W.Frag) (T : String) (x : V) (H : Hp) : Prop := match x with
  | .str _ => T = "str"
  | .int _ => T = "int"
  | .ref p => (T = "list" ∧ ∃ xs, SqL K H p xs) ∨ (T = "tuple" ∧ ∃ o, K.lookup p = some o ∧ o.cls = .type "tuple" ∧ o.dict = none) ∨
      (T = "dict" ∧ ((∃ kvs, H p = some (.dK kvs)) ∨ ∃ kvs, H p = some (.dT kvs))) ∨ (T = "set" ∧ ∃ S n, H p = some (.set S n))
  | _ => False
theorem tyV_is {pins : List (Addr × Obj)} {σ : St} {H : Hp} {s : Shared} {T : String} {x : V} {v : Value} (I : Inv X pins σ H s) (r : RelV x v) (ty : tyV X.K T x H) :
    s.TypeIs v T ∧ ∀ a, v = .ref a → ∃ ob, s.heap.get? a = some ob ∧ ob.dict = none := by
  cases x with
  | str z =>
    obtain ⟨t, rfl⟩ := r
    cases (show T = "str" from ty)
    exact ⟨typeIs_str s z t, fun _ e => nomatch e⟩
  | int i =>
    obtain ⟨t, rfl⟩ := r
    cases (show T = "int" from ty)
    exact ⟨typeIs_int s i t, fun _ e => nomatch e⟩
  | ref p =>
    cases r
    rcases ty with ⟨rfl, xs, hq⟩ | ⟨rfl, o, hk, hc, hd⟩ | ⟨rfl, hk⟩ | ⟨rfl, S, n, hk⟩
    · obtain ⟨its, _, pl, _⟩ := I.list hq
      refine ⟨pl.isList.typeIs, fun a e => ?_⟩
      cases e
      obtain ⟨o, n, e, c, hd, _⟩ := pl
      exact ⟨o, e, hd⟩
    · refine ⟨⟨o, I.kIn p o hk, hc⟩, fun a e => ?_⟩
      cases e
      exact ⟨o, I.kIn _ o hk, hd⟩
    · have z : ∃ o, s.heap.get? p = some o ∧ o.ExactDict := by
        rcases hk with ⟨kvs, hk⟩ | ⟨kvs, hk⟩
        · obtain ⟨_, _, _, _, o, _, _, e, ex, _⟩ := I.hok p _ hk
          exact ⟨o, e, ex⟩
        · obtain ⟨_, _, _, _, o, _, _, e, ex, _⟩ := I.hok p _ hk
          exact ⟨o, e, ex⟩
      obtain ⟨o, e, ex⟩ := z
      refine ⟨⟨o, e, ex.1⟩, fun a e2 => ?_⟩
      cases e2
      exact ⟨o, e, ex.2.1⟩
    · obtain ⟨o, _, _, _, e, ex, _⟩ := I.hok p _ hk
      refine ⟨⟨o, e, ex.1⟩, fun a e2 => ?_⟩
      cases e2
      exact ⟨o, e, ex.2.1⟩
  | _ => exact False.elim ty
noncomputable def tBM (K : PySem.W.Frag) (T : String) (r : V → List V → Hp → VK → Prop) (to : TE) (t : TA) : TE := fun σ H Q => to σ H fun x H1 => tyV K T x H1 ∧ t σ H1 fun xs H2 => r x xs H2 Q
variable {o e : Expr} {es : List Expr} {to : TE} {t : TA} {name : Str} {apos cpos : Pos} {T id : String} {r : V → List V → Hp → VK → Prop}
theorem pe_bm (pa : PlainAttrs T) (slot : Slot T name id) (hty : typeOf (.builtin id) = pure (.type "method_descriptor")) (hm : MtR X id r) (ho : PE X o to) (ha : PA X (e :: es) t)
    (hbase : attributeBase o name X.env (eval o X.env) = eval o X.env := by rfl)
    (hfew : ((backTo cpos (starEach (e :: es) X.env)).all (fun x => !x.1) && (backToKw cpos (keywordEach [] X.env)).all (fun x => x.1.isSome)
      && decide ((e :: es).length + ([] : List Keyword).length + (if ([] : List Keyword).isEmpty then 0 else 1) < 30)) = true := by rfl)
    (hline : (apos.endLine == cpos.line) = true := by rfl) (hs : starEach (e :: es) X.env = (false, eval e X.env) :: starEach es X.env := by rfl) (hplain : (backTo cpos (starEach es X.env)).any (·.1) = false := by rfl) :
    PE X (.Call (.Attribute o name apos) (e :: es) [] cpos) (tBM X.K T r to t) := by
  intro pins s σ H Q I h
  refine wpAny_Call_method_late hbase hfew hline rfl (thn (ho pins s σ H _ I h) fun v s1 zz => ?_)
  obtain ⟨x, H1, I1, r1, ty, q1⟩ := zz
  obtain ⟨h1, h2⟩ := tyV_is I1 r1 ty
  refine ⟨T, id, pa, slot, hty, h1, h2, ?_⟩
  have hA := ha cpos pins s1 σ H1 _ I1 q1
  rw [hs] at hA ⊢
  refine Calls.callWith_builtin (by show (false || (backTo cpos (starEach es X.env)).any (·.1)) = false; rw [hplain] <;> rfl) (Calls.evalArgs_plain ?_)
  exact thn hA fun us s2 ⟨vs, H2, I2, r2, q2⟩ => hm pins s2 σ H2 x vs v us Q I2 r1 r2 q2
/- xs.append(e), list.index on a module's tuple .. are MtR facts of 06m -/
end
end L2

namespace L2
open PySem PySem.Spec PyProof.Rows

noncomputable def MtM (X : Cx) (id : String) (r : V → List V → Hp → VK → Prop) : Prop :=
  ∀ (pins : List (Addr × Obj)) (s : Shared) (σ : St) (H : Hp) (x : V) (xs : List V) (v : Value) (us : List Value) (Q : VK), Inv X pins σ H s → RelV x v → Vals xs us → r x xs H Q →
    wpAny (model X.prog X.w) X.A (call (.builtin id) (v :: us)) (EP X pins σ Q) X.xe s

/-! ### lists of values -/
theorem Vals.one {x : V} {us : List Value} (h : Vals [x] us) : ∃ u, us = [u] ∧ RelV x u := by
  cases h with | cons r h => cases h with | nil => exact ⟨_, rfl, r⟩
theorem Vals.reverse {xs : List V} {us : List Value} (h : Vals xs us) : Vals xs.reverse us.reverse := by
  induction h with
  | nil => exact .nil
  | cons r t ih => rw [List.reverse_cons, List.reverse_cons]; exact Vals.append ih (.cons r .nil)
theorem Vals.rep {xs : List V} {us : List Value} (h : Vals xs us) : ∀ k : Nat, Vals (List.replicate k xs).flatten (List.replicate k us).flatten
  | 0 => .nil
  | k + 1 => by
    rw [List.replicate_succ, List.replicate_succ, List.flatten_cons, List.flatten_cons]
    exact Vals.append h (Vals.rep h k)
theorem foldl_rep (its : List Value) : ∀ (k : Nat) (acc : List Value),
    List.foldl (fun x1 x2 => x1 ++ x2) acc.toArray (List.replicate k its.toArray) = (acc ++ (List.replicate k its).flatten).toArray
  | 0, acc => by simp
  | k + 1, acc => by
    have e : acc.toArray ++ its.toArray = (acc ++ its).toArray := by simp
    have e2 : (acc ++ its) ++ (List.replicate k its).flatten = acc ++ (List.replicate (k + 1) its).flatten := by
      rw [List.replicate_succ, List.flatten_cons, List.append_assoc]
    rw [← e2, ← foldl_rep its k (acc ++ its), ← e, List.replicate_succ, List.foldl_cons]

section
variable {X : Cx} {pins : List (Addr × Obj)} {σ : St} {H : Hp} {s : Shared} {l b : Addr} {xs ys zs : List V}

/-! ### the two steps: a tracked list is rewritten, a new list is laid -/
theorem Inv.lset {its its' : List Value} {n : Nat} {f : Array Value → Array Value} {t' : Nat} (I : Inv X pins σ H s) (hH : H l = some (.lst xs))
    (e : s.heap.get? l = some { cls := .type "list", data := .seq its.toArray n }) (hf : f its.toArray = its'.toArray) (hv : Vals ys its') (hz : ys.length ≤ sizeLine) :
    Inv X pins σ (upd H l (.lst ys)) { s with heap := s.heap.update l (Obj.mapSeq f), toks := t' } := by
  have q := PySem.IsL.update e f
  rw [hf] at q
  refine I.write (x := l) (e := l) (by rw [hH]; exact trivial) (.inl rfl) (fun b' u hb hu => (Heap.get?_update_other s.heap (Obj.mapSeq f) (Ne.symm hb)).trans hu) ⟨_, q⟩ ?_
  exact ⟨hz, its', _, hv, q⟩
theorem Inv.lnew {its : List Value} {t' : Nat} (I : Inv X pins σ H s) (hv : Vals ys its) (hz : ys.length ≤ sizeLine) :
    Inv X pins σ (upd H s.heap.objs.size (.lst ys)) { s with heap := s.heap.push { cls := .type "list", data := .seq its.toArray }, toks := t' } :=
  I.laid (fun _ _ q => Heap.get?_push_of_some _ q) (Nat.le_refl _) ⟨hz, its, 0, hv, Heap.get?_push_size _ rfl⟩
theorem Inv.fresh (I : Inv X pins σ H s) : H s.heap.objs.size = none := I.hok.fresh (Nat.le_refl _)
theorem Inv.lstM (I : Inv X pins σ H s) (hH : H l = some (.lst xs)) : xs.length ≤ sizeLine ∧ ∃ (its : List Value) (n : Nat), Vals xs its ∧ xs.length = its.length ∧ s.heap.get? l = some { cls := .type "list", data := .seq its.toArray n } := by
  obtain ⟨z, its, n, r, e⟩ := I.hok l _ hH
  exact ⟨z, its, n, r, r.length, e⟩

theorem notLongL {n : Nat} (h : n ≤ sizeLine) : Builtin.List.listTooLong n = false := by
  unfold Builtin.List.listTooLong
  exact decide_eq_false (by omega)
end

section
variable {X : Cx}

/-! ### methods -/
noncomputable def rAppend : V → List V → Hp → VK → Prop := fun x vs H Q => ∃ l xs y, x = .ref l ∧ vs = [y] ∧ H l = some (.lst xs) ∧ xs.length < sizeLine ∧ Q .non (upd H l (.lst (xs ++ [y])))
theorem mt_append : MtM X "list.append" rAppend := by
  intro pins s σ H x vs v us Q I rx rv h
  obtain ⟨l, xs, y, rfl, rfl, hH, hz, q⟩ := h
  cases rx
  obtain ⟨u, rfl, ru⟩ := rv.one
  obtain ⟨z, its, n, r, hl, e⟩ := I.lstM hH
  refine call_meets F.slot_list_append ⟨_, e, rfl⟩ F.entry_list_append (F.args_list_append_2 _ _) (PySem.list_append l its.toArray n u (by rw [List.size_toArray]; omega)) ⟨e, ?_⟩
  refine ⟨.non, _, I.lset (its' := its ++ [u]) hH e (by simp) (r.append (.cons ru .nil)) ?_, rfl, q⟩
  rw [List.length_append, List.length_singleton]
  omega






/-! ### list + list, list += list, list * int -/
noncomputable def rCat : R2 := fun x y H Q => ∃ l b xs zs, x = .ref l ∧ y = .ref b ∧ H l = some (.lst xs) ∧ H b = some (.lst zs) ∧ xs.length + zs.length ≤ sizeLine ∧ ∀ p, H p = none → Q (.ref p) (upd H p (.lst (xs ++ zs)))
theorem op_cat : OpR X (binaryOp .Add) rCat := by
  intro pins s σ H x y v u Q I rx ry h
  obtain ⟨l, b, xs, zs, rfl, rfl, hH, hB, hz, q⟩ := h
  cases rx
  cases ry
  obtain ⟨z, its, n, r, hl, e⟩ := I.lstM hH
  obtain ⟨z2, its2, n2, r2, hl2, e2⟩ := I.lstM hB
  refine PySem.P.add_list e e2 ?_ (by rw [List.size_toArray, List.size_toArray]; omega)
  have ea : its.toArray ++ its2.toArray = (its ++ its2).toArray := by simp
  rw [ea]
  exact ⟨.ref _, _, I.lnew (t' := s.toks) (r.append r2) (by rw [List.length_append]; omega), rfl, q _ I.fresh⟩
/-- a list times an int (a negative one is nothing) -/
noncomputable def rRep : R2 := fun x y H Q => ∃ l k xs, x = .ref l ∧ y = .int k ∧ H l = some (.lst xs) ∧ -(2 ^ 63) ≤ k ∧ k < 2 ^ 63 ∧ xs.length * k.toNat ≤ sizeLine ∧
  ∀ p, H p = none → Q (.ref p) (upd H p (.lst (List.replicate k.toNat xs).flatten))
theorem len_rep {α : Type} (xs : List α) (k : Nat) : (List.replicate k xs).flatten.length = k * xs.length := by
  induction k with
  | zero => simp
  | succ k ih => rw [List.replicate_succ, List.flatten_cons, List.length_append, ih, Nat.succ_mul, Nat.add_comm]
theorem op_rep : OpR X (binaryOp .Mult) rRep := by
  intro pins s σ H x y v u Q I rx ry h
  obtain ⟨l, k, xs, rfl, rfl, hH, h1, h2, hz, q⟩ := h
  cases rx
  obtain ⟨t, rfl⟩ := ry
  obtain ⟨z, its, n, r, hl, e⟩ := I.lstM hH
  have hlen : its.toArray.size * k.toNat ≤ sizeLine := by rw [List.size_toArray, ← hl]; exact hz
  have hcap : ¬ its.toArray.size * k.toNat > (2 ^ 63 - 1) / 8 := by
    have : (sizeLine : Nat) ≤ (2 ^ 63 - 1) / 8 := by decide
    omega
  have hfit : ¬ (!Builtin.List.listFitsIndex k) = true := by
    rw [fitsIndex_both h1 h2]
    exact Bool.false_ne_true
  have hlong : ¬ Builtin.List.listTooLong (its.toArray.size * k.toNat) = true := by
    rw [notLongL hlen]
    exact Bool.false_ne_true
  have hnew : List.foldl (fun x1 x2 => x1 ++ x2) #[] (List.replicate (if its.toArray.isEmpty = true then 0 else k.toNat) its.toArray) = (List.replicate k.toNat its).flatten.toArray := by
    have f0 : ∀ m : Nat, List.foldl (fun x1 x2 => x1 ++ x2) #[] (List.replicate m its.toArray) = (List.replicate m its).flatten.toArray := fun m => by
      have := foldl_rep its m []
      rw [List.nil_append] at this
      exact this
    rw [f0]
    cases its with
    | nil => simp
    | cons a r' => rw [if_neg (by simp)]
  refine wpAny_binaryOp_repeat_ref (T := "list") (U := "int") (by decide) ⟨_, e, rfl⟩ (fun s' => typeIs_int s' k t) noFill_list_mul F.fills_int_mul F.slot_int_rmul repeat_list F.slot_int_index.lookup
    (call_meets F.slot_int_rmul (typeIs_int s k t) F.entry_int_rmul (F.args_int_rmul_2 _ _) (int___rmul___int_list k t l its.toArray n)
      ⟨e, rfl, ⟨_, e, rfl⟩, call_meets F.slot_list_mul ⟨_, e, rfl⟩ F.entry_list_mul (F.args_list_mul_2 _ _) (AutoListH.list___mul___list_int_3 l its.toArray n k t hfit hcap hlong) ⟨e, ?_⟩⟩)
  rw [hnew]
  exact ⟨.ref _, _, I.lnew (t' := s.toks) (r.rep k.toNat) (by rw [len_rep, Nat.mul_comm]; exact hz), rfl, q _ I.fresh⟩

/-! ### del xs[i] -/
end

/-! ### xs[a:b] = ys -/
section
variable {prog : Program} {w : World} {A : Around} {E : Value → Shared → Prop} {s : Shared}
set_option maxRecDepth 100000 in
end

section
variable {X : Cx}
end
end L2


namespace L2
open PySem PySem.Spec PyProof.Rows

/-! ### lists of pairs as tables -/
section
variable {κ : Type} [DecidableEq κ]
noncomputable def valV (kvs : List (κ × V)) (k : κ) : Option V := (kvs.find? fun kv => decide (kv.1 = k)).map (·.2)
/-- in its place, or at the end -/
noncomputable def putK (kvs : List (κ × V)) (k : κ) (v : V) : List (κ × V) :=
  if (kvs.any fun kv => decide (kv.1 = k)) = true then kvs.map (fun kv => if kv.1 = k then (kv.1, v) else kv) else kvs ++ [(k, v)]

theorem valV_pos {p : κ × V} {r : List (κ × V)} {k : κ} (e : p.1 = k) : valV (p :: r) k = some p.2 := by simp [valV, List.find?_cons, e]
theorem valV_neg {p : κ × V} {r : List (κ × V)} {k : κ} (e : ¬ p.1 = k) : valV (p :: r) k = valV r k := by simp [valV, List.find?_cons, e]
theorem valV_any (k : κ) : ∀ kvs : List (κ × V), (kvs.any fun kv => decide (kv.1 = k)) = (valV kvs k).isSome
  | [] => rfl
  | p :: r => by
    rw [List.any_cons]
    by_cases e : p.1 = k
    · simp only [valV_pos e, decide_eq_true e, Bool.true_or, Option.isSome_some]
    · rw [valV_neg e, decide_eq_false e, Bool.false_or]; exact valV_any k r
theorem valV_map (k j : κ) (y : V) : ∀ kvs : List (κ × V), valV (kvs.map fun kv => if kv.1 = k then (kv.1, y) else kv) j = (valV kvs j).map fun x => if j = k then y else x
  | [] => rfl
  | p :: r => by
    have ih := valV_map k j y r
    rw [List.map_cons]
    by_cases h : p.1 = k
    · rw [if_pos h]
      by_cases e : p.1 = j
      · rw [valV_pos (p := (p.1, y)) e, valV_pos e, Option.map_some, if_pos (e.symm.trans h)]
      · rw [valV_neg (p := (p.1, y)) e, valV_neg e, ih]
    · rw [if_neg h]
      by_cases e : p.1 = j
      · rw [valV_pos (p := p) e, valV_pos e, Option.map_some, if_neg (fun z => h (e.trans z))]
      · rw [valV_neg (p := p) e, valV_neg e, ih]
theorem valV_snoc (k j : κ) (y : V) : ∀ kvs : List (κ × V), valV kvs k = none → valV (kvs ++ [(k, y)]) j = if j = k then some y else valV kvs j
  | [], _ => by
    by_cases e : k = j
    · rw [if_pos e.symm]; exact valV_pos (p := (k, y)) e
    · rw [if_neg (fun z => e z.symm)]; exact valV_neg (p := (k, y)) e
  | p :: r, hn => by
    rw [List.cons_append]
    have hk : ¬ p.1 = k := fun z => by rw [valV_pos z] at hn; cases hn
    rw [valV_neg hk] at hn
    have ih := valV_snoc k j y r hn
    by_cases e : p.1 = j
    · rw [valV_pos e, valV_pos e, if_neg (fun z => hk (e.trans z))]
    · rw [valV_neg e, valV_neg e, ih]
theorem valV_put (kvs : List (κ × V)) (k j : κ) (y : V) : valV (putK kvs k y) j = if j = k then some y else valV kvs j := by
  unfold putK
  by_cases a : (kvs.any fun kv => decide (kv.1 = k)) = true
  · rw [if_pos a, valV_map]
    rw [valV_any] at a
    by_cases e : j = k
    · obtain ⟨x, hx⟩ := Option.isSome_iff_exists.mp a
      rw [if_pos e, e, hx, Option.map_some, if_pos rfl]
    · rw [if_neg e]
      cases valV kvs j with
      | none => rfl
      | some x => rw [Option.map_some, if_neg e]
  · rw [if_neg a]
    refine valV_snoc k j y kvs ?_
    rw [valV_any] at a
    cases q : valV kvs k with
    | none => rfl
    | some x => rw [q] at a; exact (a rfl).elim
theorem length_putK (kvs : List (κ × V)) (k : κ) (v : V) : (putK kvs k v).length ≤ kvs.length + 1 := by
  unfold putK
  split
  · rw [List.length_map]; omega
  · rw [List.length_append, List.length_cons, List.length_nil]; omega
theorem putK_new {kvs : List (κ × V)} {k : κ} (v : V) (h : valV kvs k = none) : putK kvs k v = kvs ++ [(k, v)] := by
  unfold putK
  rw [valV_any, h]
  exact if_neg (by decide)

theorem RelO.isSome_eq {o : Option V} {u : Option Value} (r : RelO o u) : o.isSome = u.isSome := by
  cases o with
  | none => cases u with
    | none => rfl
    | some _ => exact (show False from r).elim
  | some _ => cases u with
    | none => exact (show False from r).elim
    | some _ => rfl
theorem RelO.getD {o : Option V} {u : Option Value} {d : V} {d' : Value} (r : RelO o u) (rd : RelV d d') : RelV (o.getD d) (u.getD d') := by
  cases o with
  | none => cases u with
    | none => exact rd
    | some _ => exact (show False from r).elim
  | some _ => cases u with
    | none => exact (show False from r).elim
    | some _ => exact r

/-- raw tables of the same keys -/
theorem KV.val {kvs : List (κ × V)} {vs : List (κ × Value)} (r : KV kvs vs) (k : κ) : RelO (valV kvs k) (valueAt vs k) := by
  unfold KV at r
  induction r with
  | nil => exact True.intro
  | @cons p q ps qs h t ih =>
    obtain ⟨h1, h2⟩ := h
    by_cases e : p.1 = k
    · have e' : q.1 = k := h1.symm.trans e
      have b : valueAt (q :: qs) k = some q.2 := by simp [valueAt, List.find?_cons, e']
      rw [valV_pos e, b]; exact h2
    · have e' : ¬ q.1 = k := fun z => e (h1.trans z)
      have b : valueAt (q :: qs) k = valueAt qs k := by simp [valueAt, List.find?_cons, e']
      rw [valV_neg e, b]; exact ih
theorem KV.any {kvs : List (κ × V)} {vs : List (κ × Value)} (r : KV kvs vs) (k : κ) : (kvs.any fun kv => decide (kv.1 = k)) = vs.any fun kv => decide (kv.1 = k) := by
  unfold KV at r
  induction r with
  | nil => rfl
  | cons h t ih => rw [List.any_cons, List.any_cons, ih, h.1]
theorem KV.repl {kvs : List (κ × V)} {vs : List (κ × Value)} (r : KV kvs vs) (k : κ) {y : V} {u : Value} (ry : RelV y u) :
    KV (kvs.map fun kv => if kv.1 = k then (kv.1, y) else kv) (vs.map fun kv => if kv.1 = k then (kv.1, u) else kv) := by
  unfold KV at r ⊢
  induction r with
  | nil => exact .nil
  | @cons p q ps qs h t ih =>
    rw [List.map_cons, List.map_cons]
    refine .cons ?_ ih
    obtain ⟨h1, h2⟩ := h
    by_cases e : p.1 = k
    · rw [if_pos e, if_pos (h1.symm.trans e)]; exact ⟨h1, ry⟩
    · rw [if_neg e, if_neg (fun z => e (h1.trans z))]; exact ⟨h1, h2⟩
theorem KV.put {kvs : List (κ × V)} {vs : List (κ × Value)} (r : KV kvs vs) (k : κ) {y : V} {u : Value} (ry : RelV y u) : KV (putK kvs k y) (stored vs k u) := by
  unfold putK stored
  rw [r.any k]
  by_cases e : (vs.any fun kv => decide (kv.1 = k)) = true
  · rw [if_pos e, if_pos e]; exact r.repl k ry
  · rw [if_neg e, if_neg e]; exact Paired.snoc r ⟨rfl, ry⟩
theorem KV.length {kvs : List (κ × V)} {vs : List (κ × Value)} (r : KV kvs vs) : kvs.length = vs.length := Paired.length r
end


/-! ### a tracked dict, its keys ints and texts or tuples of these -/
theorem kV_is {P : Program} {w : World} {k : Key} {u : Value} (r : RelV (kV k) u) : (mixKind P w).is k u = true := by
  cases k with
  | inl i => obtain ⟨t, e⟩ := (show ∃ t, u = Value.int i t from r); subst e; exact mixKind_int P w i t
  | inr x => obtain ⟨t, e⟩ := (show ∃ t, u = Value.str x t from r); subst e; exact mixKind_str P w x t
theorem items_are {P : Program} {w : World} : ∀ {ks : List Key} {us : List Value}, Vals (ks.map kV) us → ItemsAre (mixKind P w) ks us
  | [], _, r => by rw [List.map_nil] at r; cases r; exact .nil
  | k :: ks, _, r => by
    rw [List.map_cons] at r
    cases r with
    | cons h t => exact .cons (kV_is h) (items_are t)

/-- raw entries of a dict with tuple keys -/
noncomputable abbrev KT (H : Hp) : List (List Key × V) → List (List Key × Addr × Value) → Prop := Paired fun p q => p.1 = q.1 ∧ H q.2.1 = some (.tup (p.1.map kV)) ∧ RelV p.2 q.2.2
theorem KT.val {H : Hp} {kvs : List (List Key × V)} {xs : List (List Key × Addr × Value)} (r : KT H kvs xs) (k : List Key) : RelO (valV kvs k) ((atKey xs k).map (·.2)) := by
  induction r with
  | nil => exact True.intro
  | @cons p q ps qs h t ih =>
    obtain ⟨h1, _, h2⟩ := h
    by_cases e : p.1 = k
    · have e' : q.1 = k := h1.symm.trans e
      have b : atKey (q :: qs) k = some q.2 := by simp [atKey, List.find?_cons, e']
      rw [valV_pos e, b]; exact h2
    · have e' : ¬ q.1 = k := fun z => e (h1.trans z)
      have b : atKey (q :: qs) k = atKey qs k := by simp [atKey, List.find?_cons, e']
      rw [valV_neg e, b]; exact ih
theorem KT.repl {H : Hp} {kvs : List (List Key × V)} {xs : List (List Key × Addr × Value)} (r : KT H kvs xs) (k : List Key) {y : V} {u : Value} (ry : RelV y u) :
    KT H (kvs.map fun kv => if kv.1 = k then (kv.1, y) else kv) (xs.map (putAt k u)) := by
  induction r with
  | nil => exact .nil
  | @cons p q ps qs h t ih =>
    rw [List.map_cons, List.map_cons]
    refine .cons ?_ ih
    obtain ⟨h1, h2, h3⟩ := h
    unfold putAt
    by_cases e : p.1 = k
    · rw [if_pos e, if_pos (h1.symm.trans e)]; exact ⟨h1, h2, ry⟩
    · rw [if_neg e, if_neg (fun z => e (h1.trans z))]; exact ⟨h1, h2, h3⟩
theorem KT.put {H : Hp} {kvs : List (List Key × V)} {xs : List (List Key × Addr × Value)} (r : KT H kvs xs) (k : List Key) {b : Addr} {y : V} {u : Value} (hb : H b = some (.tup (k.map kV))) (ry : RelV y u) :
    KT H (putK kvs k y) (storedH xs k b u) := by
  have e : (kvs.any fun kv => decide (kv.1 = k)) = (atKey xs k).isSome := by
    rw [valV_any, (r.val k).isSome_eq, Option.isSome_map]
  unfold putK storedH
  rw [e]
  by_cases q : (atKey xs k).isSome = true
  · rw [if_pos q, if_pos q]; exact r.repl k ry
  · rw [if_neg q, if_neg q]; exact Paired.snoc r ⟨rfl, hb, ry⟩
theorem KT.keeps {H H' : Hp} {kvs : List (List Key × V)} {xs : List (List Key × Addr × Value)} (r : KT H kvs xs) (ht : ∀ b ys, H b = some (.tup ys) → H' b = some (.tup ys)) : KT H' kvs xs :=
  Paired.mapP r fun _ _ z => ⟨z.1, ht _ _ z.2.1, z.2.2⟩

section
variable {P : Program} {w : World} {H : Hp} {h : Heap} {a : Addr}
theorem rd_of {u : HO} (ok : HOk P w H h) (e : Rd H a u) : ObjOk P w H h a u := e.ok ok
theorem dk_rd {kvs : List (Key × V)} (ok : HOk P w H h) (e : Rd H a (.dK kvs)) : kvs.length ≤ sizeLine ∧ (a == sysModules) = false ∧ ∃ vs, KV kvs vs ∧ h.DictOf (mixKind P w) a vs :=
  show ObjOk P w H h a (.dK kvs) from rd_of ok e
theorem dk_of {kvs : List (Key × V)} (ok : HOk P w H h) (e : H a = some (.dK kvs)) : kvs.length ≤ sizeLine ∧ (a == sysModules) = false ∧ ∃ vs, KV kvs vs ∧ h.DictOf (mixKind P w) a vs := dk_rd ok (.inl e)
/-- a tracked tuple of ints and texts is a key -/
theorem key_of {ks : List Key} (ok : HOk P w H h) (e : H a = some (.tup (ks.map kV))) : (tupleKind (mixKind P w)).is h ks a := by
  obtain ⟨_, its, r, o, h1, h2, n, h3⟩ := (show ObjOk P w H h a (.tup (ks.map kV)) from ok a _ e)
  exact ⟨o, its.toArray, n, h1, h2, h3, by simpa using items_are r⟩
theorem dt_rd {kvs : List (List Key × V)} (ok : HOk P w H h) (e : Rd H a (.dT kvs)) : kvs.length ≤ sizeLine ∧ (a == sysModules) = false ∧
    ∃ xs, KT H kvs xs ∧ h.DictOfH (tupleKind (mixKind P w)) a xs := by
  obtain ⟨z, y, xs, r, o, es, ep, h1, h2, h3, h4, h5⟩ := (show ObjOk P w H h a (.dT kvs) from rd_of ok e)
  refine ⟨z, y, xs, r, o, es, ep, h1, h2, h3, h4, fun x hx => ?_, h5⟩
  have all : ∀ {l : List (List Key × V)} {m : List (List Key × Addr × Value)}, KT H l m → ∀ x ∈ m, (tupleKind (mixKind P w)).is h x.1 x.2.1 := by
    intro l m q
    induction q with
    | nil => intro x hx; exact nomatch hx
    | @cons p q ps qs hq t ih =>
      intro x hx
      rcases List.mem_cons.mp hx with e | hx
      · subst e
        exact key_of ok (by rw [← hq.1]; exact hq.2.1)
      · exact ih x hx
  exact all r x hx
theorem dt_of {kvs : List (List Key × V)} (ok : HOk P w H h) (e : H a = some (.dT kvs)) : kvs.length ≤ sizeLine ∧ (a == sysModules) = false ∧
    ∃ xs, KT H kvs xs ∧ h.DictOfH (tupleKind (mixKind P w)) a xs := dt_rd ok (.inl e)
end

/-- what the dict at a holds at the key y -/
noncomputable def DGet (H : Hp) (a : Addr) (y : V) (r : Option V) : Prop :=
  (∃ kvs k, Rd H a (.dK kvs) ∧ y = kV k ∧ r = valV kvs k) ∨ ∃ kvs k b, Rd H a (.dT kvs) ∧ y = .ref b ∧ H b = some (.tup (k.map kV)) ∧ r = valV kvs k
/-- the heap behind a[y] = v -/
noncomputable def DPut (H : Hp) (a : Addr) (y v : V) (H' : Hp) : Prop :=
  (∃ kvs k, H a = some (.dK kvs) ∧ y = kV k ∧ kvs.length < sizeLine ∧ H' = upd H a (.dK (putK kvs k v))) ∨
  ∃ kvs k b, H a = some (.dT kvs) ∧ y = .ref b ∧ H b = some (.tup (k.map kV)) ∧ kvs.length < sizeLine ∧ H' = upd H a (.dT (putK kvs k v))
theorem DGet.k {H : Hp} {a : Addr} {kvs : List (Key × V)} {k : Key} (e : H a = some (.dK kvs)) : DGet H a (kV k) (valV kvs k) := .inl ⟨kvs, k, .inl e, rfl, rfl⟩
theorem DPut.k {H : Hp} {a : Addr} {kvs : List (Key × V)} {k : Key} {v : V} (e : H a = some (.dK kvs)) (hl : kvs.length < sizeLine) : DPut H a (kV k) v (upd H a (.dK (putK kvs k v))) := .inl ⟨kvs, k, e, rfl, hl, rfl⟩


section
variable {X : Cx} {pins : List (Addr × Obj)} {σ : St} {H : Hp} {s : Shared} {a : Addr} {y v : V} {u r : Value} {o : Option V} {A : Around} {E : Value → Shared → Prop}

theorem Inv.big (I : Inv X pins σ H s) : sysModules < s.heap.objs.size := by
  have h : mainGlobals < s.heap.objs.size := (I.mod.glob.keeps I.bk).lt
  exact Nat.lt_trans (by decide) h

/-- y in d -/
theorem d_in {Q : Value → Shared → Prop} (hu : A.units + 1 < cLine) (I : Inv X pins σ H s) (g : DGet H a y o) (ry : RelV y u) (h : ∀ s', Inv X pins σ H s' → Q (.bool o.isSome) s') :
    wpAny (model X.prog X.w) A (compareOp .In u (.ref a)) Q E s := by
  rcases g with ⟨kvs, k, e, ey, l⟩ | ⟨kvs, k, b, e, ey, eb, l⟩
  · subst ey
    obtain ⟨z, hd, vs, rel, dd⟩ := dk_rd I.hok e
    refine wpAny_in_of (kV_is ry) hd dd.mapOf ?_
    rw [← (rel.val k).isSome_eq, ← l]
    exact h _ (I.tok _)
  · subst ey
    cases (show u = Value.ref b from ry)
    obtain ⟨z, hd, xs, rel, dd⟩ := dt_rd I.hok e
    refine wpAny_in_heap (tupleKind_room_in1 hu) (key_of I.hok eb) hd dd ?_
    have q := (rel.val k).isSome_eq
    rw [Option.isSome_map] at q
    rw [← q, ← l]
    exact h _ (I.tok _)
/-- a dict's object is replaced -/
theorem d_write {h' : Heap} {t' : Nat} {ob : HO} (I : Inv X pins σ H s) (mu : Mut (H a)) (hs : Heap.SameBut a s.heap h') (he : ∃ q, h'.get? a = some q) (new : ObjOk X.prog X.w (upd H a ob) h' a ob) :
    Inv X pins σ (upd H a ob) { s with heap := h', toks := t' } :=
  I.write (x := a) (e := a) mu (.inl rfl) (fun b q hb z => (hs.2 b hb).trans z) he new
theorem dk_new {P : Program} {w : World} {H' : Hp} {h' : Heap} {kvs : List (Key × V)} {vs : List (Key × Value)} (z : kvs.length ≤ sizeLine) (hd : (a == sysModules) = false) (rel : KV kvs vs) (dd : h'.DictOf (mixKind P w) a vs) :
    ObjOk P w H' h' a (.dK kvs) := ⟨z, hd, vs, rel, dd⟩
/-- d[y] = v -/
theorem d_setItem {H' : Hp} {Q : Unit → Shared → Prop} (hu : A.units + 1 < cLine) (I : Inv X pins σ H s) (g : DPut H a y v H') (ry : RelV y u) (rv : RelV v r) (h : ∀ s', Inv X pins σ H' s' → Q () s') :
    wpAny (model X.prog X.w) A (setItem (.ref a) u r) Q E s := by
  rcases g with ⟨kvs, k, e, ey, l, eH⟩ | ⟨kvs, k, b, e, ey, eb, l, eH⟩
  · subst ey eH
    obtain ⟨z, hd, vs, rel, dd⟩ := dk_of I.hok e
    have hz : vs.length ≤ sizeLine := by rw [← rel.length]; exact z
    have hl : (putK kvs k v).length ≤ sizeLine := by have := length_putK kvs k v; omega
    refine wpAny_setItem_pairs (hsz := hz) (kV_is ry) dd fun h' dd' hs => h _ ?_
    have he : ∃ q, h'.get? a = some q := let ⟨q, _, _, hq, _⟩ := dd'; ⟨q, hq⟩
    exact d_write I (by rw [e]; exact True.intro) hs he (dk_new hl hd (rel.put k rv) dd')
  · subst ey eH
    cases (show u = Value.ref b from ry)
    obtain ⟨z, hd, xs, rel, dd⟩ := dt_of I.hok e
    have hz : xs.length ≤ sizeLine := by rw [← Paired.length rel]; exact z
    have hl : (putK kvs k v).length ≤ sizeLine := by have := length_putK kvs k v; omega
    refine wpAny_setItem_heap (hsz := hz) (tupleKind_room_in1 hu) (key_of I.hok eb) dd fun h' dd' hs => h _ ?_
    obtain ⟨q, es, ep, hq, h2, h3, h4, _, h5⟩ := dd'
    refine d_write I (by rw [e]; exact True.intro) hs ⟨q, hq⟩ ⟨hl, hd, _, (rel.put k eb rv).keeps fun c ys ec => ?_, q, es, ep, hq, h2, h3, h4, h5⟩
    rw [upd_ne (ne_of ec e (fun z => nomatch z))]
    exact ec
end

section
variable {X : Cx} {pins : List (Addr × Obj)} {σ : St} {H : Hp} {s : Shared} {a : Addr} {kvs : List (Key × V)} {k : Key} {u : Value} {A : Around} {E : Value → Shared → Prop}
end


/-! ### readings and rules -/


/-- d[y] = v -/
noncomputable def sDPut (td ty tv : TE) : TS := fun D σ H => tv σ H fun v H1 => td σ H1 fun x H2 => ty σ H2 fun y H3 => ∃ a H4, x = .ref a ∧ DPut H3 a y v H4 ∧ D.nx σ H4

section
variable {X : Cx} {o i e value : Expr} {pos pos' tpos : Pos} {td ty tv : TE}
theorem ps_dput (hu : X.A.units + 1 < cLine) (ho : PE X o td) (hi : PE X i ty) (hv : PE X value tv) (hs : swapsWith value (some (.Subscript o i pos')) pos.line X.env = pure false) :
    PS X (.Assign [.Subscript o i pos'] value pos) (sDPut td ty tv) := by
  intro pins s σ H D I h
  refine wpAny_Assign_Subscript (thn (hv pins s σ H _ I h) fun r s1 ⟨v, H1, I1, rv, q1⟩ => thn (ho pins s1 σ H1 _ I1 q1) fun u s2 ⟨x, H2, I2, rx, q2⟩ => thn (hi pins s2 σ H2 _ I2 q2) fun iv s3 zz => ?_) hs
  obtain ⟨y, H3, I3, ry, a, H4, ex, g, q3⟩ := zz
  subst ex
  obtain rfl : u = Value.ref a := rx
  exact d_setItem hu I3 g ry rv fun s4 I4 => ⟨σ, H4, I4, q3⟩
end


/-! ### displays -/
theorem dk_empty {P : Program} {w : World} {H : Hp} (h : Heap) (hb : sysModules < h.objs.size) : ObjOk P w H (h.push { cls := .type "dict", data := .dict #[] }) h.objs.size (.dK []) :=
  ⟨Nat.zero_le _, beq_eq_false_iff_ne.mpr (Ne.symm (Nat.ne_of_lt hb)), [], .nil, Heap.DictOf.new h⟩
/-- {}, to be a dict of the kind that is wanted -/
noncomputable def tDNewK : TE := fun _ H Q => ∀ p, H p = none → Q (.ref p) (upd H p (.dK []))
section
variable {X : Cx} {pos : Pos}
theorem pe_dnewK : PE X (.Dict [] [] pos) tDNewK := fun pins s σ H Q I h =>
  wpAny_Dict_empty ⟨.ref s.heap.objs.size, _, I.laid (a := s.heap.objs.size) (o := .dK []) (t' := s.toks) (fun _ _ q => Heap.get?_push_of_some _ q) (Nat.le_refl _) (dk_empty s.heap I.big), rfl, h _ (I.hok.fresh (Nat.le_refl _))⟩
end




/-! ### methods -/
structure M2 (X : Cx) (o : Expr) (m : Str) (apos : Pos) (e f : Expr) (cpos : Pos) : Prop where
  base : attributeBase o m X.env (eval o X.env) = eval o X.env
  few : ((backTo cpos (starEach [e, f] X.env)).all (fun x => !x.1) && (backToKw cpos (keywordEach [] X.env)).all (fun x => x.1.isSome)
    && decide (([e, f] : List Expr).length + ([] : List Keyword).length + (if ([] : List Keyword).isEmpty then 0 else 1) < 30)) = true
  line : (apos.endLine == cpos.line) = true
  trees : backTo cpos (starEach [e, f] X.env) = [(false, eval e X.env), (false, eval f X.env)]

/-- a is a dict, whatever its keys -/
noncomputable def IsD (H : Hp) (a : Addr) : Prop := (∃ kvs, Rd H a (.dK kvs)) ∨ ∃ kvs, Rd H a (.dT kvs)
theorem isD_at {X : Cx} {pins : List (Addr × Obj)} {σ : St} {H : Hp} {s : Shared} {a : Addr} (I : Inv X pins σ H s) (d : IsD H a) :
    s.TypeIs (.ref a) "dict" ∧ (∀ b, Value.ref a = .ref b → ∃ ob, s.heap.get? b = some ob ∧ ob.dict = none) ∧ (a == sysModules) = false := by
  rcases d with ⟨kvs, e⟩ | ⟨kvs, e⟩
  · obtain ⟨_, hd, vs, _, dd⟩ := dk_rd I.hok e
    refine ⟨dd.typeIs, fun b q => ?_, hd⟩
    cases q
    obtain ⟨ob, _, _, h1, h2, _⟩ := dd
    exact ⟨ob, h1, h2.2.1⟩
  · obtain ⟨_, hd, xs, _, dd⟩ := dt_rd I.hok e
    refine ⟨dd.typeIs, fun b q => ?_, hd⟩
    cases q
    obtain ⟨ob, _, _, h1, h2, _⟩ := dd
    exact ⟨ob, h1, h2.2.1⟩

section
variable {X : Cx} {pins : List (Addr × Obj)} {σ : St} {H : Hp} {s : Shared} {a : Addr} {y d : V} {u r : Value} {o : Option V} {A : Around} {E : Value → Shared → Prop}
/-- d.get(y, x) -/
theorem d_get2 {Q : Value → Shared → Prop} (hu : A.units + 1 < cLine) (I : Inv X pins σ H s) (g : DGet H a y o) (ry : RelV y u) (rd : RelV d r) (h : ∀ w' s', Inv X pins σ H s' → RelV (o.getD d) w' → Q w' s') :
    wpAny (model X.prog X.w) A (call (.builtin "dict.get") [.ref a, u, r]) Q E s := by
  rcases g with ⟨kvs, k, e, ey, l⟩ | ⟨kvs, k, b, e, ey, eb, l⟩
  · subst ey
    obtain ⟨z, hd, vs, rel, dd⟩ := dk_rd I.hok e
    refine call_meetsIn PySem.F.slot_dict_get dd.typeIs PySem.F.entry_dict_get (PySem.F.args_dict_get_3 _ _ _) (meets_dict_get_default (mixKind X.prog X.w) a (kV_is ry) hd r) ⟨_, dd.mapOf, h _ _ (I.tok _) ?_⟩
    rw [l]
    exact (rel.val k).getD rd
  · subst ey
    cases (show u = Value.ref b from ry)
    obtain ⟨z, hd, xs, rel, dd⟩ := dt_rd I.hok e
    refine call_meetsIn PySem.F.slot_dict_get dd.typeIs PySem.F.entry_dict_get (PySem.F.args_dict_get_3 _ _ _) (meetsH_dict_get_default (tupleKind (mixKind X.prog X.w)) a b hd r) ⟨tupleKind_room_in1 hu, k, xs, key_of I.hok eb, dd, h _ _ (I.tok _) ?_⟩
    rw [l]
    exact (rel.val k).getD rd
end

noncomputable def tDGet2 (td ty tx : TE) : TE := fun σ H Q => td σ H fun x H1 => ∃ a, x = .ref a ∧ IsD H1 a ∧ ty σ H1 fun y H2 => tx σ H2 fun z H3 => ∃ o, DGet H3 a y o ∧ Q (o.getD z) H3
section
variable {X : Cx} {o e f : Expr} {apos cpos : Pos} {td ty tx : TE}
theorem pe_dget2 (hu : X.A.units + 1 < cLine) (ho : PE X o td) (he : PE X e ty) (hf : PE X f tx) (m : M2 X o "get" apos e f cpos) : PE X (.Call (.Attribute o "get" apos) [e, f] [] cpos) (tDGet2 td ty tx) := by
  intro pins s σ H Q I h
  refine wpAny_Call_method m.base m.few m.line PySem.F.plainAttrs_dict PySem.F.slot_dict_get PySem.F.type_dict_get (thn (ho pins s σ H _ I h) fun u s1 zz => ?_)
  obtain ⟨x, H1, I1, rx, a, ex, d, q1⟩ := zz
  subst ex
  obtain rfl : u = Value.ref a := rx
  obtain ⟨t1, t2, _⟩ := isD_at I1 d
  refine ⟨t1, t2, ?_⟩
  rw [m.trees]
  refine Calls.callWith_builtin rfl (Calls.evalArgs_plain (Calls.spliced_cons (thn (he pins s1 σ H1 _ I1 q1) fun iv s2 ⟨y, H2, I2, ry, q2⟩ =>
    Calls.spliced_cons (thn (hf pins s2 σ H2 _ I2 q2) fun fv s3 ⟨z, H3, I3, rz, ov, g, q3⟩ => Calls.spliced_nil ?_))))
  exact d_get2 hu I3 g ry rz fun w' s4 I4 rw' => ⟨_, H3, I4, rw', q3⟩
end

/-! ### dict(d): a copy -/
section
variable {X : Cx} {pins : List (Addr × Obj)} {σ : St} {H : Hp} {s : Shared} {a : Addr} {kvs : List (Key × V)} {A : Around} {E : Value → Shared → Prop}
end


section
variable {X : Cx} {pins : List (Addr × Obj)} {σ : St} {H : Hp} {s : Shared} {a : Addr} {y : V} {u : Value} {A : Around} {E : Value → Shared → Prop}
end
end L2

namespace Att
open PySem PySem.W PySem.Calls PyProof.Rows

/-! ### the script -/
theorem ints_of_wellAll {P : Params} {h : Heap} : ∀ (ns : List Int) (vs : List Value), WellAll P h vs (ns.map WData.int) → IntsAre vs ns := by
  intro ns
  induction ns with
  | nil =>
    intro vs w
    rw [List.map_nil] at w
    cases w
    exact .nil
  | cons n ns ih =>
    intro vs w
    rw [List.map_cons] at w
    cases w with
    | cons a b =>
      cases a
      exact .cons _ _ (ih _ b)

theorem script_of {l : OpenLaw} {n : Nat} (hn : l.most = some n) {P : Params} {h : Heap} {args : List WData} {vals : List Value}
    (hpre : l.row.toRowW.claim.pre args = true) (hwl : WellAll P h vals args) :
    ∃ a vs ns, vals = [Value.ref a] ∧ args = [WData.list (ns.map WData.int)] ∧ h.get? a = some { cls := .type "list", data := .seq vs.toArray } ∧ IntsAre vs ns ∧ ns.length ≤ n := by
  have hsh : WShape.hasAll [] args [.list .int] = true := (pre_splitW hpre).1
  have hc : l.pre.holds [] { args := args } = true := (pre_splitW hpre).2
  obtain ⟨d, r, rfl, h1, h2⟩ := hasAllW_cons hsh
  obtain rfl := hasAllW_nil h2
  obtain ⟨xs, rfl, h3⟩ := hasW_list h1
  obtain ⟨ns, rfl⟩ := items_int h3
  have hlen : ns.length ≤ n := by
    unfold OpenLaw.pre at hc
    have h4 : (WTm.not (.lt (.lit (.int (n : Int))) (.len (.arg 0)))).holds [] { args := [.list (ns.map .int)] } = true := by
      have h4 := (holds_andW hc).1
      rw [hn] at h4
      exact h4
    have h5 := condW_of h4 (w_not (w_lt w_lit (w_len_list (w_arg rfl))))
    rw [List.length_map] at h5
    refine Nat.le_of_not_lt fun q => ?_
    have q' : (n : Int) < ((ns.length : Nat) : Int) := by omega
    first
      | (rw [decide_eq_true q'] at h5; exact absurd h5 (by decide))
      | (simp at h5; omega)
  cases hwl with
  | cons w1 w2 =>
    cases w2
    cases w1 with
    | list ho hall => exact ⟨_, _, ns, rfl, rfl, ho, ints_of_wellAll ns _ hall, hlen⟩

theorem post_true (l : OpenLaw) (args : List WData) : l.row.toRowW.claim.post args (.bool true) args = true :=
  postW_of (r := l.row.toRowW) (X := (true == true))
    (show WShape.has [] (.bool true) .bool = true by first | rfl | decide | simp [WShape.has, WShape.arms, WShape.armsAll])
    (show (WTm.eq .res (.lit (.bool true))).value [] { args := args, res := some (.bool true), after := args } = some (.bool (true == true)) from w_eq_bool (w_res rfl) w_lit) rfl

/-! ### the attachment: holds_open's last premise (the goal 'hc' behind k_head) from a wpAny of the law's body -/

/-- the same from a codeAny of the CALL (for a layer whose function contracts speak of calls) -/
theorem attach_call {l : OpenLaw} {n : Nat} {q : Program} {loose : List Str} {XP : (Str → Option Value) → Heap → Prop} {YP : World → Heap → Prop} {d : DefRec}
    (hn : l.most = some n) (hdf : d.params.defaults = [])
    (call : ∀ (w : World) (s₀ s₁ : Shared) (mg mb : Str → Option Value) (fa : Addr) (o : Obj) (pm cd doc : Value) (a : Addr) (vs : List Value) (ns : List Int),
      Ground q loose [] XP w s₀ mg mb s₁.heap → YP w s₁.heap →
      s₁.heap.get? fa = some o → o.data = .func (docDef d.name d.params d.body d.scope pm cd doc) → s₁.heap.CodeRec cd d.name → mg d.name = some (.ref fa) →
      s₁.heap.get? a = some { cls := .type "list", data := .seq vs.toArray } → IntsAre vs ns → ns.length ≤ n → s₁.gens = #[] →
      codeAny (model l.prog w) callerA (.call (.ref fa) ⟨[.ref a], []⟩) (fun r s' => r = .ok (.ret (.bool true)) ∧ OldK s₁.heap s'.heap ∧ s'.os = s₁.os ∧ AllBare s'.gens) s₁) :
    WalkO q loose XP YP l.row.toRowW d [] (fun f vs => PySem.call f vs) := by
  intro w s₀ s₁ mg mb G Y fa o pm cd doc dV kV ho hd hcd hD hmg hg args vals as hpre hlay hrd hwl hlo
  obtain rfl : dV = .none := Dflts.none hD hdf
  obtain rfl : kV = .none := Dflts.noKw hD
  obtain ⟨a, vs, ns, rfl, rfl, hobj, hints, hlen⟩ := script_of hn hpre hwl
  refine enter_call (codeAny_mono (call w s₀ s₁ mg mb fa o pm cd doc a vs ns G Y ho (fd_plain hd) hcd hmg hobj hints hlen hg) fun r s' hq => ?_)
  obtain ⟨rfl, h2, h3, h4⟩ := hq
  exact ⟨.inl ⟨.bool true, .bool true, [], rfl, fun _ => rfl, .bool true, post_true l _, fun _ => ⟨List.Pairwise.nil, fun _ hm => (nomatch hm)⟩⟩, h2, h3, h4⟩


/-! ### rules over ANY heap (no ledger) from facts about the written part K: the library's own take a ledger (News) for what they write -/
section
variable {prog : Program} {w : World} {A : Around} {E : Value → Shared → Prop} {s : Shared} {K : Frag}





/-! the whole heap as the ledger: makes every rule that writes through a ledger a rule over any heap -/

end
end Att

namespace L2
open PySem PySem.Spec PyProof.Rows

theorem vals_ints : ∀ {vs : List Value} {ns : List Int}, IntsAre vs ns → Vals (ns.map V.int) vs
  | _, _, .nil => .nil
  | _, _, .cons n t h => .cons ⟨t, rfl⟩ (vals_ints h)

/-- nothing is tracked but the script, known to the object (or it is an object of the module) -/
noncomputable def Only (H : Hp) : Prop := ∀ b, H b = none ∨ ∃ o xs, H b = some (.frz o (.lst xs))

/-- THE HEAD: the law's promise, at the heap behind the top. F, the promise of the law's def, may use that base is part of the heap (so K.In base, base.Ns mainGlobals mg stand in Mod) -/
theorem law_call {P : Program} {w : World} {K : PySem.W.Frag} {mg mb : Str → Option Value} {CX : CXT} {k : Nat} {fa a : Addr} {fd : FuncData} {x : Str} {sp : Sp} {s₁ : Shared} {vs : List Value} {ns : List Int}
    (KX : K.In s₁.heap) (hns : s₁.heap.Ns mainGlobals mg) (hb : s₁.heap.Ns builtinsNs mb) (hbb : ∀ x : Str, x ≠ "__name__" → mb x = bootBuiltins x) (hlim : s₁.heap.NoLimit) (hg : s₁.gens = #[])
    (ha : s₁.heap.get? a = some { cls := .type "list", data := .seq vs.toArray }) (hi : IntsAre vs ns) (hl : ns.length ≤ sizeLine) (hr : Room k callerA)
    (F : ∀ base : Heap, K.In base → base.Ns mainGlobals mg → FnOk P w K mg base CX k fa fd [x] sp) (hbind : ∀ (s : Shared) (u : Value), BindsTo s fd ⟨[u], []⟩ [(x, u)])
    (hsp : ∀ H : Hp, Only H → SqL K H a (ns.map V.int) → sp [.ref a] H (fun v _ => v = .bl true) fun _ _ _ => False)
    (hCX : ∀ H e s', CX [] H s₁ (fun _ _ _ => False) e s' → False) :
    codeAny (model P w) callerA (.call (.ref fa) ⟨[.ref a], []⟩) (fun r s' => r = .ok (.ret (.bool true)) ∧ OldK s₁.heap s'.heap ∧ s'.os = s₁.os ∧ AllBare s'.gens) s₁ := by
  have rv := vals_ints hi
  have lenV := hi.length
  -- from an abstract heap in which nothing but the script may be tracked
  have core : ∀ H : Hp, Only H → SqL K H a (ns.map V.int) → HOk P w H s₁.heap → (∀ b, H b ≠ none → b = a) → (H a ≠ none → K.lookup a = none) →
      codeAny (model P w) callerA (.call (.ref fa) ⟨[.ref a], []⟩) (fun r s' => r = .ok (.ret (.bool true)) ∧ OldK s₁.heap s'.heap ∧ s'.os = s₁.os ∧ AllBare s'.gens) s₁ := by
    intro H hO hS hok hA hK
    have base_of : ∀ {b : Addr} {o : Obj}, s₁.heap.get? b = some o → H b = none → (hidT s₁.heap H).get? b = some o := fun e n => hidT_get e n
    have noA : ∀ {b : Addr} {o : Obj} {es : Array DictEntry} {ep : Nat}, s₁.heap.get? b = some o → o.data = .dict es ep → H b = none := fun {b o es ep} e d => by
      cases q : H b with
      | none => rfl
      | some u =>
        have e' : b = a := hA b (by rw [q]; simp)
        subst e'
        rw [ha] at e; cases e
        have d' : Data.seq vs.toArray _ = Data.dict es ep := d
        cases d'
    have nsK : ∀ {b : Addr} {m : Str → Option Value}, s₁.heap.Ns b m → (hidT s₁.heap H).Ns b m := fun {b m} ⟨o, es, ep, e, d, r⟩ => ⟨o, es, ep, base_of e (noA e d), d, r⟩
    have hKb : K.In (hidT s₁.heap H) := fun b o e => base_of (KX b o e) (by
      cases q : H b with
      | none => rfl
      | some u =>
        have e' : b = a := hA b (by rw [q]; simp)
        subst e'
        rw [hK (by rw [q]; simp)] at e; cases e)
    have hM : Mod K mg (hidT s₁.heap H) := ⟨hKb, nsK hns, ⟨mb, nsK hb, hbb⟩, let ⟨mc, h1, h2⟩ := hlim; ⟨mc, nsK h1, h2⟩⟩
    have e0 : Env0 P w K mg (hidT s₁.heap H) callerA [] s₁ H := ⟨rfl, hM, fun b o e => of_hidT e, Nat.le_of_eq (hidT_size _ _), trivial, fun b hb => absurd (show b ∈ ([] : List Addr) from hb) (by simp), hok, .of_eq hg⟩
    refine codeAny_mono ((F _ hKb (nsK hns)).run callerA [] s₁ H ⟨[.ref a], []⟩ [.ref a] [.ref a] _ _ hr e0 (hbind s₁ (.ref a)) (.cons rfl .nil) (hsp H hO hS)) fun r s' h => ?_
    cases r with
    | error e => exact (hCX H e s' h).elim
    | ok fl =>
      cases fl with
      | next => exact False.elim h
      | brk => exact False.elim h
      | cont => exact False.elim h
      | ret u =>
        obtain ⟨v, H', os, bare, un, hok', r', q⟩ := h
        have q' : v = .bl true := q
        subst q'
        obtain rfl : u = Value.bool true := r'
        refine ⟨rfl, OldK.of_keep fun b o e => ?_, os, bare⟩
        cases q : H b with
        | none => exact un.keep b o e q (by intro z; exact absurd (show b ∈ ([] : List Addr) from z) (by simp)) (by simp)
        | some u =>
          rcases hO b with z | ⟨ob, xs, z⟩
          · rw [q] at z; cases z
          · have z2 := un.frzs b ob _ z
            obtain ⟨e1, _⟩ := hok b _ z
            obtain ⟨e2, _⟩ := hok' b _ z2
            rw [e] at e1; cases e1
            exact e2
  cases hk : K.lookup a with
  | some o =>
    -- the script is one of the module's own objects
    have e := KX a o hk
    rw [ha] at e
    cases e
    refine core (fun _ => none) (fun _ => .inl rfl) (.inr ⟨_, vs.toArray, _, hk, rfl, rfl, rfl, by rw [List.size_toArray, lenV]; exact hl, by simpa using rv⟩) (fun b u z => by have z' : (none : Option HO) = some u := z; cases z') (fun b z => absurd rfl z) fun z => absurd rfl z
  | none =>
    refine core (fun b => if b = a then some (.frz { cls := .type "list", data := .seq vs.toArray } (.lst (ns.map V.int))) else none) (fun b => ?_) (.inl (.inr ⟨{ cls := .type "list", data := .seq vs.toArray }, if_pos rfl⟩)) (fun b u z => ?_) (fun b z => ?_) fun _ => hk
    · by_cases hb : b = a
      · exact .inr ⟨_, _, if_pos hb⟩
      · exact .inl (if_neg hb)
    · by_cases hb : b = a
      · have z' := (if_pos hb).symm.trans z
        cases z'
        subst hb
        exact ⟨ha, by rw [List.length_map]; exact hl, vs, _, rv, ha⟩
      · have z' := (if_neg hb).symm.trans z
        cases z'
    · by_cases hb : b = a
      · exact hb
      · exact absurd (if_neg hb) z
end L2

namespace L2
open PySem PySem.Spec PyProof.Rows


/-- the goal that k_head leaves (case hc), from the law's promise. F gives the function object fd (K's own) once, then the promise over every base -/
theorem walk_of {l : PySem.W.OpenLaw} {n k : Nat} {q : Program} {loose : List Str} {XP : (Str → Option Value) → Heap → Prop} {YP : World → Heap → Prop} {d : DefRec} {K : Params → PySem.W.Frag} {CX : World → CXT} {sp : World → Sp} {x : Str}
    (hn : l.most = some n) (hn2 : n ≤ sizeLine) (hdf : d.params.defaults = []) (hr : Room k callerA)
    (hY : ∀ (w : World) (h : Heap), YP w h → (K w.params).In h)
    (F : ∀ (w : World) (mg : Str → Option Value) (fa : Addr) (h : Heap), (K w.params).In h → h.Ns mainGlobals mg → mg d.name = some (.ref fa) →
      ∃ fd : FuncData, (∀ (s : Shared) (u : Value), BindsTo s fd ⟨[u], []⟩ [(x, u)]) ∧
        ∀ base : Heap, (K w.params).In base → base.Ns mainGlobals mg → FnOk l.prog w (K w.params) mg base (CX w) k fa fd [x] (sp w))
    (hsp : ∀ (w : World) (H : Hp) (a : Addr) (ns : List Int), ns.length ≤ n → Only H → SqL (K w.params) H a (ns.map V.int) → sp w [.ref a] H (fun v _ => v = .bl true) fun _ _ _ => False)
    (hCX : ∀ (w : World) (H : Hp) (s : Shared) (e : Value) (s' : Shared), CX w [] H s (fun _ _ _ => False) e s' → False) :
    PySem.W.WalkO q loose XP YP l.row.toRowW d [] (fun f vs => PySem.call f vs) := by
  refine Att.attach_call hn hdf fun w s₀ s₁ mg mb fa o pm cd doc a vs ns G Y ho hd hcd hmg hobj hints hlen hg => ?_
  have KX := hY w _ Y
  obtain ⟨fd, hb, hF⟩ := F w mg fa _ KX G.T.g hmg
  exact law_call KX G.T.g G.T.b G.T.builtins G.T.nolimit hg hobj hints (Nat.le_trans hlen hn2) hr hF hb (fun H hO hS => hsp w H a ns hlen hO hS) fun H e s' => hCX w H s₁ e s'
end L2

/- THE LAST THEOREM (shape; LID, My.* are yours):
   My.Adr: a structure of the addresses that your layer names (classes, functions); My.Txt K t: a structure (Prop) of the equations over K;
   My.txt_mk : {K} {implicit addresses ..} (e1 : nsIn K mainGlobals "law" = some (some (.ref f))) (e2 : K.lookup f = some ⟨oc, od, .func (fnOf "law" "law" params body scope dV kV doc pm an cdv ct), sl⟩) (e3 : codeIn K cdv "law" = true) .. : ∃ t, My.Txt K t

set_option maxRecDepth 100000 in
set_option maxHeartbeats 0 in
theorem PySem.Challenge.cw_LID_holds : PySem.Challenge.rw_LID.Holds := by
  w_on; o_law; k_head; (case hw => w_witness2)
  k_fill
  refine L2.walk_of (l := PySem.Challenge.rw_LID) (n := 63) (k := 40) (x := "script") (CX := fun w => ..) (sp := fun _ => My.sp_law) rfl (by decide) rfl ⟨rfl, by decide, by decide⟩ (fun w h Y => PySem.W.kIn_of Y) ?F ?S ?C
  case F =>
    intro w mg fa h KX G hmg
    have T : ∃ t, My.Txt (L2.KOf KX) t := by
      dsimp only [L2.KOf]                          -- K must stand as «<heap const> w.params» for k_is
      refine' My.txt_mk ?e1 ?e2 ?e3 ..
      (case e1 => PySem.W.k_is)                    -- in the order: a name -> its address -> its object -> its parts
      (case e2 => PySem.W.k_is)
      ..
    obtain ⟨t, T⟩ := T
    have e0 := hmg.symm.trans (PySem.W.mg_of KX G T.law)
    cases e0                                       -- fa is the law's own address
    exact ⟨_, fun s u => .of_eq rfl, fun base kb nb => My.law_fn T kb nb⟩     -- if «.of_eq rfl» comes too early: refine' ⟨_, ?b, fun base kb nb => My.law_fn T kb nb⟩; exact fun s u => .of_eq rfl
  case S => exact fun w H a ns hl hO hS => ..
  case C => exact ..
(the tactic k_is has no namespace: write k_is) -/

/-! SHORT WORDS over the layer: a def of the text, its body, what a loop and a test want. -/
namespace L2
open PySem PySem.Spec PyProof.Rows

/-! ### the text by places -/
noncomputable def defArgs (s : Stmt) : Arguments := match s with
  | .FunctionDef _ a _ _ _ _ _ _ _ _ => a
  | _ => { posonlyargs := [], args := [], vararg := none, kwonlyargs := [], kw_defaults := [], kwarg := none, defaults := [] }
noncomputable def defBody (s : Stmt) : List Stmt := match s with
  | .FunctionDef _ _ b _ _ _ _ _ _ _ => b
  | _ => []
noncomputable def defScope (s : Stmt) : Scope := match s with
  | .FunctionDef _ _ _ _ _ _ sc _ _ _ => sc
  | _ => { kind := .function, names := [], isGenerator := false, isCoroutine := false }

/-! ### no exception leaves a def -/
noncomputable abbrev CX0 : CXT := fun _ _ _ _ _ _ => False
noncomputable abbrev E0 : XK := fun _ _ _ => False
theorem pass0 {X : Cx} : Passes CX0 X E0 := fun _ _ _ _ _ _ _ h => h.elim

/-! ### a def (or method) of the text as it stands behind the top -/
structure Fun (K : PySem.W.Frag) (x qual : Str) (st : Stmt) (f : Addr) (fd : FuncData) : Prop where
  ex : ∃ (oc : Value) (od : Option Addr) (kV doc pm : Value) (an : Option Addr) (cdv ct : Value) (osl : Array (Option Value)),
    fd = PySem.W.fnOf x qual (defArgs st) (defBody st) (defScope st) .none kV doc pm an cdv ct ∧ K.lookup f = some ⟨oc, od, .func fd, osl⟩ ∧ PySem.W.codeIn K cdv qual = true
  kp : PySem.W.keepIn K (.ref f) = true
section
variable {P : Program} {w : World} {K : PySem.W.Frag} {mg : Str → Option Value} {base : Heap}
/-- THE RULE for a def: its body as a term of rules, and the reading of that term -/
theorem Fun.ok {x qual : Str} {st : Stmt} {f : Addr} {fd : FuncData} {N ps : List Str} {k : Nat} {sp : Sp} (F : Fun K x qual st f fd) (S : FnScope N ps (defScope st)) (len : ∀ vs H Q E, sp vs H Q E → vs.length = ps.length)
    (hbody : ∀ (cdv : Value) (A : Around) (outer : List Env) (s : Shared) (H : Hp) (vs : List V) (Q : VK) (E : XK), Room k (A.deeper (envOfC qual (defScope st) s.heap.objs.size f cdv)) → sp vs H Q E →
      ∃ t, PSs (cxOf CX0 P w K mg base N qual (defScope st) f cdv A outer s H E).nox (defBody st) t ∧ t { nx := fun _ H' => Q .non H', rt := Q } (start N vs) H) : FnOk P w K mg base CX0 (k + 1) f fd ps sp := by
  obtain ⟨oc, od, kV, doc, pm, an, cdv, ct, osl, rfl, lk, hcd⟩ := F.ex
  refine fn_of lk hcd S len fun A outer s H vs Q E hr hsp => ?_
  obtain ⟨t, h, q⟩ := hbody cdv A outer s H vs Q E hr hsp
  exact ⟨t, h.nox, q⟩
/-- how its arguments bind (no defaults): h is «fun _ _ _ _ _ _ us hl => match us, hl with | [_, _], _ => rfl», one _ a parameter -/
theorem Fun.binds {x qual : Str} {st : Stmt} {f : Addr} {fd : FuncData} {ps : List Str} (F : Fun K x qual st f fd)
    (h : ∀ (kV doc pm : Value) (an : Option Addr) (cdv ct : Value) (us : List Value), us.length = ps.length → bindArgs (PySem.W.fnOf x qual (defArgs st) (defBody st) (defScope st) .none kV doc pm an cdv ct) ⟨us, []⟩ = pure (ps.zip us)) : Binds K fd ps [] := by
  obtain ⟨oc, od, kV, doc, pm, an, cdv, ct, osl, rfl, lk, hcd⟩ := F.ex
  exact .all (h kV doc pm an cdv ct)
theorem fun_mk {x qual : Str} {st : Stmt} {f : Addr} {oc : Value} {od an : Option Addr} {osl : Array (Option Value)} {kV doc pm cdv ct : Value} (l : K.lookup f = some ⟨oc, od, .func (PySem.W.fnOf x qual (defArgs st) (defBody st) (defScope st) .none kV doc pm an cdv ct), osl⟩)
    (c : PySem.W.codeIn K cdv qual = true) (k : PySem.W.keepIn K (.ref f) = true) : Fun K x qual st f (PySem.W.fnOf x qual (defArgs st) (defBody st) (defScope st) .none kV doc pm an cdv ct) := ⟨⟨oc, od, kV, doc, pm, an, cdv, ct, osl, rfl, l, c⟩, k⟩
end
theorem small1000 {n : Nat} (h : n ≤ 1000) : n < sizeLine := Nat.lt_of_le_of_lt h (by decide)

/-! ### expressions in short: the name that stands in the i-th slot -/
section
variable {X : Cx}
end

/-! ### tests -/
theorem iteF {A B : Prop} (h : B) : if false = true then A else B := by
  rw [if_neg Bool.false_ne_true]
  exact h
theorem iteT {A B : Prop} (h : A) : if true = true then A else B := by
  rw [if_pos rfl]
  exact h
theorem ite2 {c A B : Prop} [Decidable c] (h1 : c → A) (h2 : ¬ c → B) : if c then A else B := by
  by_cases h : c
  · rw [if_pos h]
    exact h1 h
  · rw [if_neg h]
    exact h2 h

/-! ### heaps -/
/-- all that was tracked is as it was -/
noncomputable def Same (H H' : Hp) : Prop := ∀ b o, H b = some o → H' b = some o
theorem Same.refl (H : Hp) : Same H H := fun _ _ h => h
theorem Same.trans {H H1 H2 : Hp} (a : Same H H1) (b : Same H1 H2) : Same H H2 := fun c o h => b c o (a c o h)
theorem Same.seq {K : PySem.W.Frag} {H H' : Hp} {a : Addr} {xs : List V} (e : Same H H') (h : SqL K H a xs) : SqL K H' a xs := by
  rcases h with (h | ⟨o, h⟩) | h
  · exact .inl (.inl (e _ _ h))
  · exact .inl (.inr ⟨o, e _ _ h⟩)
  · exact .inr h

/-! ### a dict's pairs: keys that differ -/
section
variable {κ : Type} [DecidableEq κ]
end
end L2


namespace GM
/-! Whole numbers: divisors, lowest ratios, sizes. -/



end GM


set_option Elab.async false
set_option linter.all false
set_option maxRecDepth 100000
/-! MY RULES over the hand layer -/
namespace L2
open PySem PySem.Spec PyProof.Rows

/-! ### argument lists without stars: by a look at each item's head alone -/
noncomputable def noStar : Expr → Bool
  | .Starred _ _ => false
  | _ => true
theorem star_cons {e : Expr} {es : List Expr} {env : Env} (h : noStar e = true) : starEach (e :: es) env = (false, eval e env) :: starEach es env := by
  cases e <;> first | rfl | cases h
theorem star_any {pos : Pos} {env : Env} : ∀ {es : List Expr}, es.all noStar = true → (backTo pos (starEach es env)).any (·.1) = false
  | [], _ => rfl
  | e :: es, h => by
    rw [List.all_cons, Bool.and_eq_true] at h
    rw [star_cons h.1]
    show (false || (backTo pos (starEach es env)).any (·.1)) = false
    rw [star_any h.2]; rfl
theorem all_cons1 {e : Expr} {es : List Expr} (h : (e :: es).all noStar = true) : noStar e = true ∧ es.all noStar = true := by
  rw [List.all_cons, Bool.and_eq_true] at h; exact h
section
variable {X : Cx} {e o : Expr} {es : List Expr} {te : TE} {t : TA} {pos p : Pos}
theorem pa_c (ha : PE X e te) (hr : PA X es t) (hs : noStar e = true := by rfl) : PA X (e :: es) (tCons te t) := pa_cons ha hr (star_cons hs)
theorem pe_cB {x : Str} {id : String} {r : List V → Hp → VK → Prop} (hc : CallR X (.builtin id) r) (hg : Gl X x) (hm : X.mg x = none) (hv : bootBuiltins x = some (.builtin id)) (ha : PA X (e :: es) t) (hs : (e :: es).all noStar = true := by rfl)
    (hn : x ≠ "__name__" := by decide) (hdb : (x == ("__debug__" : Str)) = false := by decide) : PE X (.Call (.Name x p) (e :: es) [] pos) (tCB r t) :=
  pe_callB hc hg hm hv ha hn hdb (star_cons (all_cons1 hs).1) (star_any (all_cons1 hs).2)
theorem pe_cTy {x : Str} {T : String} {r : List V → Hp → VK → Prop} (hc : CallR X (.type T) r) (hg : Gl X x) (hm : X.mg x = none) (hv : bootBuiltins x = some (.type T)) (ha : PA X (e :: es) t) (hs : (e :: es).all noStar = true := by rfl)
    (hn : x ≠ "__name__" := by decide) (hdb : (x == ("__debug__" : Str)) = false := by decide) : PE X (.Call (.Name x p) (e :: es) [] pos) (tCB r t) :=
  pe_callTy hc hg hm hv ha hn hdb (star_cons (all_cons1 hs).1) (star_any (all_cons1 hs).2)
theorem few1 {env : Env} {cpos : Pos} (h : noStar e = true) : ((backTo cpos (starEach [e] env)).all (fun x => !x.1) && (backToKw cpos (keywordEach [] env)).all (fun x => x.1.isSome)
      && decide (([e] : List Expr).length + ([] : List Keyword).length + (if ([] : List Keyword).isEmpty then 0 else 1) < 30)) = true := by
  rw [star_cons h]; rfl
theorem pe_append {to : TE} {apos cpos : Pos} (ho : PE X o to) (ha : PA X [e] t) (hs : noStar e = true := by rfl) (hbase : attributeBase o "append" X.env (eval o X.env) = eval o X.env := by rfl) (hline : (apos.endLine == cpos.line) = true := by rfl) :
    PE X (.Call (.Attribute o "append" apos) [e] [] cpos) (tBM X.K "list" rAppend to t) :=
  pe_bm PySem.F.plainAttrs_list PySem.F.slot_list_append PySem.F.type_list_append mt_append ho ha hbase (few1 hs) hline (star_cons hs) rfl
end

/-! ### kinds of values, isinstance -/
inductive Nm where | non | bl | int | str | lst | tup | dct
  deriving DecidableEq
noncomputable def Nm.s : Nm → String
  | .non => "NoneType" | .bl => "bool" | .int => "int" | .str => "str" | .lst => "list" | .tup => "tuple" | .dct => "dict"
noncomputable def isN (n m : Nm) : Bool := decide (n = m) || (decide (n = .bl) && decide (m = .int))
noncomputable def bT (T U : String) : Option Bool := if (Value.type T == Value.type U) = true then some true else if PySem.W.kitMeta U = true then (fastBuiltinMro T).map (·.contains (Value.type U)) else none
theorem kitOne_bT (K : PySem.W.Frag) (T U : String) : PySem.W.kitOne K (.type T) (.type U) = bT T U := rfl
theorem bT_all (n m : Nm) : bT n.s m.s = some (isN n m) := by
  cases n <;> cases m <;> decide +kernel
noncomputable abbrev KindIs (K : PySem.W.Frag) (H : Hp) (v : V) (n : Nm) : Prop := TyOf K H v (.type (Nm.s n))
noncomputable def rIsi (K : PySem.W.Frag) (m : Nm) : List V → Hp → VK → Prop := fun xs H Q => ∃ x n, xs = [x, .ty (Nm.s m)] ∧ KindIs K H x n ∧ Q (.bl (isN n m)) H
theorem call_isinst {X : Cx} (m : Nm) : CallR X (.builtin "isinstance") (rIsi X.K m) := by
  intro pins s σ H xs us Q I r h
  obtain ⟨x, n, rfl, ty, q⟩ := h
  obtain ⟨u, u', rfl, ru, ru'⟩ := vals2 r
  cases ru'
  exact isinst_ok I ru ty ((kitOne_bT _ _ _).trans (bT_all n m)) fun tk => ⟨.bl (isN n m), H, I.tok tk, rfl, q⟩
theorem nm_ne (m : Nm) : (Str.ofString (Nm.s m)) ≠ "__name__" := by cases m <;> decide +kernel
theorem nm_db (m : Nm) : ((Str.ofString (Nm.s m)) == ("__debug__" : Str)) = false := by cases m <;> decide +kernel
theorem boot_nm (m : Nm) (h : m ≠ .non) : bootBuiltins (Str.ofString (Nm.s m)) = some (.type (Nm.s m)) := by
  cases m
  · exact absurd rfl h
  · exact boot_bool
  · exact boot_int
  · exact boot_str
  · exact boot_list
  · exact boot_tuple
  · exact boot_dict
theorem pe_isi {X : Cx} (m : Nm) {e : Expr} {te : TE} {p p2 pos : Pos} (hg : Gl X "isinstance") (hm : X.mg "isinstance" = none) (hgT : Gl X (Str.ofString (Nm.s m))) (hmT : X.mg (Str.ofString (Nm.s m)) = none) (ha : PE X e te) (h0 : m ≠ .non := by decide) (hs : noStar e = true := by rfl) :
    PE X (.Call (.Name "isinstance" p) [e, .Name (Str.ofString (Nm.s m)) p2] [] pos) (tCB (rIsi X.K m) (tCons te (tCons (tC (.ty (Nm.s m))) tNil))) :=
  pe_cB (call_isinst m) hg hm boot_isinstance (pa_c ha (pa_c (pe_bltn hgT hmT (boot_nm m h0) rfl (nm_ne m) (nm_db m)) pa_nil) hs) (by rw [List.all_cons, hs]; rfl)

/-! ### operations -/
section
variable {X : Cx} {a b c : Expr} {ta tb tc : TE} {pos : Pos}
theorem op_mulB : OpR X (binaryOp .Mult) (rI IntMulOk fun i j => .int (i * j)) := opI fun _ _ _ _ _ _ _ hc q => mul_int q hc
end
theorem mulOk_small {i j : Int} (h : j.natAbs < 2 ^ 64) : IntMulOk i j := IntMulOk.of_right (intBits_le_64 (by omega) (by omega))
theorem mulOk_left {i j : Int} (h : i.natAbs < 2 ^ 64) : IntMulOk i j := IntMulOk.of_left (intBits_le_64 (by omega) (by omega))

/-! ### defs -/
structure DefOk (P : Program) (w : World) (K : PySem.W.Frag) (mg : Str → Option Value) (base : Heap) (k : Nat) (x : Str) (ps : List Str) (dvs : List V) (sp : Sp) : Prop where
  ex : ∃ (f : Addr) (fd : FuncData) (ds : List Value), FnOk P w K mg base CX0 k f fd ps sp ∧ Binds K fd ps ds ∧ Vals dvs ds ∧ PySem.W.keepIn K (.ref f) = true ∧ mg x = some (.ref f)
theorem pe_callD {X : Cx} {k j : Nat} {x : Str} {ps : List Str} {dvs : List V} {sp : Sp} {p pos : Pos} {e : Expr} {es : List Expr} {t : TA}
    (D : DefOk X.prog X.w X.K X.mg X.base k x ps dvs sp) (hr : Room j X.A) (hj : k ≤ j) (hg : Gl X x) (ha : PA X (e :: es) t) (hs : (e :: es).all noStar = true := by rfl)
    (hdb : (x == ("__debug__" : Str)) = false := by decide) :
    PE X (.Call (.Name x p) (e :: es) [] pos) (tCall sp dvs E0 t) := by
  obtain ⟨f, fd, ds, F, b, hd, kp, m⟩ := D.ex
  exact pe_call F (hr.mono hj) hg m kp b hd pass0 ha hdb (star_cons (all_cons1 hs).1) (star_any (all_cons1 hs).2)
section
variable {P : Program} {w : World} {K : PySem.W.Frag} {mg : Str → Option Value} {base : Heap}
end
theorem same_new {H : Hp} {p : Addr} (h : H p = none) (o : HO) : Same H (upd H p o) := fun b u q => by rw [upd_ne (ne_of_none q h)]; exact q
end L2


set_option Elab.async false
set_option linter.all false
set_option maxRecDepth 100000
/-! texts written by f-strings -/
namespace L2
open PySem PySem.Spec PyProof.Rows
end L2


set_option Elab.async false
set_option linter.all false
set_option maxRecDepth 100000
/-! THE RULES, their judgements shut: nothing is unfolded where a term of rules is elaborated -/
namespace L2
open PySem PySem.Spec PyProof.Rows
structure QE (X : Cx) (e : Expr) (t : TE) : Prop where h : PE X e t
structure QT (X : Cx) (e : Expr) (t : TT) : Prop where h : PT X e t
structure QW (X : Cx) (e : Expr) (t : TT) : Prop where h : PW X e t
structure QA (X : Cx) (es : List Expr) (t : TA) : Prop where h : PA X es t
structure QS (X : Cx) (st : Stmt) (t : TS) : Prop where h : PS X st t
structure QSs (X : Cx) (st : List Stmt) (t : TS) : Prop where h : PSs X st t
structure QO (X : Cx) (e : Option Expr) (t : TO) : Prop where h : PO X e t
structure QI (X : Cx) (tg iter : Expr) (wi : TI) : Prop where h : PI X tg iter wi
structure QG (X : Cx) (tg : Expr) (t : TG) : Prop where h : PG X tg t
/-- no comprehension -/
noncomputable def noComp : Expr → Bool
  | .ListComp _ _ _ _ => false
  | .SetComp _ _ _ _ => false
  | .DictComp _ _ _ _ _ => false
  | _ => true
theorem swaps_no {e : Expr} {tg : Option Expr} {l : Nat} {env : Env} (h : noComp e = true) : swapsWith e tg l env = pure false := by
  cases e <;> first | rfl | cases h
namespace R
section
variable {X : Cx} {a b c e o : Expr} {es rest : List Expr} {ta tb tc te : TE} {tA tB' : TT} {t : TA} {pos p : Pos}
theorem pv (i : Nat) {x : Str} (hN : X.N[i]? = some x := by rfl) (hv : Vis X.env.scope x := by first | exact Or.inl rfl | exact Or.inr (Or.inl rfl) | exact Or.inr (Or.inr rfl)) (hd : (x == ("__debug__" : Str)) = false := by decide)
    (hcd : (x == ("__classdict__" : Str)) = false := by decide) : QE X (.Name x pos) (tVar i) := ⟨pe_var hN hv hd hcd⟩
theorem pe_int {i : Int} {j : Nat} : QE X (.Constant (.int i) j pos) (tC (.int i)) := ⟨L2.pe_int⟩
theorem pe_bl {k : Bool} {j : Nat} : QE X (.Constant (.bool k) j pos) (tC (.bl k)) := ⟨L2.pe_bl⟩
theorem pe_non {j : Nat} : QE X (.Constant .none j pos) (tC .non) := ⟨L2.pe_non⟩
theorem pe_str {x : Str} {j : Nat} : QE X (.Constant (.str x) j pos) (tC (.str x)) := ⟨L2.pe_str⟩
theorem pe_op {op : Operator} {r : R2} (ho : OpR X (binaryOp op) r) (ha : QE X a ta) (hb : QE X b tb) : QE X (.BinOp a op b pos) (tOp r ta tb) := ⟨L2.pe_op ho ha.h hb.h⟩
theorem pe_not (ha : QE X a ta) : QE X (.UnaryOp .Not a pos) (tNotV ta) := ⟨L2.pe_not ha.h⟩
theorem pe_one {op : BoolOp} (h : QE X a ta) : QE X (.BoolOp op [a] pos) ta := ⟨L2.pe_one h.h⟩
theorem pe_and (ha : QE X a ta) (hb : QE X (.BoolOp .And (b :: rest) pos) tb) : QE X (.BoolOp .And (a :: b :: rest) pos) (tAndV ta tb) := ⟨L2.pe_and ha.h hb.h⟩
theorem pe_cmpR {op : CmpOp} {r : R2} (ho : OpR X (compareOp op) r) (ha : QE X a ta) (hb : QE X b tb) (hm : behindInMarks op b = false) : QE X (.Compare a [op] [b] pos) (tOp r ta tb) := ⟨L2.pe_cmpR ho ha.h hb.h hm⟩
theorem po_none : QO X none tNoPart := ⟨L2.po_none⟩
theorem po_some (h : QE X e te) : QO X (some e) (tPart te) := ⟨L2.po_some h.h⟩
theorem pe_slice {lo hi : Option Expr} {tl th : TO} {p2 : Pos} {r : V → Option Int → Option Int → Hp → VK → Prop} (hr : SlR X r) (he : QE X e te) (hl : QO X lo tl) (hu : QO X hi th) : QE X (.Subscript e (.Slice lo hi none p2) pos) (tSl r te tl th) := ⟨L2.pe_slice hr he.h hl.h hu.h⟩
theorem pe_ix {r : R2} (hr : IxR X r) (ha : QE X a ta) (hb : QE X b tb) (hs : PlainIx b) : QE X (.Subscript a b pos) (tOp r ta tb) := ⟨L2.pe_ix hr ha.h hb.h hs⟩
theorem pa_nil : QA X [] tNil := ⟨L2.pa_nil⟩
theorem pa_c (ha : QE X e te) (hr : QA X es t) (hs : noStar e = true := by rfl) : QA X (e :: es) (tCons te t) := ⟨L2.pa_c ha.h hr.h hs⟩
theorem pe_lst (h : QA X es t) : QE X (.List es pos) (tLst t) := ⟨L2.pe_lst h.h⟩
theorem pe_tup {x1 : Nat} (h : QA X es t) : QE X (.Tuple es x1 pos) (tTup t) := ⟨L2.pe_tup h.h⟩
theorem pe_dnewK : QE X (.Dict [] [] pos) tDNewK := ⟨L2.pe_dnewK⟩
theorem pe_callD {k j : Nat} {x : Str} {ps : List Str} {dvs : List V} {sp : Sp} (D : DefOk X.prog X.w X.K X.mg X.base k x ps dvs sp) (hr : Room j X.A) (hj : k ≤ j) (hg : Gl X x) (ha : QA X (e :: es) t) (hs : (e :: es).all noStar = true := by rfl)
    (hdb : (x == ("__debug__" : Str)) = false := by decide) : QE X (.Call (.Name x p) (e :: es) [] pos) (tCall sp dvs E0 t) := ⟨L2.pe_callD D hr hj hg ha.h hs hdb⟩
theorem pe_isi (m : Nm) {p2 : Pos} (hg : Gl X "isinstance") (hm : X.mg "isinstance" = none) (hgT : Gl X (Str.ofString (Nm.s m))) (hmT : X.mg (Str.ofString (Nm.s m)) = none) (ha : QE X e te) (h0 : m ≠ .non := by decide) (hs : noStar e = true := by rfl) :
    QE X (.Call (.Name "isinstance" p) [e, .Name (Str.ofString (Nm.s m)) p2] [] pos) (tCB (rIsi X.K m) (tCons te (tCons (tC (.ty (Nm.s m))) tNil))) := ⟨L2.pe_isi m hg hm hgT hmT ha.h h0 hs⟩
theorem pe_cB {x : Str} {id : String} {r : List V → Hp → VK → Prop} (hc : CallR X (.builtin id) r) (hg : Gl X x) (hm : X.mg x = none) (hv : bootBuiltins x = some (.builtin id)) (ha : QA X (e :: es) t) (hs : (e :: es).all noStar = true := by rfl)
    (hn : x ≠ "__name__" := by decide) (hdb : (x == ("__debug__" : Str)) = false := by decide) : QE X (.Call (.Name x p) (e :: es) [] pos) (tCB r t) := ⟨L2.pe_cB hc hg hm hv ha.h hs hn hdb⟩
theorem pe_cTy {x : Str} {T : String} {r : List V → Hp → VK → Prop} (hc : CallR X (.type T) r) (hg : Gl X x) (hm : X.mg x = none) (hv : bootBuiltins x = some (.type T)) (ha : QA X (e :: es) t) (hs : (e :: es).all noStar = true := by rfl)
    (hn : x ≠ "__name__" := by decide) (hdb : (x == ("__debug__" : Str)) = false := by decide) : QE X (.Call (.Name x p) (e :: es) [] pos) (tCB r t) := ⟨L2.pe_cTy hc hg hm hv ha.h hs hn hdb⟩
theorem pe_append {to : TE} {apos cpos : Pos} (ho : QE X o to) (ha : QA X [e] t) (hs : noStar e = true := by rfl) (hbase : attributeBase o "append" X.env (eval o X.env) = eval o X.env := by rfl) (hline : (apos.endLine == cpos.line) = true := by rfl) :
    QE X (.Call (.Attribute o "append" apos) [e] [] cpos) (tBM X.K "list" rAppend to t) := ⟨L2.pe_append ho.h ha.h hs hbase hline⟩
theorem pt_cmpR {op : CmpOp} {r : R2} (ho : OpR X (compareOp op) r) (ha : QE X a ta) (hb : QE X b tb) (hm : behindInMarks op b = false) : QT X (.Compare a [op] [b] pos) (tTest (tOp r ta tb)) := ⟨L2.pt_cmpR ho ha.h hb.h hm⟩
theorem pw_and1 (ha : QT X a tA) : QW X (.BoolOp .And [a] pos) tA := ⟨L2.pw_and1 ha.h⟩
theorem pw_or1 (ha : QT X a tA) : QW X (.BoolOp .Or [a] pos) tA := ⟨L2.pw_or1 ha.h⟩
theorem pw_and (ha : QT X a tA) (hb : QW X (.BoolOp .And (b :: rest) pos) tB') : QW X (.BoolOp .And (a :: b :: rest) pos) (tAnd tA tB') := ⟨L2.pw_and ha.h hb.h⟩
theorem pw_or (ha : QT X a tA) (hb : QW X (.BoolOp .Or (b :: rest) pos) tB') : QW X (.BoolOp .Or (a :: b :: rest) pos) (tOr tA tB') := ⟨L2.pw_or ha.h hb.h⟩
theorem pt (h : QW X e tA) : QT X e tA := ⟨PW.pt h.h⟩
theorem pt_not (ha : QT X a tA) : QT X (.UnaryOp .Not a pos) (tNot tA) := ⟨L2.pt_not ha.h⟩
theorem pt_val (h : QE X e te) (he : ∀ whole, isTrue e X.env whole = (do let v ← whole; standAt e.pos; holding [v] (truthy v)) := by intro _; rfl) : QT X e (tB te) := ⟨L2.pt_val h.h he⟩
end
section
variable {X : Cx} {c e : Expr} {te : TE} {tc : TT} {st : Stmt} {sts body orelse : List Stmt} {t u tb : TS} {pos : Pos}
theorem ps_ret (he : QE X e te) : QS X (.Return (some e) pos) (tRet te) := ⟨L2.ps_ret he.h⟩
theorem ps_never : QS X st tNever := ⟨L2.ps_never⟩
theorem ps_expr (he : QE X e te) (hs : noComp e = true := by rfl) : QS X (.Expr e pos) (tDrop te) := ⟨L2.ps_expr he.h (swaps_no hs)⟩
theorem ps_set {i : Nat} {x : Str} {pos' : Pos} (hN : X.N.Nodup) (hi : X.N[i]? = some x) (hx : Loc X.env.scope x) (he : QE X e te) (hs : noComp e = true := by rfl) (hf : X.fn x = true ∨ X.env.scope.names.lookup x = some .local := by first | exact .inl rfl | exact .inr rfl | assumption) :
    QS X (.Assign [.Name x pos'] e pos) (tAsg te (gName i)) := ⟨L2.ps_set hN hi hx he.h (swaps_no hs) hf⟩
theorem ps_if (hc : QT X c tc) (ha : QSs X body t) (hb : QSs X orelse u) : QS X (.If c body orelse pos) (tIfS tc t u) := ⟨L2.ps_if hc.h ha.h hb.h⟩
theorem ps_for {tg iter : Expr} {wi : TI} {g : TG} (hp : PassesOwn (model X.prog X.w) X.A X.env X.xe) (hc : X.calm = true) (hi : QI X tg iter wi) (hg : QG X tg g) (hb : QSs X body tb)
    (hs : ∀ x, foldedSetIterable iter X.env x = pure x := by intro _; rfl) : QS X (.For tg iter body [] pos) (tFor wi g tb) := ⟨L2.ps_for hp hc hi.h hg.h hb.h hs⟩
theorem pi_list {tg : Expr} (hl : QE X e te) : QI X tg e (iList X.K te) := ⟨L2.pi_list hl.h⟩
theorem pi_range1 {tg a : Expr} {ta : TA} {p : Pos} (hg : Gl X "range") (hm : X.mg "range" = none) (ha : QA X [a] ta) (hs : noStar a = true := by rfl) : QI X tg (.Call (.Name "range" p) [a] [] pos) (iRng1 ta) := ⟨L2.pi_range1 hg hm ha.h (star_cons hs)⟩
theorem pg_name {i : Nat} {x : Str} (hN : X.N.Nodup) (hi : X.N[i]? = some x) (hx : Loc X.env.scope x) (hf : X.fn x = true ∨ X.env.scope.names.lookup x = some .local := by first | exact .inl rfl | exact .inr rfl | assumption) : QG X (.Name x pos) (gName i) := ⟨L2.pg_name hN hi hx hf⟩
theorem pss_nil : QSs X [] tNext := ⟨L2.pss_nil⟩
theorem pss_one (h1 : QS X st t) : QSs X [st] t := ⟨L2.pss_one h1.h⟩
theorem pss_cons (h1 : QS X st t) (h2 : QSs X sts u) : QSs X (st :: sts) (tSeq t u) := ⟨L2.pss_cons h1.h h2.h⟩
end
end R
section
variable {P : Program} {w : World} {K : PySem.W.Frag} {mg : Str → Option Value} {base : Heap}
theorem Fun.okQ {x qual : Str} {st : Stmt} {f : Addr} {fd : FuncData} {N ps : List Str} {k : Nat} {sp : Sp} (F : Fun K x qual st f fd) (S : FnScope N ps (defScope st)) (len : ∀ vs H Q E, sp vs H Q E → vs.length = ps.length)
    (hbody : ∀ (cdv : Value) (A : Around) (outer : List Env) (s : Shared) (H : Hp) (vs : List V) (Q : VK) (E : XK), Room k (A.deeper (envOfC qual (defScope st) s.heap.objs.size f cdv)) → sp vs H Q E →
      ∃ t, QSs (cxOf CX0 P w K mg base N qual (defScope st) f cdv A outer s H E).nox (defBody st) t ∧ t { nx := fun _ H' => Q .non H', rt := Q } (start N vs) H) : FnOk P w K mg base CX0 (k + 1) f fd ps sp :=
  F.ok S len fun cdv A outer s H vs Q E hr h => let ⟨t, q, r⟩ := hbody cdv A outer s H vs Q E hr h; ⟨t, q.h, r⟩
theorem Fun.def_okQ {x qual : Str} {st : Stmt} {f : Addr} {fd : FuncData} {N ps : List Str} {k : Nat} {sp : Sp} (F : Fun K x qual st f fd) (m : mg x = some (.ref f)) (b : Binds K fd ps []) (S : FnScope N ps (defScope st)) (len : ∀ vs H Q E, sp vs H Q E → vs.length = ps.length)
    (hbody : ∀ (cdv : Value) (A : Around) (outer : List Env) (s : Shared) (H : Hp) (vs : List V) (Q : VK) (E : XK), Room k (A.deeper (envOfC qual (defScope st) s.heap.objs.size f cdv)) → sp vs H Q E →
      ∃ t, QSs (cxOf CX0 P w K mg base N qual (defScope st) f cdv A outer s H E).nox (defBody st) t ∧ t { nx := fun _ H' => Q .non H', rt := Q } (start N vs) H) : DefOk P w K mg base (k + 1) x ps [] sp :=
  ⟨f, fd, [], F.okQ S len hbody, b, .nil, F.kp, m⟩
end
end L2


set_option Elab.async false
set_option linter.all false
set_option maxRecDepth 100000
/-! y = [elt for x in iter] -/
namespace L2
open PySem PySem.Spec PyProof.Rows
section
variable {prog : Program} {w : World} {A : Around} {R : Result → Shared → Prop} {s : Shared}
end
/-- the block of a comprehension: its own frame's dict at C, the cells of the names that it takes from around it -/
noncomputable def cxComp (X : Cx) (scope : Scope) (cl : List (Str × Addr)) (Nc : List Str) (C : Addr) (s₂ : Shared) (H2 : Hp) (fp : List Addr) : Cx where
  prog := X.prog
  w := X.w
  K := X.K
  mg := X.mg
  base := X.base
  A := X.A
  N := Nc
  s₀ := s₂
  H₀ := H2
  env := compEnvC scope cl C X.env
  outer := X.stack
  stack := X.stack
  ex := fp
  fn := fun _ => false
  calm := true
  pn := []
  xe := fun _ _ => False
noncomputable def inner (σ : St) (fr : List Nat) : St := fr.map fun j => (σ[j]?).join
end L2


set_option Elab.async false
set_option linter.all false
set_option maxRecDepth 100000
/-! list(reversed(xs)); two lists of the same things -/
namespace L2
open PySem PySem.Spec PyProof.Rows
theorem gv_nolen_lri : typeLookup (.type "list_reverseiterator") "__len__" = pure none := by rw [typeLookup_type, builtinLookup_eq_fast]; kernel_rfl
theorem gv_hint_lri : typeLookup (.type "list_reverseiterator") "__length_hint__" = pure (some (.builtin "list_reverseiterator.__length_hint__")) := by rw [typeLookup_type, builtinLookup_eq_fast]; kernel_rfl
section
variable {prog : Program} {w : World} {A : Around} {s : Shared} {R : Result → Shared → Prop}
theorem gv_walks_rev (hh : A.handled = none) (I l : Addr) (hne : l ≠ I) (items : Array Value) :
    WalksS prog w A I [I, l] [I] (fun a b => a = b) items.size (fun i v => items[items.size - 1 - i]? = some v) (fun i s => i ≤ items.size ∧ s.heap.IsRevIter I l ((items.size : Int) - 1 - (i : Int)) ∧ s.heap.IsList l items) where
  sub := fun b hb => by simp at hb; simp [hb]
  grefl := fun _ => rfl
  gtrans := fun _ _ _ h g => h.trans g
  frame := fun _ _ _ _ x _ hk => ⟨x.1, x.2.1.at fun o e => hk I (by simp) o e, x.2.2.at fun o e => hk l (by simp) o e⟩
  item := fun i s Q E hi x hQ => by
    have e : (items.size : Int) - 1 - (i : Int) = ((items.size - 1 - i : Nat) : Int) := by omega
    have hit := x.2.1
    rw [e] at hit
    have hx : items[items.size - 1 - i]? = some (items[items.size - 1 - i]'(by omega)) := Array.getElem?_eq_getElem (by omega)
    refine wpAny_pyNext_rev_item hit x.2.2 hx fun h' hit' hs' => ?_
    have e2 : ((items.size - 1 - i : Nat) : Int) - 1 = (items.size : Int) - 1 - ((i + 1 : Nat) : Int) := by omega
    rw [e2] at hit'
    exact hQ _ { s with heap := h' } hx ⟨hi, hit', x.2.2.at fun o eo => (hs'.2 l hne).trans eo⟩ ⟨fun b o hb eo => hs'.extBut b o (fun h => hb (by simp [h])) eo, rfl, rfl, rfl, Nat.le_refl _⟩
  done := fun s Q E x hQ => by
    have e : (items.size : Int) - 1 - (items.size : Int) = -1 := by omega
    have hit := x.2.1
    rw [e] at hit
    exact wpAny_pyNext_rev_end hh hit fun h' he' => hQ { s with heap := h' } ⟨fun b o hb eo => he' b o (fun h => hb (by simp [h])) eo, rfl, rfl, rfl, Nat.le_refl _⟩
  self := fun _ _ _ _ x hQ => wpAny_pyIter_revIter x.2.1 hQ
variable {I : Addr} {fp wr : List Addr} {G : Array GenState → Array GenState → Prop} {n : Nat} {P : Nat → Value → Prop} {St : Nat → Shared → Prop}
theorem gv_extend_rev (W : WalksS prog w A.in1 I fp wr G n P St) (hT : ∀ i s, St i s → s.TypeIs (.ref I) "list_reverseiterator") (S : Addr) (res : Value) (c₀ : Nat) (hst : St 0 s) (hSf : S ∉ fp) (hI : I ∈ fp)
    (hS : s.heap.get? S = some { cls := .type "list", data := .seq #[] c₀ })
    (hR : ∀ s' acc' c', Moved (S :: wr) G s s' → s'.heap.get? S = some { cls := .type "list", dict := none, data := .seq acc' c', slots := #[] } → ItemsOf P acc' n → R (.ok (.ret res)) s') (hn : n ≤ sizeLine := by size_fits) :
    wpAny (model prog w) A.in1 (Builtin.List.listExtendWith (.ref S) (.ref I) res)
      (fun fin s' => match fin with | .done f => R (.ok f) s' | .again c' => c'.quiet = true ∧ codeAny (model prog w) A c' R s') (fun e s' => R (.error e) s') s := by
  have hSI : S ≠ I := fun e => hSf (e ▸ hI)
  unfold Builtin.List.listExtendWith
  refine wpAny_bind (wpAny_typeOf (hT 0 _ hst) ?_)
  have h1 : Builtin.List.listSameRef (.ref S) (.ref I) = false := by simp [Builtin.List.listSameRef, hSI]
  rw [if_neg (by rw [h1]; decide)]
  refine wpAny_bind (W.self 0 _ _ _ hst ?_)
  refine wpAny_bind (wpAny_holding ?_)
  unfold Builtin.List.listLengthHint
  refine wpAny_bind (wpAny_specialOf (hT 0 _ hst) gv_nolen_lri ?_)
  show wpAny _ A.in1 (specialOf (Value.ref I) (Str.ofString "__length_hint__") >>= _) _ _ _
  refine wpAny_bind (wpAny_specialOf (hT 0 _ hst) gv_hint_lri ?_)
  generalize hid : ("list_reverseiterator.__length_hint__" : String) = id0
  wp_delta
  rw [show splitId id0 = some ("list_reverseiterator", "__length_hint__") from by subst hid; decide +kernel]
  subst hid
  refine wpAny_bind (wpAny_isInstance (b := true) (hT 0 _ hst) (by rw [isSubtype_type]; kernel_rfl) ?_)
  refine wpAny_pure ?_
  rw [if_neg (by decide)]
  refine wpAny_pure ⟨plainId_quiet F.plain_extend_loop _, codeAny_extend_loopS W hn _ hSf _ n 0 _ _ _ rfl (Nat.zero_le _) hst hS (ItemsOf.nil P) fun s' acc' c' hm hS' hacc => ?_⟩
  exact hR s' acc' c' hm hS' hacc
theorem gv_list_init_rev (W : WalksS prog w A.in1 I fp wr G n P St) (hT : ∀ i s, St i s → s.TypeIs (.ref I) "list_reverseiterator") (S : Addr) (hst : St 0 s) (hSf : S ∉ fp) (hI : I ∈ fp)
    (hS : s.heap.get? S = some { cls := .type "list", data := .seq #[] })
    (hR : ∀ s' acc' c', Moved (S :: wr) G s s' → s'.heap.get? S = some { cls := .type "list", dict := none, data := .seq acc' c', slots := #[] } → ItemsOf P acc' n → R (.ok (.ret .none)) s') (hn : n ≤ sizeLine := by size_fits) :
    wpAny (model prog w) A.in1 (Builtin.«list.__init__» ⟨[.ref S, .ref I], []⟩)
      (fun fin s' => match fin with | .done f => R (.ok f) s' | .again c' => c'.quiet = true ∧ codeAny (model prog w) A c' R s') (fun e s' => R (.error e) s') s := by
  show wpAny _ A.in1 (do let old ← Builtin.List.listItems (.ref S); Builtin.List.listUpdate (.ref S) (fun _ => #[]); letGo old.toList.reverse; Builtin.List.listExtendWith (.ref S) (.ref I) .none) _ _ s
  refine wpAny_bind ?_
  unfold Builtin.List.listItems
  refine wpAny_bind (wpAny_seqItems hS rfl (wpAny_pure ?_))
  show wpAny _ A.in1 (updateSeq S (fun _ => #[]) >>= fun _ => letGo (#[] : Array Value).toList.reverse >>= fun _ => Builtin.List.listExtendWith (.ref S) (.ref I) .none) _ _ s
  refine wpAny_bind (wpAny_updateSeq hS rfl ?_)
  have hS₂ := Heap.get?_update_self (Obj.mapSeq (fun _ => (#[] : Array Value))) hS rfl
  have oth : ∀ b o, b ≠ S → s.heap.get? b = some o → (s.heap.update S (Obj.mapSeq (fun _ => (#[] : Array Value)))).get? b = some o :=
    fun b o hb e => (Heap.get?_update_other _ _ (Ne.symm hb)).trans e
  refine wpAny_bind (wpAny_letGo ?_)
  refine gv_extend_rev (hn := hn) W hT S .none _ (W.frame 0 s _ s.toks hst (Nat.le_refl _) fun b hb o e => oth b o (fun h => hSf (h ▸ hb)) e) hSf hI hS₂ fun s' acc' c' hm hS' hacc => ?_
  exact hR s' acc' c' (Moved.trans W.gtrans ((Moved.refl W.grefl).then_heap (Nat.le_refl _) fun b o hb e => oth b o (fun h => hb (h ▸ List.mem_cons_self)) e) hm) hS' hacc
end
section
variable {prog : Program} {w : World} {A : Around} {E : Value → Shared → Prop} {s : Shared}
variable {I : Addr} {fp wr : List Addr} {G : Array GenState → Array GenState → Prop} {n : Nat} {P : Nat → Value → Prop} {St : Nat → Shared → Prop}
theorem gv_call_list_rev {Q : Value → Shared → Prop} (W : WalksS prog w A.in1.in1 I fp wr G n P St) (hT : ∀ i s, St i s → s.TypeIs (.ref I) "list_reverseiterator") (hst : St 0 s) (hfp : ∀ b ∈ fp, b < s.heap.objs.size) (hI : I ∈ fp)
    (hQ : ∀ s' acc' c', Moved (s.heap.objs.size :: wr) G { s with heap := s.heap.push { cls := .type "list", data := .seq #[] } } s' →
      s'.heap.get? s.heap.objs.size = some { cls := .type "list", dict := none, data := .seq acc' c', slots := #[] } → ItemsOf P acc' n → Q (.ref s.heap.objs.size) s') (hn : n ≤ sizeLine := by size_fits) :
    wpAny (model prog w) A (call (.type "list") [.ref I]) Q E s := by
  have hSf : s.heap.objs.size ∉ fp := fun hm => Nat.lt_irrefl _ (hfp _ hm)
  refine callType_codes (Q₁ := fun obj s₁ => obj = .ref s.heap.objs.size ∧ s₁ = { s with heap := s.heap.push { cls := .type "list", data := .seq #[] } }) F.called_list (F.typeCall_list_1 _) F.entry_list_init
    (code_list_new _ ⟨rfl, rfl⟩) fun obj s₁ h₁ => ?_
  obtain ⟨rfl, rfl⟩ := h₁
  have hS : (s.heap.push { cls := .type "list", data := .seq #[] }).get? s.heap.objs.size = some { cls := .type "list", data := .seq #[] } := Heap.get?_push_size _ rfl
  refine ⟨⟨_, hS, rfl⟩, F.args_list_init_2 _ _, gv_list_init_rev (hn := hn) W hT _ (W.frame 0 s _ s.toks hst (Nat.le_refl _) fun b _ o e => Heap.get?_push_of_some _ e) hSf hI hS fun s' acc' c' hm hS' hacc => ?_⟩
  exact ⟨rfl, hQ s' acc' c' hm hS' hacc⟩
end
/-- list(reversed(e)), e a list -/
noncomputable def tRev (te : TE) : TE := fun σ H Q => te σ H fun x H1 => ∃ a xs, x = .ref a ∧ H1 a = some (.lst xs) ∧ ∀ l, H1 l = none → Q (.ref l) (upd H1 l (.lst xs.reverse))
theorem rev_items {its : List Value} {acc : Array Value} (h : ItemsOf (fun i v => its.toArray[its.toArray.size - 1 - i]? = some v) acc its.toArray.size) : acc.toList = its.reverse := by
  obtain ⟨h1, h2⟩ := h
  have sz : its.toArray.size = its.length := by simp
  refine List.ext_getElem? fun j => ?_
  by_cases hj : j < acc.size
  · have e := h2 j acc[j] (Array.getElem?_eq_getElem hj)
    rw [Array.getElem?_toList, Array.getElem?_eq_getElem hj]
    rw [sz] at h1 e
    rw [List.getElem?_reverse (by omega)]
    rw [← e]
    simp
  · rw [Array.getElem?_toList, Array.getElem?_eq_none (by omega), List.getElem?_eq_none (by rw [List.length_reverse]; omega)]
theorem pe_listrev {X : Cx} {e : Expr} {te : TE} {p1 p2 pos pos2 : Pos} (hc : X.calm = true) (hgL : Gl X "list") (hmL : X.mg "list" = none) (hgR : Gl X "reversed") (hmR : X.mg "reversed" = none) (ha : PE X e te) (hs : noStar e = true := by rfl) :
    PE X (.Call (.Name "list" p1) [.Call (.Name "reversed" p2) [e] [] pos2] [] pos) (tRev te) := by
  intro pins s σ H Q I h
  refine wpAny_Call_Name_kw (ld_blt I hgL hmL boot_list ?_)
  refine PyProof.Rows.callWith_type1 ?_ rfl rfl
  rw [star_cons (show noStar (.Call (.Name "reversed" p2) [e] [] pos2) = true from rfl)]
  show wpAny _ _ (spliced ((false, eval (.Call (.Name "reversed" p2) [e] [] pos2) X.env) :: backTo pos (starEach [] X.env))) _ _ s
  refine Calls.spliced_cons (wpAny_Call_Name_kw (ld_blt I hgR hmR boot_reversed ?_))
  refine PyProof.Rows.callWith_type1 ?_ (star_cons hs) rfl
  rw [star_cons hs]
  show wpAny _ _ (spliced ((false, eval e X.env) :: backTo pos2 (starEach [] X.env))) _ _ s
  refine Calls.spliced_cons (thn (ha pins s σ H _ I h) fun u s1 zz => ?_)
  obtain ⟨x, H1, I1, r1, q1⟩ := zz
  obtain ⟨a, xs, ex, ha1, q⟩ := q1
  subst ex
  cases r1
  refine Calls.spliced_nil ?_
  obtain ⟨_, its, n, rv, hl, e1⟩ := I1.lstM ha1
  refine call_reversed_list (items := its.toArray) ⟨_, e1, rfl, n, rfl⟩ ?_
  refine Calls.spliced_nil ?_
  -- the iterator is there, untracked
  have hh : X.A.handled = none := I1.ok.hd hc
  have alt : a < s1.heap.objs.size := Heap.lt_size e1
  have kp : ∀ b o, s1.heap.get? b = some o → (s1.heap.push (revObj a ((its.toArray.size : Int) - 1))).get? b = some o := fun b o e => Heap.get?_push_of_some _ e
  have hit : (s1.heap.push (revObj a ((its.toArray.size : Int) - 1))).get? s1.heap.objs.size = some (revObj a ((its.toArray.size : Int) - 1)) := Heap.get?_push_size _ rfl
  have I2 : Inv X pins σ H1 { s1 with heap := s1.heap.push (revObj a ((its.toArray.size : Int) - 1)) } := I1.kept (t' := s1.toks) kp
  have W := gv_walks_rev (prog := X.prog) (w := X.w) (A := X.A.in1.in1) hh s1.heap.objs.size a (Nat.ne_of_lt alt) its.toArray
  have sz2 : (s1.heap.push (revObj a ((its.toArray.size : Int) - 1))).objs.size = s1.heap.objs.size + 1 := Heap.size_push ..
  refine gv_call_list_rev (s := { s1 with heap := s1.heap.push (revObj a ((its.toArray.size : Int) - 1)) }) W (fun i s st => st.2.1.typeIs) ⟨Nat.zero_le _, ⟨_, hit, rfl, by show Data.fields _ = Data.fields _; simp⟩, ⟨_, kp _ _ e1, rfl, n, rfl⟩⟩ (fun b hb => ?_) (by simp) (fun s' acc' c' hm hS' hacc => ?_) ?_
  · show b < (s1.heap.push (revObj a ((its.toArray.size : Int) - 1))).objs.size
    rw [sz2]
    rcases List.mem_cons.mp hb with z | z
    · rw [z]; exact Nat.lt_succ_self _
    · rw [List.mem_singleton.mp z]; exact Nat.lt_succ_of_lt alt
  · have hS : H1 (s1.heap.push (revObj a ((its.toArray.size : Int) - 1))).objs.size = none := I2.hok.fresh (Nat.le_refl _)
    have hn0 : H1 s1.heap.objs.size = none := I1.hok.fresh (Nat.le_refl _)
    have old : ∀ b o, b ≠ s1.heap.objs.size → (s1.heap.push (revObj a ((its.toArray.size : Int) - 1))).get? b = some o → s'.heap.get? b = some o := fun b o hb e =>
      hm.heap b o (fun z => by
        rcases List.mem_cons.mp z with z | z
        · exact absurd (Heap.lt_size e) (by rw [z]; exact Nat.lt_irrefl _)
        · exact hb (List.mem_singleton.mp z)) (Heap.get?_push_of_some _ e)
    have neS : ∀ b o, (s1.heap.push (revObj a ((its.toArray.size : Int) - 1))).get? b = some o → b ≠ (s1.heap.push (revObj a ((its.toArray.size : Int) - 1))).objs.size := fun b o e => Nat.ne_of_lt (Heap.lt_size e)
    have tr : ∀ b u, H1 b = some u → b ≠ (s1.heap.push (revObj a ((its.toArray.size : Int) - 1))).objs.size ∧ b ≠ s1.heap.objs.size := fun b u e => ⟨ne_of_none e hS, ne_of_none e hn0⟩
    have items := rev_items hacc
    have hok : HOk X.prog X.w (upd H1 (s1.heap.push (revObj a ((its.toArray.size : Int) - 1))).objs.size (.lst xs.reverse)) s'.heap := fun b u e => by
      by_cases hb : b = (s1.heap.push (revObj a ((its.toArray.size : Int) - 1))).objs.size
      · subst hb
        rw [upd_same] at e
        cases e
        refine ⟨by rw [List.length_reverse, hl]; have := (show its.length ≤ sizeLine from by rw [← hl]; exact (I1.lstM ha1).1); exact this, its.reverse, c', rv.reverse, ?_⟩
        rw [← items]
        exact hS'
      · rw [upd_ne hb] at e
        refine (I2.hok b u e).stay (fun c v hc' q => old c v ?_ q) (fun c z => by rw [upd_ne (tr c _ z).1]; exact z) fun c ys z => by rw [upd_ne (tr c _ z).1]; exact z
        rcases hc' with z | z
        · rw [z]; exact (tr b u e).2
        · exact (tr c _ z).2
    obtain ⟨hh', g', d', t', os'⟩ := s'
    have e1' : os' = s1.os := hm.os
    have e2' : s1.gens = g' := hm.gens
    subst e1'
    have J := I2.step (h' := hh') (H' := upd H1 (s1.heap.push (revObj a ((its.toArray.size : Int) - 1))).objs.size (.lst xs.reverse)) (ch := [s1.heap.objs.size]) (g' := g') (t' := t') (d' := d') (fun b hb => by
        rw [List.mem_singleton.mp hb]
        refine ⟨.inr I1.sz, Nat.ne_of_gt I1.lt, fun z c ec => ?_, fun p hp => ?_⟩
        · obtain ⟨v', hcell⟩ := I1.cell z c ec
          exact Nat.ne_of_lt hcell.lt
        · exact Nat.ne_of_lt (Heap.lt_size (I1.pin p hp).1)) (fun b o _ _ hc' e _ => old b o (fun z => hc' (by simp [z])) e) (fun b o _ _ hc' e _ => ⟨o.slots, old b o (fun z => hc' (by simp [z])) e⟩)
      (fun b o _ e n => by rw [upd_ne (neS b o e)]; exact n) (fun b o hc' e => ⟨o, old b o (fun z => hc' (by simp [z])) e⟩) (fun b ys z => by rw [upd_ne (tr b _ z).1]; exact z) (fun b o' ys z => by rw [upd_ne (tr b _ z).1]; exact z)
      (fun b ps z => ⟨#[], by rw [upd_ne (tr b _ z).1, z]; simp⟩) (fun m hm' => by
        obtain ⟨o, es, ep, ho, r⟩ := hm'
        exact ⟨o, es, ep, old _ o (Nat.ne_of_lt I1.lt) ho, r⟩) hok (by rw [← e2']; exact I1.bare)
    exact ⟨.ref _, _, J, rfl, q _ hS⟩
  · have := (I1.lstM ha1).1
    rw [List.size_toArray, ← hl]; exact this
namespace R
variable {X : Cx}
theorem pe_listrev {e : Expr} {te : TE} {p1 p2 pos pos2 : Pos} (hc : X.calm = true) (hgL : Gl X "list") (hmL : X.mg "list" = none) (hgR : Gl X "reversed") (hmR : X.mg "reversed" = none) (ha : QE X e te) (hs : noStar e = true := by rfl) :
    QE X (.Call (.Name "list" p1) [.Call (.Name "reversed" p2) [e] [] pos2] [] pos) (tRev te) := ⟨L2.pe_listrev hc hgL hmL hgR hmR ha.h hs⟩
end R
end L2
namespace L2
open PySem PySem.Spec PyProof.Rows
end L2
namespace L2
open PySem PySem.Spec PyProof.Rows
end L2


set_option Elab.async false
set_option linter.all false
set_option maxRecDepth 100000
/-! raise, try, except, isinstance: exceptions of own classes -/
namespace L2
open PySem PySem.Spec PyProof.Rows PySem.W

/-! ### an exception of an own class on its way -/


section
open Builtin Builtin.ObjectAttr Builtin.Getset_descriptor
variable {prog : Program} {w : World} {A : Around} {E : Value → Shared → Prop} {h : Heap} {g : Array GenState} {d : Drawn} {t : Nat} {os : OsState} {a C : Addr} {o : Obj} {K : Frag}
theorem exc_check_ga {M : Model} {nameV : Value} {Q : Unit → Shared → Prop} (X : K.In h) (hm : mroIn K C (.type "BaseException") = some true)
    (hx : h.get? a = some o) (hc : o.cls = .ref C) (hq : Q () ⟨h, g, d, t, os⟩) : wpAny M A (checkBuiltinCall "BaseException.__getattribute__" ⟨[.ref a, nameV], []⟩) Q E ⟨h, g, d, t, os⟩ := by
  have hk : builtinKind "BaseException.__getattribute__" = some .slot := by decide +kernel
  have hsplit : splitId "BaseException.__getattribute__" = some ("BaseException", "__getattribute__") := by decide +kernel
  have L := looks_mroIn (M := M) X hm
  have ha := F.args_bexc_ga (.ref a) nameV
  simp only [checkBuiltinCall, hk, hsplit]
  refine wpAny_bind ?_
  · unfold isInstance
    repeat (first | (with_reducible refine wpAny_loadPart_at hx ?_; rw [hc]) | (with_reducible refine L.at ?_) | wp_step)
    exact hq

theorem exc_class_get {tp : Value} {R : Result → Shared → Prop} (X : K.In h) (hx : h.get? a = some o) (hc : o.cls = .ref C) (hm : mroIn K C (.type "object") = some true)
    (hq : R (.ok (.ret (.ref C))) ⟨h, g, d, t, os⟩) : codeAny (model prog w) A (.call (.builtin "getset_descriptor.__get__") ⟨[.builtin "object.__class__", .ref a, tp], []⟩) R ⟨h, g, d, t, os⟩ := by
  have L0 : Looks (model prog w) h (typeOf (.ref a)) (.ref C) := hc ▸ (Looks.ld hx).andThen .now
  have L1 := looks_mroIn (M := model prog w) X hm
  refine codeAny_call_builtin KF.slot_gs.plain KF.entry_gs (KF.slot_gs.check _ _ _ _ _ _ _ _ KF.type_class (KF.args_gs _ _ _) ?_)
  unfold Builtin.«getset_descriptor.__get__» descrGet
  rw [dga_obj]
  refine wpAny_bind (wpAny_pure ?_)
  unfold descrGetter descrCheckInstance descrNameAndClass isInstance
  simp only [KF.owner_class]
  repeat lk
  refine ⟨Code.quiet_builtin _ (by decide +kernel), codeAny_builtin KF.entry_class ?_⟩
  unfold Builtin.«object.__class__» shownTypeOf
  repeat lk
  exact hq

theorem exc_entry {tk : Tok} {Q : Fin → Shared → Prop} (X : K.In h) (hx : h.get? a = some o) (hc : o.cls = .ref C) (hm : mroIn K C (.type "object") = some true) (ha : findIn K (.ref C) "__class__" = some (some (.builtin "object.__class__")))
    (hq : Q (.done (.ret (.ref C))) ⟨h, g, d, t, os⟩) :
    wpAny (model prog w) A (Builtin.«object.__getattribute__» ⟨[.ref a, .str "__class__" tk], []⟩) Q E ⟨h, g, d, t, os⟩ := by
  have hT5 : (⟨h, g, d, t, os⟩ : Shared).TypeIs (.builtin "object.__class__") "getset_descriptor" := KF.type_class
  have f5 := KF.type_class
  have f6 := F.slot_gs_get.lookup
  have f7 := F.slot_gs_set.lookup
  have L := looks_findIn (M := model prog w) X ha
  repeat (any_goals (first | assumption | (with_reducible refine wpAny_loadPart_at hx ?_; rw [hc]) | with_reducible refine L.at ?_ | wp_step))
  refine exc_class_get X hx hc hm ?_
  repeat (any_goals (first | assumption | wp_step))
theorem exc_by {tk : Tok} {Q : Value → Shared → Prop} (X : K.In h) (hx : h.get? a = some o) (hc : o.cls = .ref C) (hm : mroIn K C (.type "object") = some true) (hb : mroIn K C (.type "BaseException") = some true)
    (ha : findIn K (.ref C) "__class__" = some (some (.builtin "object.__class__"))) (hga : findIn K (.ref C) "__getattribute__" = some (some (.builtin "BaseException.__getattribute__"))) (hgt : findIn K (.ref C) "__getattr__" = some none)
    (hq : Q (.ref C) ⟨h, g, d, t, os⟩) : wpAny (model prog w) A (getAttrBy (.ref a) (.str "__class__" tk) false false) Q E ⟨h, g, d, t, os⟩ := by
  have FB := F.attr_ValueError
  have f3 := FB.ga.bind (.ref a)
  have hx0 : (false && onTheHeap (Value.builtin "BaseException.__getattribute__")) = false := rfl
  have hx2 : (Value.builtin "BaseException.__getattribute__" == Value.builtin "object.__getattribute__") = false := by decide +kernel
  have hx1 : (onTheHeap (Value.ref C) && Value.builtin "BaseException.__getattribute__" == Value.builtin "object.__getattribute__") = false := by rw [hx2]; rfl
  have L1 := looks_findIn (M := model prog w) X hga
  have L2 := looks_findIn (M := model prog w) X hgt
  repeat (any_goals (first | assumption | (with_reducible refine wpAny_loadPart_at hx ?_; rw [hc]) | with_reducible refine L1.at ?_ | with_reducible refine L2.at ?_ | wp_step))
  refine codeAny_call_builtin FB.ga.plain F.entry_bexc_ga (exc_check_ga X hb hx hc (exc_entry X hx hc hm ha ?_))
  repeat (any_goals (first | assumption | wp_step))
theorem exc_ca {Q : Option Value → Shared → Prop} (X : K.In h) (hx : h.get? a = some o) (hc : o.cls = .ref C) (hm : mroIn K C (.type "object") = some true) (hb : mroIn K C (.type "BaseException") = some true)
    (ha : findIn K (.ref C) "__class__" = some (some (.builtin "object.__class__"))) (hga : findIn K (.ref C) "__getattribute__" = some (some (.builtin "BaseException.__getattribute__"))) (hgt : findIn K (.ref C) "__getattr__" = some none)
    (hq : Q (some (.ref C)) ⟨h, g, d, t + 1, os⟩) : wpAny (model prog w) A (getAttr? (.ref a) "__class__") Q E ⟨h, g, d, t, os⟩ := by
  unfold getAttr? getAttrBy?
  refine wpAny_bind (wpAny_mkText (wpAny_bind (wpAny_attempt ?_)))
  exact exc_by X hx hc hm hb ha hga hgt (wpAny_pure hq)
/-- what of the text's class of exceptions isinstance asks -/
structure ExK (K : Frag) (C : Addr) : Prop where
  obj : mroIn K C (.type "object") = some true
  exc : mroIn K C (.type "BaseException") = some true
  att : findIn K (.ref C) "__class__" = some (some (.builtin "object.__class__"))
  ga : findIn K (.ref C) "__getattribute__" = some (some (.builtin "BaseException.__getattribute__"))
  gt : findIn K (.ref C) "__getattr__" = some none
theorem ExK.cls {K : Frag} {C : Addr} (Z : ExK K C) : (clsIn K C).isSome = true := by
  have e := Z.obj
  unfold mroIn at e
  cases h : clsIn K C with
  | none => rw [h] at e; cases e
  | some c => rfl
noncomputable def ExcIs (a C : Addr) (h : Heap) : Prop := ∃ o, h.get? a = some o ∧ o.cls = .ref C
theorem kitx_exc (Z : ExK K C) : KitX K (.ref a) (.ref C) (ExcIs a C) where
  ty := fun _ _ _ ⟨_, h1, h2⟩ => h2 ▸ (Looks.ld h1).andThen .now
  it := fun _ _ X _ => by
    obtain ⟨cdD, hcD⟩ := Option.isSome_iff_exists.mp Z.cls
    unfold clsIn at hcD
    split at hcD
    · rename_i c' d' cd' sl' ho
      intro A' Q' E' s' k q
      unfold isType loadHead
      exact wpAny_bind (wpAny_loadPart (k _ _ (X _ _ ho)) (wpAny_pure q))
    · cases hcD
  ne := fun h tp dd its n sl X htp => by
    obtain ⟨cdD, hcD⟩ := Option.isSome_iff_exists.mp Z.cls
    refine Bool.eq_false_iff.mpr fun q => ?_
    have e : C = tp := Value.ref.inj (beq_iff_eq.mp q)
    subst e
    unfold clsIn at hcD
    split at hcD
    · rename_i c' d' cd' sl' ho
      have z := (X _ _ ho).symm.trans htp
      cases z
    · cases hcD
  ca := fun {_ _ _ _ _ s} X ⟨_, h1, h2⟩ k => by
    obtain ⟨h, g, d, t, os⟩ := s
    exact exc_ca X h1 h2 Z.obj Z.exc Z.att Z.ga Z.gt k
end

/-! ### isinstance of an exception -/

/-! ### calls where an exception is handled -/
structure RoomH (k : Nat) (A : Around) : Prop where
  dp : A.depth + 3 * k + 5 < recursionLimit
  un : A.units + 16 * k + 200 < cLine
noncomputable abbrev unh (A : Around) : Around := { A with handled := none }
theorem RoomH.room {k : Nat} {A : Around} (r : RoomH k A) : Room k (unh A) := ⟨rfl, r.dp, r.un⟩
structure FnOkH (P : Program) (w : World) (K : PySem.W.Frag) (mg : Str → Option Value) (base : Heap) (k : Nat) (f : Addr) (fd : FuncData) (ps : List Str) (sp : Sp) : Prop where
  len : ∀ vs H Q E, sp vs H Q E → vs.length = ps.length
  run : ∀ (A : Around) (outer : List Env) (s : Shared) (H : Hp) (args : Args) (us : List Value) (vs : List V) (Q : VK) (E : XK), RoomH k A → Env0 P w K mg base A outer s H → BindsTo s fd args (ps.zip us) → Vals vs us → sp vs H Q E →
    codeAny (model P w) A (.call (.ref f) args) (CR CX0 outer P w H s Q E) s
noncomputable abbrev cxH (P : Program) (w : World) (K : PySem.W.Frag) (mg : Str → Option Value) (base : Heap) (N : List Str) (qual : Str) (scope : Scope) (f : Addr) (cd : Value) (A : Around) (outer : List Env) (s : Shared) (H : Hp) : Cx :=
  { cxOf CX0 P w K mg base N qual scope f cd A outer s H E0 with calm := false, xe := fun _ _ => False }
theorem fnh_of {P : Program} {w : World} {K : PySem.W.Frag} {mg : Str → Option Value} {base : Heap} {k : Nat} {f : Addr} {name qual : Str} {params : Arguments} {body : List Stmt} {scope : Scope} {dV kV doc pm cdv ct oc : Value} {an od : Option Addr}
    {osl : Array (Option Value)} {N ps : List Str} {sp : Sp} (lk : K.lookup f = some ⟨oc, od, .func (PySem.W.fnOf name qual params body scope dV kV doc pm an cdv ct), osl⟩) (hcd : PySem.W.codeIn K cdv qual = true) (S : FnScope N ps scope)
    (len : ∀ vs H Q E, sp vs H Q E → vs.length = ps.length)
    (hbody : ∀ (A : Around) (outer : List Env) (s : Shared) (H : Hp) (vs : List V) (Q : VK) (E : XK), RoomH k (A.deeper (envOfC qual scope s.heap.objs.size f cdv)) → sp vs H Q E →
      ∃ t, PSs (cxH P w K mg base N qual scope f cdv A outer s H) body t ∧ t { nx := fun _ H' => Q .non H', rt := Q } (start N vs) H) :
    FnOkH P w K mg base (k + 1) f (PySem.W.fnOf name qual params body scope dV kV doc pm an cdv ct) ps sp := by
  refine ⟨len, fun A outer s H args us vs Q E hr e0 hb r hsp => ?_⟩
  have hl := len _ _ _ _ hsp
  have KX : K.In s.heap := e0.mod.kin.keeps fun b o e => (e0.bs b o e).1
  have lim : s.heap.NoLimit := e0.mod.nolimit.keeps fun b o e => (e0.bs b o e).1
  have hkind : ∀ y ∈ ps.zip us, scope.names.lookup y.1 = some .local ∨ (scope.names.lookup y.1 = some .cell ∧ ((cellsFrom (s.heap.objs.size + 1) scope.names []).lookup y.1).isSome = true) := fun ⟨n, v⟩ hy => by
    rcases S.par n (List.of_mem_zip hy).1 with q | q
    · exact .inl q
    · exact .inr ⟨q, PySem.W.cellsFrom_some _ _ _ (.inl q)⟩
  refine codeAny_call_function hr.room.depth (KX _ _ lk) rfl S.co S.gen rfl (PySem.W.codeRec_of KX hcd) (hb _ _ _ _ ?_)
  refine wpAny_newFunctionEnv_cells S.kind hkind fun env he s1 x => ?_
  subst he
  refine ⟨lim.keeps x.toInCall.keep, codeAny_func ?_⟩
  obtain ⟨t, ht, hq⟩ := hbody A outer s H vs Q E ⟨(hr.room.deeper (envOfC qual scope s.heap.objs.size f cdv)).dp, (hr.room.deeper (envOfC qual scope s.heap.objs.size f cdv)).un⟩ hsp
  have e1 : Env0 P w K mg base (unh A) outer s H := ⟨e0.frames, e0.mod, e0.bs, e0.bsz, e0.funs, e0.frf, e0.hok, e0.bare⟩
  have I0 : Inv (cxOf CX0 P w K mg base N qual scope f cdv (unh A) outer s H E) [] (start N vs) H s1 := inv_start S rfl e1 hl r x
  have I : Inv (cxH P w K mg base N qual scope f cdv A outer s H) [] (start N vs) H s1 :=
    ⟨⟨I0.ok.mod, I0.ok.kind, I0.ok.glob, I0.ok.blt, I0.ok.above, I0.ok.inj, I0.ok.has, I0.ok.cab, fun z => (nomatch z), Around.frames_deeper e0.frames, I0.ok.stk, I0.ok.exf, I0.ok.bs, I0.ok.bsz, I0.ok.noex, I0.ok.exfs, I0.ok.funs, I0.ok.frf⟩,
      I0.os, I0.bare, I0.base, I0.loc, I0.cell, I0.free, I0.freeC, I0.pin, I0.hok, I0.len⟩
  refine wpAny_mono (ht [] s1 (start N vs) H _ I hq) (fun fl s' hs => ?_) fun e s' hs => hs.elim
  have fin : ∀ {σ' : St} {H' : Hp} {v : V} {u : Value}, Inv (cxH P w K mg base N qual scope f cdv A outer s H) [] σ' H' s' → RelV v u → Q v H' → CE outer P w H s Q u s' :=
    fun {σ' H' v u} J rv q => ⟨v, H', J.os, J.bare, J.base, J.hok, rv, q⟩
  cases fl with
  | ret u =>
    obtain ⟨v, σ', H', J, rv, q⟩ := hs
    exact fin J rv q
  | next =>
    obtain ⟨σ', H', J, q⟩ := hs
    exact fin (v := V.non) (u := Value.none) J rfl q
  | brk =>
    obtain ⟨_, _, _, q⟩ := hs
    exact False.elim q
  | cont =>
    obtain ⟨_, _, _, q⟩ := hs
    exact False.elim q
theorem pe_callH {X : Cx} {k : Nat} {f : Addr} {fd : FuncData} {ps : List Str} {sp : Sp} {x : Str} {p pos : Pos} {e : Expr} {es : List Expr} {t : TA} (F : FnOkH X.prog X.w X.K X.mg X.base k f fd ps sp) (hr : RoomH k X.A) (hg : Gl X x) (hm : X.mg x = some (.ref f))
    (hk : PySem.W.keepIn X.K (.ref f) = true) (hb : Binds X.K fd ps []) (ha : PA X (e :: es) t) (hs : (e :: es).all noStar = true := by rfl) (hdb : (x == ("__debug__" : Str)) = false := by decide) :
    PE X (.Call (.Name x p) (e :: es) [] pos) (tCall sp [] E0 t) := by
  intro pins s σ H Q I h
  refine wpAny_Call_Name_kw (ld_glob I hg hm ?_ hdb)
  refine PySem.W.callWith_K (h₀ := X.base) I.ok.mod.kin hk (thn (ha pos pins s σ H _ I h) fun us s1 ⟨vs, H1, I1, r, q⟩ => ⟨I1.kIn, ?_⟩) (star_cons (all_cons1 hs).1) (star_any (all_cons1 hs).2)
  have q' : sp vs H1 Q E0 := by
    have q2 : sp (vs ++ []) H1 Q E0 := q
    rw [List.append_nil] at q2; exact q2
  have hl : us.length = ps.length := by rw [← r.length]; exact F.len _ _ _ _ q'
  refine wpAny_call (codeAny_mono (F.run X.A X.stack s1 H1 ⟨us, []⟩ us vs Q E0 hr I1.env0 (by have := hb s1 us I1.kIn (by rw [List.append_nil]; exact hl); rw [List.append_nil] at this; exact this) r q') fun r s' hq => ?_)
  cases r with
  | error e => exact hq.elim
  | ok fl =>
    cases fl with
    | ret u => exact I1.after hq
    | next => exact False.elim hq
    | brk => exact False.elim hq
    | cont => exact False.elim hq
/-! ### except D as n: D an own class; the suite returns -/
section
variable {M : Model} {A : Around} {E : Value → Shared → Prop} {h : Heap} {g : Array GenState} {d : Drawn} {t : Nat} {os : OsState} {a C D : Addr} {o oD : Obj} {K : Frag} {dD : Option Addr} {cD : ClassData} {sD : Array (Option Value)}
theorem exc_matches {Q : Bool → Shared → Prop} (X : K.In h) (he : h.get? a = some o) (hc : o.cls = .ref C) (hD : K.lookup D = some ⟨.type "type", dD, .cls cD, sD⟩) (hb : mroIn K D (.type "BaseException") = some true) (hs : mroIn K C (.ref D) = some true)
    (hq : Q true ⟨h, g, d, t, os⟩) : wpAny M A (excMatches (.ref a) (.ref D)) Q E ⟨h, g, d, t, os⟩ := by
  have f := tc_notTuple
  have L1 := looks_mroIn (M := M) X hb
  have L2 := looks_mroIn (M := M) X hs
  have hD' := X _ _ hD
  unfold excMatches
  repeat (first | (with_reducible refine wpAny_loadPart_at he ?_; rw [hc]) | with_reducible refine wpAny_loadPart_at hD' ?_ | with_reducible refine L1.at ?_ | with_reducible refine L2.at ?_ | wp_step)
  exact hq
end
/-- a class that an except clause may name -/
structure ExD (K : Frag) (D : Addr) : Prop where
  ex : ∃ dD cD sD, K.lookup D = some ⟨.type "type", dD, .cls cD, sD⟩
  exc : mroIn K D (.type "BaseException") = some true
noncomputable abbrev Cx.handling (X : Cx) (e : Value) : Cx := { X with A := X.A.mark (some e), calm := false, xe := fun _ _ => False }
theorem Inv.handling {X : Cx} {pins : List (Addr × Obj)} {σ : St} {H : Hp} {s : Shared} (I : Inv X pins σ H s) (e : Value) : Inv (X.handling e) pins σ H s :=
  ⟨⟨I.ok.mod, I.ok.kind, I.ok.glob, I.ok.blt, I.ok.above, I.ok.inj, I.ok.has, I.ok.cab, fun z => (nomatch z), I.ok.frames, I.ok.stk, I.ok.exf, I.ok.bs, I.ok.bsz, I.ok.noex, I.ok.exfs, I.ok.funs, I.ok.frf⟩,
    I.os, I.bare, I.base, I.loc, I.cell, I.free, I.freeC, I.pin, I.hok, I.len⟩
/-- the names are forgotten -/
theorem Inv.forget {X : Cx} {e : Value} {pins : List (Addr × Obj)} {σ : St} {H : Hp} {s : Shared} {h' : Heap} {m' : Str → Option Value} {t' : Nat} (ok : X.Ok) (J : Inv (X.handling e) pins σ H s) (ns : h'.Ns X.env.locals m') (sb : Heap.SameBut X.env.locals s.heap h') :
    Inv X pins (List.replicate X.N.length none) H { s with heap := h', toks := t' } := by
  have neL : ∀ b o, X.s₀.heap.get? b = some o → b ≠ X.env.locals := fun b o e => Nat.ne_of_lt (Nat.lt_of_lt_of_le (Heap.lt_size e) ok.above)
  have k : ∀ b o, b ≠ X.env.locals → s.heap.get? b = some o → h'.get? b = some o := fun b o hb q => (sb.2 b hb).trans q
  have hb0 : Un X.fs X.ex X.H₀ H X.s₀.heap s.heap := J.base
  refine ⟨ok, J.os, J.bare, ⟨fun b o q n hb hx => k b o (neL b o q) (hb0.keep b o q n hb hx), fun b o q n hb hx => ?_, hb0.free, fun b o q hx => ?_, hb0.tups, hb0.frzs, hb0.tbls⟩, ⟨m', ns, fun i x v _ z _ => ?_⟩, fun x c z => ?_, J.free, J.freeC, fun p hp => ?_, fun a o z => ?_, List.length_replicate⟩
  · obtain ⟨sl, e1⟩ := hb0.slot b o q n hb hx
    exact ⟨sl, k b _ (neL b o q) e1⟩
  · obtain ⟨o', e1⟩ := hb0.there b o q hx
    exact ⟨o', k b _ (neL b o q) e1⟩
  · rw [List.getElem?_replicate] at z
    split at z <;> cases z
  · obtain ⟨v, o, e1, e2⟩ := J.cell x c z
    exact ⟨v, o, k c o (J.cne x c z) e1, e2⟩
  · obtain ⟨p1, p2, p3, p4, p5⟩ := J.pin p hp
    exact ⟨k _ _ p3 p1, p2, p3, p4, p5⟩
  · refine (J.hok a o z).stay (fun b u hb q => k b u (fun y => ?_) q) (fun _ q => q) fun _ _ q => q
    have fr : H X.env.locals = none := J.free
    rcases hb with r | r
    · subst r; rw [y, fr] at z; cases z
    · rw [y, fr] at r; cases r


/-! ### the text's own class, by the written part -/

/-! ### defs that raise, defs that are called in a handler -/
structure DefH (P : Program) (w : World) (K : PySem.W.Frag) (mg : Str → Option Value) (base : Heap) (k : Nat) (x : Str) (ps : List Str) (sp : Sp) : Prop where
  ex : ∃ (f : Addr) (fd : FuncData), FnOkH P w K mg base k f fd ps sp ∧ Binds K fd ps [] ∧ PySem.W.keepIn K (.ref f) = true ∧ mg x = some (.ref f)
section
variable {P : Program} {w : World} {K : PySem.W.Frag} {mg : Str → Option Value} {base : Heap}
theorem Fun.def_H {x qual : Str} {st : Stmt} {f : Addr} {fd : FuncData} {N ps : List Str} {k : Nat} {sp : Sp} (F : Fun K x qual st f fd) (m : mg x = some (.ref f)) (b : Binds K fd ps []) (S : FnScope N ps (defScope st)) (len : ∀ vs H Q E, sp vs H Q E → vs.length = ps.length)
    (hbody : ∀ (cdv : Value) (A : Around) (outer : List Env) (s : Shared) (H : Hp) (vs : List V) (Q : VK) (E : XK), RoomH k (A.deeper (envOfC qual (defScope st) s.heap.objs.size f cdv)) → sp vs H Q E →
      ∃ t, QSs (cxH P w K mg base N qual (defScope st) f cdv A outer s H) (defBody st) t ∧ t { nx := fun _ H' => Q .non H', rt := Q } (start N vs) H) : DefH P w K mg base (k + 1) x ps sp := by
  refine ⟨f, fd, ?_, b, F.kp, m⟩
  obtain ⟨oc, od, kV, doc, pm, an, cdv, ct, osl, rfl, lk, hcd⟩ := F.ex
  refine fnh_of lk hcd S len fun A outer s H vs Q E hr hsp => ?_
  obtain ⟨t, h, q⟩ := hbody cdv A outer s H vs Q E hr hsp
  exact ⟨t, h.h, q⟩
end
theorem markH {j k : Nat} {A : Around} {v : Option Value} (r : Room j A) (h : k ≤ j) : RoomH k (A.mark v) := ⟨(r.mono h).dp, (r.mono h).un⟩
namespace R
section
variable {X : Cx} {e : Expr} {es : List Expr} {te : TE} {t : TA} {pos p : Pos}
theorem pe_callH {k : Nat} {x : Str} {ps : List Str} {sp : Sp} (D : DefH X.prog X.w X.K X.mg X.base k x ps sp) (hr : RoomH k X.A) (hg : Gl X x) (ha : QA X (e :: es) t) (hs : (e :: es).all noStar = true := by rfl) (hdb : (x == ("__debug__" : Str)) = false := by decide) :
    QE X (.Call (.Name x p) (e :: es) [] pos) (tCall sp [] E0 t) := by
  obtain ⟨f, fd, F, b, kp, m⟩ := D.ex
  exact ⟨L2.pe_callH F hr hg m kp b ha.h hs hdb⟩
end
end R
end L2


set_option Elab.async false
set_option linter.all false
set_option maxRecDepth 100000
/-! an exception that passes through a def; raises in loops -/
namespace L2
open PySem PySem.Spec PyProof.Rows PySem.W
section
variable {P : Program} {w : World} {K : PySem.W.Frag} {mg : Str → Option Value} {base : Heap}
end
namespace R
end R
end L2


set_option Elab.async false
set_option linter.all false
set_option maxRecDepth 100000
/-! [elt for target in iter if test], anywhere -/
namespace L2
open PySem PySem.Spec PyProof.Rows
/-! ### the cells that a comprehension takes from around it -/
noncomputable def clOf (cells : List (Str × Addr)) : List (Str × NameKind) → List (Str × Addr) → List (Str × Addr)
  | [], acc => acc
  | (n, k) :: r, acc => if (k == .free) = true then clOf cells r ((n, (cells.lookup n).getD 0) :: acc) else clOf cells r acc
theorem clOf_run {env : Env} : ∀ (names : List (Str × NameKind)) (acc : List (Str × Addr)), (∀ y ∈ names, y.2 = .free → ∃ c, env.cells.lookup y.1 = some c) →
    (forIn names acc fun (x : Str × NameKind) (r : List (Str × Addr)) => (if (x.2 == .free) = true then do let a ← cellOf env x.1; pure (ForInStep.yield ((x.1, a) :: r)) else pure (ForInStep.yield r) : Sem (ForInStep (List (Str × Addr))))) = (pure (clOf env.cells names acc) : Sem _)
  | [], acc, _ => rfl
  | (n, k) :: r, acc, h => by
    have ih := fun acc => clOf_run (env := env) r acc fun y hy => h y (List.mem_cons_of_mem _ hy)
    rw [List.forIn_cons]
    cases hk : (k == NameKind.free) with
    | false =>
      have e1 : clOf env.cells ((n, k) :: r) acc = clOf env.cells r acc := by
        show (if (k == NameKind.free) = true then _ else _) = _
        rw [hk]; rfl
      rw [e1, ← ih acc]
      rfl
    | true =>
      have hk' : k = .free := by simpa using hk
      obtain ⟨c, hc⟩ := h (n, k) List.mem_cons_self hk'
      have e1 : clOf env.cells ((n, k) :: r) acc = clOf env.cells r ((n, c) :: acc) := by
        show (if (k == NameKind.free) = true then clOf env.cells r ((n, (env.cells.lookup n).getD 0) :: acc) else _) = _
        rw [hk, show env.cells.lookup n = some c from hc]; rfl
      rw [e1, ← ih]
      have e2 : cellOf env n = pure c := by
        unfold cellOf
        rw [show env.cells.lookup n = some c from hc]
      rw [show cellOf env (n, k).fst = pure c from e2]; rfl
theorem closure_of {scope : Scope} {env : Env} (h : ∀ y ∈ scope.names, y.2 = .free → ∃ c, env.cells.lookup y.1 = some c) : closureFor scope env = pure (clOf env.cells scope.names []) := by
  have q := clOf_run (env := env) scope.names [] h
  have e : closureFor scope env = Bind.bind (forIn scope.names [] fun (x : Str × NameKind) (r : List (Str × Addr)) => (if (x.2 == .free) = true then do let a ← cellOf env x.1; pure (ForInStep.yield ((x.1, a) :: r)) else pure (ForInStep.yield r) : Sem (ForInStep (List (Str × Addr))))) (fun r => pure r) := rfl
  rw [e, q]; rfl
theorem clOf_acc {cells : List (Str × Addr)} {z : Str} : ∀ (names : List (Str × NameKind)) (acc : List (Str × Addr)), (acc.lookup z).isSome = true → ((clOf cells names acc).lookup z).isSome = true
  | [], _, h => h
  | (n, k) :: r, acc, h => by
    unfold clOf
    split
    · refine clOf_acc r _ ?_
      rw [List.lookup_cons]
      cases (z == n)
      · exact h
      · rfl
    · exact clOf_acc r _ h
theorem clOf_has {cells : List (Str × Addr)} {z : Str} : ∀ (names : List (Str × NameKind)) (acc : List (Str × Addr)), (z, NameKind.free) ∈ names → ((clOf cells names acc).lookup z).isSome = true
  | [], _, h => nomatch h
  | (n, k) :: r, acc, h => by
    unfold clOf
    rcases List.mem_cons.mp h with e | h
    · cases e
      rw [if_pos (by rfl)]
      refine clOf_acc r _ ?_
      rw [List.lookup_cons, show (z == z) = true from by simp]; rfl
    · split
      · exact clOf_has r _ h
      · exact clOf_has r _ h
theorem clOf_sub {cells : List (Str × Addr)} {z : Str} {c : Addr} : ∀ (names : List (Str × NameKind)) (acc : List (Str × Addr)), (∀ y ∈ names, y.2 = .free → ∃ c, cells.lookup y.1 = some c) → (∀ z c, acc.lookup z = some c → cells.lookup z = some c) →
    (clOf cells names acc).lookup z = some c → cells.lookup z = some c
  | [], _, _, h, e => h _ _ e
  | (n, k) :: r, acc, hn, h, e => by
    unfold clOf at e
    split at e
    · rename_i hk
      have hk' : k = .free := by simpa using hk
      obtain ⟨c', hc⟩ := hn (n, k) List.mem_cons_self hk'
      refine clOf_sub r _ (fun y hy => hn y (List.mem_cons_of_mem _ hy)) (fun z1 c1 e9 => ?_) e
      rw [show cells.lookup n = some c' from hc] at e9
      rw [List.lookup_cons] at e9
      cases hz : (z1 == n) with
      | false => rw [hz] at e9; exact h _ _ e9
      | true =>
        rw [hz] at e9
        have hz' : z1 = n := by simpa using hz
        rw [hz', show cells.lookup n = some c' from hc]
        exact e9
    · exact clOf_sub r _ (fun y hy => hn y (List.mem_cons_of_mem _ hy)) h e
structure CompOk2 (X : Cx) (scope : Scope) (cl : List (Str × Addr)) (xs ns : List Str) (fr : List Nat) : Prop where
  clos : closureFor scope X.env = pure cl
  sub : ∀ z c, cl.lookup z = some c → X.env.cells.lookup z = some c
  kind : scope.kind = .function
  nocell : ∀ y ∈ scope.names, y.2 ≠ .cell
  names : ∀ y ∈ scope.names, y.2 = .local → scope.names.lookup y.1 = some .local
  has : ∀ z, ((relabel scope X.env).names.lookup z = some .cell ∨ (relabel scope X.env).names.lookup z = some .free) → ∃ c, cl.lookup z = some c
  out : ∀ (j : Nat) (z : Str), ns[j]? = some z → ∃ i, fr[j]? = some i ∧ X.N[i]? = some z ∧ X.env.scope.names.lookup z = some .cell ∧ (relabel scope X.env).names.lookup z = some .cell
  len : fr.length = ns.length
/-- what can be looked at: the scope around, the comprehension's, the names -/
noncomputable def compB (sc cs : List (Str × NameKind)) (N ns : List Str) (fr : List Nat) : Bool :=
  cs.all (fun y => y.2 != .cell) && cs.all (fun y => y.2 != .local || cs.lookup y.1 == some .local) && cs.all (fun y => y.2 != .free || sc.lookup y.1 == some .cell)
    && (fr.length == ns.length) && (List.range ns.length).all (fun j => match ns[j]?, fr[j]? with
      | some z, some i => N[i]? == some z && sc.lookup z == some .cell && cs.lookup z == some .free
      | _, _ => false)
theorem lookup_relabel_free {env : Env} (hk : env.scope.kind = .function) : ∀ {names : List (Str × NameKind)} {x : Str}, names.lookup x = some .free → env.kindOf x = some .cell →
    (names.map fun (n, k) => if (k == NameKind.free && env.scope.kind == .function && env.kindOf n == some .cell) then (n, NameKind.cell) else (n, k)).lookup x = some .cell
  | [], _, h, _ => by simp at h
  | (n, k) :: r, x, h, hc => by
    have ih := @lookup_relabel_free env hk r x
    show List.lookup x ((if (k == NameKind.free && env.scope.kind == .function && env.kindOf n == some .cell) = true then (n, NameKind.cell) else (n, k)) :: _) = _
    cases hx : x == n with
    | true =>
      have e : x = n := by simpa using hx
      simp only [List.lookup_cons, hx] at h
      cases h
      subst e
      rw [if_pos (by rw [hk, hc]; decide)]
      simp only [List.lookup_cons, hx]
    | false =>
      simp only [List.lookup_cons, hx] at h
      by_cases hc' : (k == NameKind.free && env.scope.kind == .function && env.kindOf n == some .cell) = true
      · rw [if_pos hc']; simp only [List.lookup_cons, hx]; exact ih h hc
      · rw [if_neg hc']; simp only [List.lookup_cons, hx]; exact ih h hc
theorem relabel_mem {env : Env} : ∀ {names : List (Str × NameKind)} {x : Str} {k : NameKind},
    (names.map fun (n, k) => if (k == NameKind.free && env.scope.kind == .function && env.kindOf n == some .cell) then (n, NameKind.cell) else (n, k)).lookup x = some k → (∀ y ∈ names, y.2 ≠ .cell) → (k = .cell ∨ k = .free) → (x, NameKind.free) ∈ names
  | [], _, _, h, _, _ => by simp at h
  | (n, k0) :: r, x, k, h, hn, hk => by
    have ih := @relabel_mem env r x k
    have h' : List.lookup x ((if (k0 == NameKind.free && env.scope.kind == .function && env.kindOf n == some .cell) = true then (n, NameKind.cell) else (n, k0)) :: r.map fun (n, k) => if (k == NameKind.free && env.scope.kind == .function && env.kindOf n == some .cell) then (n, NameKind.cell) else (n, k)) = some k := h
    cases hx : x == n with
    | false =>
      refine List.mem_cons_of_mem _ (ih ?_ (fun y hy => hn y (List.mem_cons_of_mem _ hy)) hk)
      by_cases hc' : (k0 == NameKind.free && env.scope.kind == .function && env.kindOf n == some .cell) = true
      · rw [if_pos hc'] at h'; simpa only [List.lookup_cons, hx] using h'
      · rw [if_neg hc'] at h'; simpa only [List.lookup_cons, hx] using h'
    | true =>
      have e : x = n := by simpa using hx
      subst e
      by_cases hc' : (k0 == NameKind.free && env.scope.kind == .function && env.kindOf x == some .cell) = true
      · have : k0 = .free := by
          rw [Bool.and_eq_true, Bool.and_eq_true] at hc'
          simpa using hc'.1.1
        rw [this]; exact List.mem_cons_self
      · rw [if_neg hc'] at h'
        simp only [List.lookup_cons, hx] at h'
        have : k0 = k := Option.some.inj h'
        subst this
        rcases hk with e | e
        · exact absurd e (hn (x, k0) List.mem_cons_self)
        · rw [e]; exact List.mem_cons_self
theorem CompOk2.of {X : Cx} {scope sc : Scope} {N xs ns : List Str} {fr : List Nat} (hsc : X.env.scope = sc) (hN : X.N = N) (hcl : ∃ n, X.env.cells = cellsFrom n X.env.scope.names []) (hk : X.env.scope.kind = .function) (kind : scope.kind = .function)
    (h : compB sc.names scope.names N ns fr = true) : CompOk2 X scope (clOf X.env.cells scope.names []) xs ns fr := by
  subst hsc hN
  unfold compB at h
  rw [Bool.and_eq_true, Bool.and_eq_true, Bool.and_eq_true, Bool.and_eq_true] at h
  obtain ⟨⟨⟨⟨h1, h2⟩, h3⟩, h4⟩, h5⟩ := h
  have n1 : ∀ y ∈ scope.names, y.2 ≠ .cell := fun y hy e => by
    have := List.all_eq_true.mp h1 y hy
    rw [e] at this; cases this
  have n2 : ∀ y ∈ scope.names, y.2 = .local → scope.names.lookup y.1 = some .local := fun y hy e => by
    have := List.all_eq_true.mp h2 y hy
    rw [e] at this
    simpa using this
  have n3 : ∀ y ∈ scope.names, y.2 = .free → X.env.scope.names.lookup y.1 = some .cell := fun y hy e => by
    have := List.all_eq_true.mp h3 y hy
    rw [e] at this
    simpa using this
  have n4 : ∀ y ∈ scope.names, y.2 = .free → ∃ c, X.env.cells.lookup y.1 = some c := fun y hy e => by
    obtain ⟨n, hn⟩ := hcl
    rw [hn]
    exact cell_has (n3 y hy e)
  refine ⟨closure_of n4, fun z c e => clOf_sub _ [] n4 (fun z c e => by cases e) e, kind, n1, n2, fun z hz => ?_, fun j z e => ?_, by simpa using h4⟩
  · refine Option.isSome_iff_exists.mp (clOf_has _ [] ?_)
    rcases hz with q | q
    · exact relabel_mem q n1 (.inl rfl)
    · exact relabel_mem q n1 (.inr rfl)
  · have hj : j < ns.length := (List.getElem?_eq_some_iff.mp e).1
    have := List.all_eq_true.mp h5 j (List.mem_range.mpr hj)
    rw [e] at this
    have h4' : fr.length = ns.length := by simpa using h4
    have hj' : j < fr.length := by rw [h4']; exact hj
    rw [List.getElem?_eq_getElem hj'] at this
    have this' : (X.N[fr[j]]? == some z && X.env.scope.names.lookup z == some .cell && scope.names.lookup z == some .free) = true := this
    rw [Bool.and_eq_true, Bool.and_eq_true] at this'
    obtain ⟨⟨a1, a2⟩, a3⟩ := this'
    have a2' : X.env.scope.names.lookup z = some .cell := by simpa using a2
    exact ⟨fr[j], List.getElem?_eq_getElem hj', by simpa using a1, a2', lookup_relabel_free hk (by simpa using a3) a2'⟩
/-! ### the tests of a comprehension -/
noncomputable def PF (X : Cx) (ifs : List Expr) (t : TT) : Prop :=
  ∀ (pins : List (Addr × Obj)) (s : Shared) (σ : St) (H : Hp) (Q : Bool → Hp → Prop), Inv X pins σ H s → t σ H Q →
    wpAny (model X.prog X.w) X.A (forIn ifs true fun c r => if r = true then do let ok ← isTrue c X.env (eval c X.env); pure (ForInStep.yield ok) else pure (ForInStep.yield r)) (TP X pins σ Q) X.xe s
noncomputable def fNil : TT := fun _ H Q => Q true H
theorem pf_nil {X : Cx} : PF X [] fNil := fun pins s σ H Q I h => wpAny_tests_nil ⟨H, I, h⟩
theorem pf_one {X : Cx} {c : Expr} {t : TT} (h : PT X c t) : PF X [c] t := fun pins s σ H Q I hw => wpAny_tests_one (h pins s σ H Q I hw)
section
variable {prog : Program} {w : World} {A : Around} {R : Result → Shared → Prop} {s : Shared}
theorem comp_loop2 {elt target iter : Expr} {ifs : List Expr} {scope : Scope} {pos : Pos} {it acc : Value} {env : Env} (I : Nat → Shared → Prop)
    (turn : ∀ n s, I n s → wpAny (model prog w) A (pyNext it) (fun r s₁ => match r with
      | none => R (.ok .next) s₁
      | some v => wpAny (model prog w) A (letOwnedTupleGo target it v) (fun _ s₁' => wpAny (model prog w) A (assign target env v) (fun _ s₂ =>
          wpAny (model prog w) A (forIn ifs true fun c r => if r = true then do let ok ← isTrue c env (eval c env); pure (ForInStep.yield ok) else pure (ForInStep.yield r)) (fun ok s₂' => if ok = true then wpAny (model prog w) A (eval elt env) (fun x s₃ =>
            wpAny (model prog w) A (call (.builtin "list.append") [acc, x]) (fun _ s₄ => ∃ m, m < n ∧ I m s₄) (notedBy (model prog w) A env fun e s' => R (.error e) s') s₃) (notedBy (model prog w) A env fun e s' => R (.error e) s') s₂'
            else ∃ m, m < n ∧ I m s₂') (notedBy (model prog w) A env fun e s' => R (.error e) s') s₂)
          (notedBy (model prog w) A env fun e s' => R (.error e) s') s₁') (notedBy (model prog w) A env fun e s' => R (.error e) s') s₁) (notedBy (model prog w) A env fun e s' => R (.error e) s') s)
    (n : Nat) (h : I n s) : codeAny (model prog w) A (.compLoop (.ListComp elt [⟨target, iter, ifs, 0⟩] scope pos) 0 it acc env) R s := by
  refine codeAny_loop rfl I (fun n s hI => ?_) n h
  show wpAny _ A ((compTurn (.ListComp elt [⟨target, iter, ifs, 0⟩] scope pos) 0 it acc env).onRaise (fun x => do noteFrame x env; theTreesLotGoes x)) _ _ s
  refine wpAny_noted ?_
  rw [compTurn_list]
  refine wpAny_bind (wpAny_standAt (wpAny_bind (wpAny_mono (turn n s hI) (fun r s₁ h₁ => ?_) fun _ _ h' => h')))
  cases r with
  | none => exact wpAny_pure h₁
  | some v =>
    refine wpAny_bind (wpAny_mono h₁ (fun _ s₀ h₀' => ?_) fun _ _ h' => h')
    refine wpAny_bind (wpAny_mono h₀' (fun _ s₂ h₂ => ?_) fun _ _ h' => h')
    refine wpAny_bind (wpAny_mono h₂ (fun okb s₃ h₃ => ?_) fun _ _ h' => h')
    cases okb with
    | false => exact wpAny_pure ⟨rfl, h₃⟩
    | true => exact wpAny_bind (wpAny_bind (wpAny_mono h₃ (fun x s₄ h₄ => wpAny_bind (wpAny_mono h₄ (fun _ s₅ h₅ => wpAny_pure (wpAny_pure ⟨rfl, h₅⟩)) fun _ _ h' => h')) fun _ _ h' => h'))
end
/-- the end of a comprehension's reading: J the iterator; Pv k: behind k turns -/
noncomputable def CompGoal (J : It) (nx : Nat) (g : TG) (fr : List Nat) (tt : TT) (te : TE) (σ : St) (Q : VK) (H1 : Hp) (l : Addr) : Prop :=
  ∃ W : Nat → Nat → Hp → Prop, (∃ m, W 0 m (upd H1 l (.lst []))) ∧ ∀ k m H, W k m H →
    (J.stop k H ∧ Q (.ref l) H) ∨ (J.go k H ∧ ∀ v H', J.yld k H v H' → ∀ os : St, os.length = nx → g v (os ++ inner σ fr) H' fun σ2 H2 => (∃ os' : St, os'.length = nx ∧ σ2 = os' ++ inner σ fr) ∧ tt σ2 H2 fun b H3 =>
      if b = true then te σ2 H3 fun y H4 => ∃ zs m', H4 l = some (.lst zs) ∧ zs.length < sizeLine ∧ m' < m ∧ W (k + 1) m' (upd H4 l (.lst (zs ++ [y]))) else ∃ m', m' < m ∧ W (k + 1) m' H3)
/-- nx: how many names the target has; fr: where the names that it takes from around stand there -/
noncomputable def tCompE (wi : TI) (nx : Nat) (fr : List Nat) (g : TG) (tt : TT) (te : TE) : TE := fun σ H Q => wi σ H fun J H1 => ∀ l, H1 l = none → CompGoal J nx g fr tt te σ Q H1 l
theorem comp_all {X : Cx} {pins : List (Addr × Obj)} {σ : St} {H : Hp} {s : Shared} {tg iter elt : Expr} {ifs : List Expr} {scope : Scope} {pos pos' : Pos} {cl : List (Str × Addr)} {xs ns : List Str} {fr : List Nat} {wi : TI} {g : TG} {tt : TT} {te : TE}
    {use : Option (Value → Sem Unit)} {Qv : Value → Shared → Prop} {R : VK}
    (hc : X.calm = true) (ok : CompOk2 X scope cl xs ns fr) (hI : PI X tg iter wi) (hg : ∀ C s₂ H2 fp, PG (cxComp X scope cl (xs ++ ns) C s₂ H2 fp) tg g) (hf : ∀ C s₂ H2 fp, PF (cxComp X scope cl (xs ++ ns) C s₂ H2 fp) ifs tt)
    (he : ∀ C s₂ H2 fp, PE (cxComp X scope cl (xs ++ ns) C s₂ H2 fp) elt te) (hs : ∀ x, foldedSetIterable iter X.env x = pure x)
    (I : Inv X pins σ H s) (h : tCompE wi xs.length fr g tt te σ H R)
    (fin : ∀ (C l : Addr) (m : Str → Option Value) (s4 : Shared) (Hk : Hp), Inv X pins σ Hk s4 → s4.heap.Ns C m → Hk C = none → C ≠ X.env.locals → (∀ z c, X.env.cells.lookup z = some c → c ≠ C) → X.s₀.heap.objs.size ≤ C → (∀ p ∈ X.pn ++ pins, p.1 ≠ C) →
      R (.ref l) Hk → compPost (model X.prog X.w) X.A X.xe use Qv (.ref l) C (.ok .next) s4) :
    wpAny (model X.prog X.w) X.A (comprehension (.ListComp elt [⟨tg, iter, ifs, 0⟩] scope pos) scope X.env pos' (newList []) false (eval iter X.env) use) Qv X.xe s := by
  refine wpAny_comprehension_free (use := use) rfl hs ok.clos ok.kind ok.names ?_
  refine thn (hI pins s σ H _ I h) fun v s1 h1 => thn h1 fun itv s2 h2 => ?_
  obtain ⟨it, fp, tn, J, H2, rfl, I2, T, st2, f2, rd⟩ := h2
  refine wpAny_newObj_type (wpAny_newFunctionEnv ok.nocell (by intro y hy; simp at hy) (fun h₁ hns₁ hsb₁ => ?_) ok.kind)
  dsimp only at hns₁ hsb₁ ⊢
  generalize hG : s2.heap.push { cls := .type "list", dict := none, data := .seq ([] : List Value).toArray } = G at hns₁ hsb₁ ⊢
  have hC : G.objs.size = s2.heap.objs.size + 1 := by rw [← hG, Heap.size_push]
  have below : ∀ b, b < s2.heap.objs.size → b ≠ G.objs.size ∧ b ≠ s2.heap.objs.size := fun b hb => ⟨by rw [hC]; exact Nat.ne_of_lt (Nat.lt_succ_of_lt hb), Nat.ne_of_lt hb⟩
  have old : ∀ b o, s2.heap.get? b = some o → h₁.get? b = some o := fun b o e => hsb₁.extBut b o (below b (Heap.lt_size e)).1 (Heap.get?_push_of_some _ (hG ▸ Heap.get?_push_of_some _ e))
  have hacc : h₁.get? s2.heap.objs.size = some { cls := .type "list", data := .seq ([] : List Value).toArray } :=
    hsb₁.extBut _ _ (by rw [hC]; exact Nat.ne_of_lt (Nat.lt_succ_self _)) (Heap.get?_push_of_some _ (hG ▸ Heap.get?_push_size _ rfl))
  have lfree : H2 s2.heap.objs.size = none := I2.hok.fresh (Nat.le_refl _)
  have fplt : ∀ b ∈ fp, b < s2.heap.objs.size := fun b hb => by
    obtain ⟨o, e, _⟩ := T.obj 0 _ st2 b hb
    exact Heap.lt_size e
  have stk : ∀ b ∈ frs X.stack, b ∈ X.env.locals :: X.fs := I2.stkSub
  have clc : ∀ z c, cl.lookup z = some c → c < s2.heap.objs.size := fun z c e => by
    obtain ⟨v, q⟩ := I2.cell z c (ok.sub z c e)
    exact q.lt
  have okC : (cxComp X scope cl (xs ++ ns) G.objs.size s2 H2 fp).Ok := by
    refine ⟨I2.ok.mod, ok.kind, I2.ok.glob, I2.ok.blt, ?_, fun a b c h1 h2 => I2.ok.inj a b c (ok.sub a c h1) (ok.sub b c h2), fun z hz => ok.has z hz, fun z c hf => ?_, fun _ => I2.ok.hd hc, I2.ok.frames, .inl rfl, fun b hb => ⟨(below b (fplt b hb)).1, fun z c e => ?_⟩, I2.bs, Nat.le_trans I2.ok.bsz I2.sz, fun b o e hb => ?_, fun b hb => ?_, I2.stack, I2.stkFree⟩
    · show s2.heap.objs.size ≤ G.objs.size
      rw [hC]; exact Nat.le_succ _
    · exact absurd (show false = true from hf) Bool.false_ne_true
    · exact (f2 b hb).2.2.2.2.1 z c (ok.sub z c e)
    · rcases (f2 b hb).2.2.2.1 with z | z
      · exact I2.ok.noex b o e z
      · exact absurd (Nat.lt_of_lt_of_le (Heap.lt_size e) (Nat.le_trans I2.ok.bsz z)) (Nat.lt_irrefl _)
    · intro z
      rcases List.mem_cons.mp (stk b z) with q | q
      · exact (f2 b hb).2.1 q
      · exact (f2 b hb).2.2.1 q
  have fpC : ∀ {H' : Hp}, (∀ b ∈ fp, H' b = none) → ∀ b ∈ fp, FpOk (cxComp X scope cl (xs ++ ns) G.objs.size s2 H2 fp) [] H' b := fun hn b hb =>
    ⟨hn b hb, (below b (fplt b hb)).1, okC.exfs b hb, .inl hb, fun z c e => (f2 b hb).2.2.2.2.1 z c (ok.sub z c e), fun p hp => absurd (show p ∈ ([] : List (Addr × Obj)) from hp) (by simp)⟩
  have I4 : Inv (cxComp X scope cl (xs ++ ns) G.objs.size s2 H2 fp) [] (List.replicate xs.length none ++ inner σ fr) (upd H2 s2.heap.objs.size (.lst [])) { s2 with heap := h₁, toks := s2.toks + ([] : List (Str × Value)).length } := by
    refine ⟨okC, rfl, I2.bare, Un.laid old (Nat.le_refl _) lfree, ⟨_, hns₁, fun j z u e1 e2 e3 => ?_⟩, fun z c e => ?_, ?_, fun z c e => ?_, fun p hp => absurd (show p ∈ ([] : List (Addr × Obj)) from hp) (by simp), I2.hok.laid old (Nat.le_refl _) ⟨Nat.zero_le _, [], 0, .nil, hacc⟩, ?_⟩
    · by_cases hj : j < xs.length
      · rw [List.getElem?_append_left (by rw [List.length_replicate]; exact hj), List.getElem?_replicate, if_pos hj] at e2
        have e2' : (none : Option V) = some u := Option.some.inj e2
        cases e2'
      · have hj' : xs.length ≤ j := Nat.not_lt.mp hj
        rw [List.getElem?_append_right (by rw [List.length_replicate]; exact hj'), List.length_replicate] at e2
        have e1' : ns[j - xs.length]? = some z := by
          have e1'' : (xs ++ ns)[j]? = some z := e1
          rw [List.getElem?_append_right hj'] at e1''; exact e1''
        obtain ⟨i', q1, q2, q3, q4⟩ := ok.out _ z e1'
        have e3' : σ[i']? = some (some u) := by
          unfold inner at e2
          rw [List.getElem?_map, q1] at e2
          have e4 : (σ[i']?).join = some u := Option.some.inj e2
          cases q : σ[i']? with
          | none => rw [q] at e4; cases e4
          | some o => rw [q] at e4; cases o with
            | none => cases e4
            | some o => cases e4; rfl
        obtain ⟨m, hn, hl⟩ := I2.loc
        obtain ⟨val, r, l⟩ := hl i' z u q2 e3' (.inr (.inl q3))
        refine ⟨val, r, .inr ⟨.inl q4, ?_⟩⟩
        obtain ⟨c', hc'⟩ := ok.has z (.inl q4)
        rcases l with ⟨k1, _⟩ | ⟨_, c, hcc, hcell⟩
        · have k1' : X.env.scope.names.lookup z = some .local := k1
          rw [q3] at k1'; cases k1'
        · rw [ok.sub z c' hc'] at hcc
          cases hcc
          obtain ⟨ob, ho, hd⟩ := hcell
          exact ⟨c', hc', ob, old _ _ ho, hd⟩
    · obtain ⟨v', ob, ho, hd⟩ := I2.cell z c (ok.sub z c e)
      exact ⟨v', ob, old _ _ ho, hd⟩
    · show upd H2 s2.heap.objs.size (.lst []) G.objs.size = none
      rw [upd_ne (by rw [hC]; exact Nat.ne_of_gt (Nat.lt_succ_self _))]
      exact I2.hok.fresh (by rw [hC]; exact Nat.le_succ _)
    · rw [upd_ne (Nat.ne_of_lt (clc z c e))]
      exact I2.freeC z c (ok.sub z c e)
    · show (List.replicate xs.length none ++ inner σ fr).length = (xs ++ ns).length
      unfold inner
      rw [List.length_append, List.length_append, List.length_map, ok.len, List.length_replicate]
  obtain ⟨W, ⟨m0, w0⟩, turns⟩ := rd _ lfree
  have loop : codeAny (model X.prog X.w) X.A (.compLoop (.ListComp elt [⟨tg, iter, ifs, 0⟩] scope pos) 0 (.ref it) (.ref s2.heap.objs.size) (compEnvC scope cl G.objs.size X.env))
      (compPost (model X.prog X.w) X.A X.xe use Qv (.ref s2.heap.objs.size) G.objs.size) { s2 with heap := h₁, toks := s2.toks + ([] : List (Str × Value)).length } := by
    refine comp_loop2 (fun n s' => ∃ k Hk σk, Inv (cxComp X scope cl (xs ++ ns) G.objs.size s2 H2 fp) [] σk Hk s' ∧ (∃ os : St, os.length = xs.length ∧ σk = os ++ inner σ fr) ∧ tn k s'.heap ∧ (∀ b ∈ fp, Hk b = none) ∧ W k n Hk) ?_ m0
      ⟨0, _, _, I4, ⟨_, List.length_replicate, rfl⟩, T.keep _ _ _ st2 fun b _ o e => old b o e, fun b hb => by rw [upd_ne (below b (fplt b hb)).2]; exact (f2 b hb).1, w0⟩
    rintro n s3 ⟨k, Hk, σk, I3, ⟨os, hol, hσ⟩, st3, fr3, w3⟩
    subst hσ
    rcases turns k n Hk w3 with ⟨stop, qn⟩ | ⟨go, step⟩
    · refine thn (T.done (cxComp X scope cl (xs ++ ns) G.objs.size s2 H2 fp) rfl rfl rfl rfl k [] s3 _ Hk _ I3 (fpC fr3) st3 stop) fun r s4 zz => ?_
      obtain ⟨hr, I5⟩ := zz
      subst hr
      have J5 : Inv X pins σ Hk s4 := I2.call' I5.os I5.base I5.hok I5.bare fun b hb => ⟨(f2 b hb).2.2.2.1, (f2 b hb).2.1, (f2 b hb).2.2.2.2.1, (f2 b hb).2.2.2.2.2⟩
      obtain ⟨mC, hnC, _⟩ := I5.loc
      have neL : G.objs.size ≠ X.env.locals := Nat.ne_of_gt (Nat.lt_trans I2.lt (by rw [hC]; exact Nat.lt_succ_self _))
      have neCell : ∀ z c, X.env.cells.lookup z = some c → c ≠ G.objs.size := fun z c e q => by
        obtain ⟨v', hcell⟩ := I2.cell z c e
        have := hcell.lt
        rw [q, hC] at this
        exact absurd this (Nat.not_lt.mpr (Nat.le_succ _))
      exact fin G.objs.size s2.heap.objs.size mC s4 Hk J5 hnC I5.free neL neCell (Nat.le_trans I2.sz (by rw [hC]; exact Nat.le_succ _)) (fun p hp q => by
        have := Heap.lt_size (I2.pin p hp).1
        rw [q, hC] at this
        exact absurd this (Nat.not_lt.mpr (Nat.le_succ _))) qn
    · refine thn (T.item (cxComp X scope cl (xs ++ ns) G.objs.size s2 H2 fp) rfl rfl rfl rfl k [] s3 _ Hk _ I3 (fpC fr3) st3 go) fun r s4 zz => ?_
      obtain ⟨u, hr, h4⟩ := zz
      subst hr
      refine thn h4 fun _ s5 zz => ?_
      obtain ⟨val, H5, I5, r5, y5, st5, fr5⟩ := zz
      have I5' := I5.pinned (fpC fr5) (T.obj _ _ st5)
      refine wpAny_mono (hg _ _ _ _ _ s5 _ H5 val u _ I5' r5 (step val H5 y5 os hol)) (fun _ s6 zz => ?_) fun _ _ z => z.elim
      obtain ⟨σ6, H6, I6, ⟨os6, hol6, hσ6⟩, q6⟩ := zz
      subst hσ6
      have back : ∀ {H8 : Hp} {s8 : Shared} {m' : Nat}, Inv (cxComp X scope cl (xs ++ ns) G.objs.size s2 H2 fp) ([] ++ pinsAt fp s5.heap) (os6 ++ inner σ fr) H8 s8 → m' < n → W (k + 1) m' H8 →
          ∃ m, m < n ∧ ∃ k Hk σk, Inv (cxComp X scope cl (xs ++ ns) G.objs.size s2 H2 fp) [] σk Hk s8 ∧ (∃ os : St, os.length = xs.length ∧ σk = os ++ inner σ fr) ∧ tn k s8.heap ∧ (∀ b ∈ fp, Hk b = none) ∧ W k m Hk := fun {H8 s8 m'} I8 hm w8 => by
        refine ⟨m', hm, k + 1, _, _, I8.unpinned, ⟨os6, hol6, rfl⟩, T.keep _ _ _ st5 fun b hb o e => (I8.pin (b, o) (List.mem_append_right _ (List.mem_append_right _ (mem_pinsAt hb e)))).1, fun b hb => ?_, w8⟩
        obtain ⟨ob, e, d⟩ := T.obj _ _ st5 b hb
        exact (I8.pin (b, ob) (List.mem_append_right _ (List.mem_append_right _ (mem_pinsAt hb e)))).2.1
      refine wpAny_mono (hf _ _ _ _ _ s6 _ H6 _ I6 q6) (fun b s6' zz => ?_) fun _ _ z => z.elim
      obtain ⟨H6', I6', q6'⟩ := zz
      cases b with
      | false =>
        rw [if_neg (by decide)] at q6' ⊢
        obtain ⟨m', hm, w7⟩ := q6'
        exact back I6' hm w7
      | true =>
        rw [if_pos rfl] at q6' ⊢
        refine wpAny_mono (he _ _ _ _ _ s6' _ H6' _ I6' q6') (fun yv s7 zz => ?_) fun _ _ z => z.elim
        obtain ⟨yy, H7, I7, r7, zs, m', hz, hl, hm, w7⟩ := zz
        refine wpAny_mono (mt_append (X := cxComp X scope cl (xs ++ ns) G.objs.size s2 H2 fp) _ s7 _ H7 (.ref s2.heap.objs.size) [yy] (.ref s2.heap.objs.size) [yv] (fun _ H8 => H8 = upd H7 s2.heap.objs.size (.lst (zs ++ [yy]))) I7 rfl (.cons r7 .nil) ⟨_, zs, yy, rfl, rfl, hz, hl, rfl⟩) (fun _ s8 zz => ?_) fun _ _ z => z.elim
        obtain ⟨_, H8, I8, _, e8⟩ := zz
        subst e8
        exact back I8 hm w7
  exact codeAny_compStart_list loop (T.self _ 0 _ _ _ (T.keep _ _ _ st2 fun b _ o e => old b o e) loop)
theorem pe_comp {X : Cx} {tg iter elt : Expr} {ifs : List Expr} {scope : Scope} {pos : Pos} {cl : List (Str × Addr)} {xs ns : List Str} {fr : List Nat} {wi : TI} {g : TG} {tt : TT} {te : TE}
    (hc : X.calm = true) (ok : CompOk2 X scope cl xs ns fr) (hI : PI X tg iter wi) (hg : ∀ C s₂ H2 fp, PG (cxComp X scope cl (xs ++ ns) C s₂ H2 fp) tg g) (hf : ∀ C s₂ H2 fp, PF (cxComp X scope cl (xs ++ ns) C s₂ H2 fp) ifs tt)
    (he : ∀ C s₂ H2 fp, PE (cxComp X scope cl (xs ++ ns) C s₂ H2 fp) elt te) (hs : ∀ x, foldedSetIterable iter X.env x = pure x := by intro _; rfl) :
    PE X (.ListComp elt [⟨tg, iter, ifs, 0⟩] scope pos) (tCompE wi xs.length fr g tt te) := by
  intro pins s σ H Q I h
  rw [eval_ListComp]
  refine comp_all (use := none) hc ok hI hg hf he hs I h fun C l m s4 Hk J5 hn hC neL neCell sz hp q => ?_
  exact ⟨m, hn, fun h' sb => ⟨.ref l, Hk, J5.turned (t' := s4.toks) (it := C) (fun b o hb e => sb.extBut b o hb e) hC neL (.inr sz) neCell hp, rfl, q⟩⟩
theorem ps_compE {X : Cx} {i : Nat} {y : Str} {py spos : Pos} {tg iter elt : Expr} {ifs : List Expr} {scope : Scope} {pos : Pos} {cl : List (Str × Addr)} {xs ns : List Str} {fr : List Nat} {wi : TI} {g : TG} {tt : TT} {te : TE}
    (hc : X.calm = true) (ok : CompOk2 X scope cl xs ns fr) (hN : X.N.Nodup) (hi : X.N[i]? = some y) (hy : Loc X.env.scope y) (hfn : X.fn y = true ∨ X.env.scope.names.lookup y = some .local)
    (hsw : swapsWith (.ListComp elt [⟨tg, iter, ifs, 0⟩] scope pos) (some (.Name y py)) spos.line X.env = pure true)
    (hI : PI X tg iter wi) (hg : ∀ C s₂ H2 fp, PG (cxComp X scope cl (xs ++ ns) C s₂ H2 fp) tg g) (hf : ∀ C s₂ H2 fp, PF (cxComp X scope cl (xs ++ ns) C s₂ H2 fp) ifs tt)
    (he : ∀ C s₂ H2 fp, PE (cxComp X scope cl (xs ++ ns) C s₂ H2 fp) elt te) (hs : ∀ x, foldedSetIterable iter X.env x = pure x := by intro _; rfl) :
    PS X (.Assign [.Name y py] (.ListComp elt [⟨tg, iter, ifs, 0⟩] scope pos) spos) (tAsg (tCompE wi xs.length fr g tt te) (gName i)) := by
  intro pins s σ H D I h
  rw [exec_Assign_Name_used _ _ _ _ hsw]
  refine wpAny_bind (wpAny_standAt (wpAny_bind ?_))
  show wpAny _ X.A (do let _ ← comprehension (.ListComp elt [⟨tg, iter, ifs, 0⟩] scope pos) scope X.env _ (newList []) false (eval iter X.env) (some (assign (.Name y py) X.env))) _ _ s
  refine wpAny_bind (wpAny_mono (comp_all (use := some (assign (.Name y py) X.env)) (Qv := fun _ s' => SP X pins D .next s') hc ok hI hg hf he hs I h fun C l m s4 Hk J5 hn hC neL neCell sz hp q => ?_) (fun _ s' hq => wpAny_pure (wpAny_pure hq)) fun _ _ e => e)
  show wpAny _ X.A (assign (.Name y py) X.env (.ref l)) _ _ s4
  refine wpAny_assign_Name (store_ok2 J5 hN hi hy (v := .ref l) rfl (fun s5 I6 sb => ?_) hfn)
  obtain ⟨aa, hsb, haa⟩ := sb
  have aC : C ≠ aa := by
    rcases haa with q | q
    · rw [q]; exact neL
    · exact fun z => neCell _ _ q z.symm
  refine ⟨m, ?_, fun h' sb' => ⟨_, _, I6.turned (t' := s5.toks) (it := C) (fun b o hb e => sb'.extBut b o hb e) hC neL (.inr sz) neCell hp, q⟩⟩
  obtain ⟨oC, es, ep, ho, r⟩ := hn
  exact ⟨oC, es, ep, hsb.extBut _ _ aC ho, r⟩
end L2


set_option Elab.async false
set_option linter.all false
set_option maxRecDepth 100000
/-! sum, all, max of lists; bit_length -/
namespace L2
open PySem PySem.Spec PyProof.Rows
section
variable {X : Cx}
theorem vals_at : ∀ {xs : List V} {us : List Value} {i : Nat} {u : Value}, Vals xs us → us[i]? = some u → ∃ x, xs[i]? = some x ∧ RelV x u
  | [], _, _, _, .nil, e => by simp at e
  | x :: xs, _, 0, u, .cons r rr, e => ⟨x, rfl, by cases e; exact r⟩
  | x :: xs, _, i + 1, u, .cons r rr, e => by
    obtain ⟨y, hy, ry⟩ := vals_at (xs := xs) (i := i) rr (by simpa using e)
    exact ⟨y, by simpa using hy, ry⟩
theorem ints_at {ns : List Int} {its : List Value} {i : Nat} {v : Value} (r : Vals (ns.map V.int) its) (e : its.toArray[i]? = some v) : ∃ t, v = .int (ns.getD i 0) t := by
  have e' : its[i]? = some v := by simpa using e
  obtain ⟨x, hx, rx⟩ := vals_at r e'
  rw [List.getElem?_map] at hx
  obtain ⟨n, hn, rfl⟩ := Option.map_eq_some_iff.mp hx
  obtain ⟨t, rfl⟩ := rx
  refine ⟨t, ?_⟩
  rw [List.getD_eq_getElem?_getD, hn]; rfl
theorem call_allL (hc : X.calm = true) : CallR X (.builtin "all") (fun xs H Q => ∃ (p : Addr) (bs : List Bool), xs = [.ref p] ∧ SqL X.K H p (bs.map V.bl) ∧ Q (.bl (bs.all id)) H) := by
  intro pins s σ H xs us Q I r h
  obtain ⟨p, bs, rfl, hq, q⟩ := h
  obtain ⟨u, rfl, rx⟩ := vals1 r
  cases rx
  obtain ⟨its, r', pl, hz⟩ := I.list hq
  have hl := r'.length
  rw [List.length_map] at hl
  have hlt : p < s.heap.objs.size := by obtain ⟨_, e, _⟩ := pl.isList; exact Heap.lt_size e
  refine call_all_walk (wpAny_pyIter_list pl.isList ?_)
  refine ⟨_, _, _, _, _, _, fun i => bs.getD i true, rfl, Walks.list (A := X.A.in1) (I.ok.hd hc) _ p (Nat.ne_of_lt hlt) its.toArray, ⟨⟨_, Heap.get?_push_size _ rfl, rfl, rfl⟩, pl.isList.push _⟩, fun i v s Q E e hQ => ?_, fun h' tk hk => ?_⟩
  · have e' : its[i]? = some v := by simpa using e
    obtain ⟨x, hx, rx⟩ := vals_at r' e'
    rw [List.getElem?_map] at hx
    obtain ⟨n, hn, rfl⟩ := Option.map_eq_some_iff.mp hx
    have rx' : v = .bool n := rx
    subst rx'
    refine wpAny_truthy_bool ?_
    have hb : bs.getD i true = n := by rw [List.getD_eq_getElem?_getD, hn]; rfl
    have hQ' : Q (bs.getD i true) s := hQ
    rw [hb] at hQ'
    exact hQ'
  · refine ⟨.bl (bs.all id), H, I.kept (old_kept hk), ?_, q⟩
    have e : ((List.range its.toArray.size).all fun i => bs.getD i true) = bs.all id := by
      rw [List.size_toArray, ← hl, Bool.eq_iff_iff, List.all_eq_true, List.all_eq_true]
      constructor
      · intro h x hx
        obtain ⟨i, hi, rfl⟩ := List.mem_iff_getElem.mp hx
        have := h i (List.mem_range.mpr hi)
        rw [List.getD_eq_getElem?_getD, List.getElem?_eq_getElem hi] at this
        exact this
      · intro h i hi
        have hi' := List.mem_range.mp hi
        rw [List.getD_eq_getElem?_getD, List.getElem?_eq_getElem hi']
        exact h _ (List.getElem_mem hi')
    rw [e]; rfl
end
/-! ### shut -/
structure QC (X : Cx) (ifs : List Expr) (t : TT) : Prop where h : PF X ifs t
structure QGs (X : Cx) (ts : List Expr) (t : TGs) : Prop where h : PGs X ts t
namespace R
section
variable {X : Cx} {e o : Expr} {te to : TE} {pos : Pos}
theorem pf_nil : QC X [] fNil := ⟨L2.pf_nil⟩
theorem pf_one {c : Expr} {t : TT} (h : QT X c t) : QC X [c] t := ⟨L2.pf_one h.h⟩
theorem ixL (K : PySem.W.Frag) (h : X.K = K := by rfl) : IxR X (rIxL K) := by subst h; exact ix_list
theorem ixT (K : PySem.W.Frag) (h : X.K = K := by rfl) : IxR X (rIxT K) := by subst h; exact ix_tup
theorem pgs_nil : QGs X [] gNil := ⟨L2.pgs_nil⟩
theorem pgs_cons {es : List Expr} {t : TG} {u : TGs} (h1 : QG X e t) (h2 : QGs X es u) (hs : (assignEach (e :: es) X.env).map (·.2) = assign e X.env :: (assignEach es X.env).map (·.2) := by rfl) : QGs X (e :: es) (gCons t u) := ⟨L2.pgs_cons h1.h h2.h hs⟩
theorem pg_tup {es : List Expr} {k : Nat} {t : TGs} (K : PySem.W.Frag) (n : Nat) (hc : X.calm = true) (h : QGs X es t) (hK : X.K = K := by rfl) (hn : (assignEach es X.env).length = n := by rfl) (hst : (assignEach es X.env).findIdx? (·.1) = none := by rfl) : QG X (.Tuple es k pos) (gTup K n t) := by
  subst hK; exact ⟨L2.pg_tup hc h.h hn hst⟩
theorem pg_setL {i : Expr} {ti : TE} (ho : QE X o to) (hi : QE X i ti)
    (ha : ∀ v, assign (.Subscript o i pos) X.env v = (do
      let ov ← holding [v] (eval o X.env)
      let iv ← holding [v, ov] (eval i X.env)
      standAt pos
      holding [v, ov, iv] (setItem ov iv v)
      release [v, ov, iv] []) := by intro _; rfl) : QG X (.Subscript o i pos) (gSub to ti rSetL) := ⟨L2.pg_sub ho.h hi.h set_list ha⟩
theorem ps_asg {tg : Expr} {g : TG} (he : QE X e te) (hg : QG X tg g) (hs : swapsWithSole [tg] e pos.line X.env = pure false := by rfl) (hw : swappedStores [tg] e X.env = pure none := by rfl)
    (h1 : (assignEach [tg] X.env).map (·.2) = [assign tg X.env] := by rfl) : QS X (.Assign [tg] e pos) (tAsg te g) := ⟨L2.ps_asg he.h hg.h hs hw h1⟩
/-- sc, N: the def's scope and names; xs: the target's names; ns: those that are taken from around, at fr there -/
theorem pe_comp {tg iter elt : Expr} {ifs : List Expr} {scope : Scope} {wi : TI} {g : TG} {tt : TT} (sc : Scope) (N xs ns : List Str) (fr : List Nat) 
    (hc : X.calm = true) (hsc : X.env.scope = sc) (hN : X.N = N) (hcl : ∃ n, X.env.cells = cellsFrom n X.env.scope.names []) (hk : X.env.scope.kind = .function) (kind : scope.kind = .function) (hB : compB sc.names scope.names N ns fr = true)
    (hI : QI X tg iter wi) (hg : ∀ C s₂ H2 fp, QG (cxComp X scope (clOf X.env.cells scope.names []) (xs ++ ns) C s₂ H2 fp) tg g) (hf : ∀ C s₂ H2 fp, QC (cxComp X scope (clOf X.env.cells scope.names []) (xs ++ ns) C s₂ H2 fp) ifs tt)
    (he : ∀ C s₂ H2 fp, QE (cxComp X scope (clOf X.env.cells scope.names []) (xs ++ ns) C s₂ H2 fp) elt te) (hs : ∀ x, foldedSetIterable iter X.env x = pure x := by intro _; rfl) :
    QE X (.ListComp elt [⟨tg, iter, ifs, 0⟩] scope pos) (tCompE wi xs.length fr g tt te) :=
  ⟨L2.pe_comp hc (CompOk2.of hsc hN hcl hk kind hB) hI.h (fun C s H f => (hg C s H f).h) (fun C s H f => (hf C s H f).h) (fun C s H f => (he C s H f).h) hs⟩
theorem ps_compE {i : Nat} {y : Str} {py spos : Pos} {tg iter elt : Expr} {ifs : List Expr} {scope : Scope} {wi : TI} {g : TG} {tt : TT} (sc : Scope) (N xs ns : List Str) (fr : List Nat) (hnd : X.N.Nodup) (hi : X.N[i]? = some y) (hy : Loc X.env.scope y) (hfn : X.fn y = true)
    (hsw : swapsWith (.ListComp elt [⟨tg, iter, ifs, 0⟩] scope pos) (some (.Name y py)) spos.line X.env = pure true)
    (hc : X.calm = true) (hsc : X.env.scope = sc) (hN : X.N = N) (hcl : ∃ n, X.env.cells = cellsFrom n X.env.scope.names []) (hk : X.env.scope.kind = .function) (kind : scope.kind = .function) (hB : compB sc.names scope.names N ns fr = true)
    (hI : QI X tg iter wi) (hg : ∀ C s₂ H2 fp, QG (cxComp X scope (clOf X.env.cells scope.names []) (xs ++ ns) C s₂ H2 fp) tg g) (hf : ∀ C s₂ H2 fp, QC (cxComp X scope (clOf X.env.cells scope.names []) (xs ++ ns) C s₂ H2 fp) ifs tt)
    (he : ∀ C s₂ H2 fp, QE (cxComp X scope (clOf X.env.cells scope.names []) (xs ++ ns) C s₂ H2 fp) elt te) (hs : ∀ x, foldedSetIterable iter X.env x = pure x := by intro _; rfl) :
    QS X (.Assign [.Name y py] (.ListComp elt [⟨tg, iter, ifs, 0⟩] scope pos) spos) (tAsg (tCompE wi xs.length fr g tt te) (gName i)) :=
  ⟨L2.ps_compE hc (CompOk2.of hsc hN hcl hk kind hB) hnd hi hy (.inl hfn) hsw hI.h (fun C s H f => (hg C s H f).h) (fun C s H f => (hf C s H f).h) (fun C s H f => (he C s H f).h) hs⟩
end
end R
/-! ### the forms of a comprehension that one uses: one name, walked over a list that stays or over a range -/
section
variable {K : PySem.W.Frag} {fr : List Nat} {tt : TT} {te : TE} {σ : St} {Q : VK} {H1 : Hp} {l : Addr}
/-- one turn with the name bound to v -/
noncomputable def Turn1 (fr : List Nat) (tt : TT) (te : TE) (σ : St) (l : Addr) (v : V) (H : Hp) (N : Hp → Prop) : Prop :=
  ∀ (K1 : V → Hp → Prop) (K0 : Hp → Prop), (∀ y H4 zs, H4 l = some (.lst zs) → zs.length < sizeLine → N (upd H4 l (.lst (zs ++ [y]))) → K1 y H4) → (∀ H3, N H3 → K0 H3) →
    tt (some v :: inner σ fr) H fun b H3 => if b = true then te (some v :: inner σ fr) H3 K1 else K0 H3
theorem comp_by1 {J : It} (n : Nat) (Pv : Nat → Hp → Prop) (h0 : Pv 0 (upd H1 l (.lst []))) (hgo : ∀ k H, k < n → Pv k H → J.go k H) (hstop : ∀ H, Pv n H → J.stop n H)
    (hs : ∀ k H v H', k < n → Pv k H → J.yld k H v H' → Turn1 fr tt te σ l v H' (Pv (k + 1))) (hd : ∀ H, Pv n H → Q (.ref l) H) : CompGoal J 1 (gName 0) fr tt te σ Q H1 l := by
  refine ⟨fun k m H => m = n - k ∧ k ≤ n ∧ Pv k H, ⟨n, by simp, Nat.zero_le _, h0⟩, ?_⟩
  rintro k m H ⟨rfl, hk, p⟩
  by_cases hlt : k < n
  · refine .inr ⟨hgo k H hlt p, fun v H' hy os ho => ?_⟩
    obtain ⟨o, rfl⟩ := List.length_eq_one_iff.mp ho
    exact ⟨⟨[some v], rfl, rfl⟩, hs k H v H' hlt p hy _ _ (fun y H4 zs h1 h2 h3 => ⟨zs, n - (k + 1), h1, h2, by omega, rfl, hlt, h3⟩) fun H3 h3 => ⟨n - (k + 1), by omega, rfl, hlt, h3⟩⟩
  · have e : k = n := by omega
    subst e
    exact .inl ⟨hstop H p, hd H p⟩
theorem comp_rng1 {lo : Int} {n : Nat} (Pv : Nat → Hp → Prop) (h0 : Pv 0 (upd H1 l (.lst [])))
    (hs : ∀ k H, k < n → Pv k H → Turn1 fr tt te σ l (.int (lo + k)) H (Pv (k + 1))) (hd : ∀ H, Pv n H → Q (.ref l) H) : CompGoal (Itr lo n) 1 (gName 0) fr tt te σ Q H1 l :=
  comp_by1 n Pv h0 (fun _ _ h _ => h) (fun _ _ => Nat.le_refl _) (fun k H v H' hk p hy => by obtain ⟨rfl, rfl⟩ := hy; exact hs k _ hk p) hd
/-- two names, bound to the two parts of tuples -/
noncomputable def Turn2 (fr : List Nat) (tt : TT) (te : TE) (σ : St) (l : Addr) (v u : V) (H : Hp) (N : Hp → Prop) : Prop :=
  ∀ (K1 : V → Hp → Prop) (K0 : Hp → Prop), (∀ y H4 zs, H4 l = some (.lst zs) → zs.length < sizeLine → N (upd H4 l (.lst (zs ++ [y]))) → K1 y H4) → (∀ H3, N H3 → K0 H3) →
    tt (some v :: some u :: inner σ fr) H fun b H3 => if b = true then te (some v :: some u :: inner σ fr) H3 K1 else K0 H3
theorem comp_by2 {J : It} (n : Nat) (Pv : Nat → Hp → Prop) (h0 : Pv 0 (upd H1 l (.lst []))) (hgo : ∀ k H, k < n → Pv k H → J.go k H) (hstop : ∀ H, Pv n H → J.stop n H)
    (hs : ∀ k H v H', k < n → Pv k H → J.yld k H v H' → ∃ p x y, v = .ref p ∧ SqT K H' p [x, y] ∧ Turn2 fr tt te σ l x y H' (Pv (k + 1))) (hd : ∀ H, Pv n H → Q (.ref l) H) : CompGoal J 2 (gTup K 2 (gCons (gName 0) (gCons (gName 1) gNil))) fr tt te σ Q H1 l := by
  refine ⟨fun k m H => m = n - k ∧ k ≤ n ∧ Pv k H, ⟨n, by simp, Nat.zero_le _, h0⟩, ?_⟩
  rintro k m H ⟨rfl, hk, p⟩
  by_cases hlt : k < n
  · refine .inr ⟨hgo k H hlt p, fun v H' hy os ho => ?_⟩
    obtain ⟨o, o', rfl⟩ : ∃ a b, os = [a, b] := by
      cases os with
      | nil => cases ho
      | cons a t =>
        obtain ⟨b, rfl⟩ := List.length_eq_one_iff.mp (Nat.succ.inj ho)
        exact ⟨a, b, rfl⟩
    obtain ⟨p', x, y, rfl, hq, ht⟩ := hs k H v H' hlt p hy
    exact ⟨p', [x, y], rfl, hq, rfl, x, [y], rfl, y, [], rfl, rfl, ⟨[some x, some y], rfl, rfl⟩, ht _ _ (fun y H4 zs h1 h2 h3 => ⟨zs, n - (k + 1), h1, h2, by omega, rfl, hlt, h3⟩) fun H3 h3 => ⟨n - (k + 1), by omega, rfl, hlt, h3⟩⟩
  · have e : k = n := by omega
    subst e
    exact .inl ⟨hstop H p, hd H p⟩
end
end L2


set_option Elab.async false
set_option linter.all false
set_option maxRecDepth 100000
/-! bundles: whole numbers below 64, as Nat -/
namespace L2
open PySem PySem.Spec PyProof.Rows
theorem Same.upd {H H' : Hp} {l : Addr} (s : Same H H') (h : H l = none) (o : HO) : Same H (upd H' l o) := fun b u q => by rw [upd_ne (ne_of_none q h)]; exact s b u q
/-! ### bits -/
theorem or_nat (a b : Nat) : Builtin.bitOr (a : Int) b = ((a ||| b : Nat) : Int) := by
  unfold Builtin.bitOr Builtin.bitAnd
  have h1 : decide ((0 : Int) ≤ Builtin.bitNot (a : Int)) = false := by unfold Builtin.bitNot; simp; omega
  have h2 : decide ((0 : Int) ≤ Builtin.bitNot (b : Int)) = false := by unfold Builtin.bitNot; simp; omega
  rw [h1, h2]
  show Builtin.bitNot (Builtin.bitNot (((Builtin.bitNot (Builtin.bitNot (a : Int))).toNat ||| (Builtin.bitNot (Builtin.bitNot (b : Int))).toNat : Nat) : Int)) = _
  have e : ∀ x : Int, Builtin.bitNot (Builtin.bitNot x) = x := fun x => by unfold Builtin.bitNot; omega
  rw [e, e, e, Int.toNat_natCast, Int.toNat_natCast]
theorem shl_nat (k : Nat) : (1 : Int) * 2 ^ (k : Int).toNat = ((2 ^ k : Nat) : Int) := by
  rw [Int.toNat_natCast, Int.one_mul, Int.natCast_pow]; rfl
/-! ### comprehensions whose turns only lay new things on the heap -/
section
variable {K : PySem.W.Frag} {fr : List Nat} {tt : TT} {te : TE} {σ : St} {Q : VK} {H1 : Hp} {l : Addr}
theorem comp_rng_map {lo : Int} {n : Nat} (p : Nat → Bool) (f : Nat → V) (hn : n ≤ 100) (hl : H1 l = none)
    (ht : ∀ k H, k < n → Same H1 H → ∀ C, (∀ H', Same H H' → C (p k) H') → tt (some (.int (lo + k)) :: inner σ fr) H C)
    (he : ∀ k H, k < n → p k = true → Same H1 H → ∀ C, (∀ H', Same H H' → C (f k) H') → te (some (.int (lo + k)) :: inner σ fr) H C)
    (hd : ∀ H, Same H1 H → H l = some (.lst (((List.range n).filter p).map f)) → Q (.ref l) H) : CompGoal (Itr lo n) 1 (gName 0) fr tt te σ Q H1 l := by
  refine comp_rng1 (fun k H => Same H1 H ∧ H l = some (.lst (((List.range k).filter p).map f))) ⟨same_new hl _, upd_same⟩ ?_ fun H ⟨s, e⟩ => hd H s e
  rintro k H hk ⟨s, e⟩ K1 K0 h1 h0
  refine ht k H hk s _ fun H' s' => ?_
  have e' : (List.range (k + 1)).filter p = (List.range k).filter p ++ (if p k = true then [k] else []) := by
    rw [List.range_succ, List.filter_append]
    cases hp : p k <;> simp [hp]
  cases hp : p k with
  | false =>
    rw [if_neg (by decide)]
    refine h0 _ ⟨s.trans s', ?_⟩
    rw [e', hp, if_neg (by decide), List.append_nil]
    exact s' _ _ e
  | true =>
    rw [if_pos rfl]
    refine he k H' hk hp (s.trans s') _ fun H'' s'' => ?_
    refine h1 _ _ _ (s'' _ _ (s' _ _ e)) ?_ ⟨((s.trans s').trans s'').upd hl _, ?_⟩
    · rw [List.length_map]
      have := List.length_filter_le p (List.range k)
      rw [List.length_range] at this
      exact small1000 (by omega)
    · rw [upd_same, e', hp, if_pos rfl, List.map_append]; rfl
end
theorem at_nat {α : Type} {xs : List α} {k : Nat} {x : α} (h : xs[k]? = some x) : atI xs (k : Int) = some x := atI_nat h
end L2
namespace L2
open PySem PySem.Spec PyProof.Rows
/-! ### == and != of two lists of whole numbers -/
noncomputable def rEqI (K : PySem.W.Frag) (neg : Bool) : R2 := fun x y H Q => ∃ (a b : Addr) (ns ms : List Int), x = .ref a ∧ y = .ref b ∧ SqL K H a (ns.map V.int) ∧ SqL K H b (ms.map V.int) ∧ Q (.bl (if neg then !decide (ns = ms) else decide (ns = ms))) H
theorem ints_all {ns ms : List Int} (h : ns.length = ms.length) : ((List.range ns.length).all fun j => ns.getD j 0 == ms.getD j 0) = decide (ns = ms) := by
  rw [Bool.eq_iff_iff, List.all_eq_true, decide_eq_true_iff]
  constructor
  · intro q
    refine List.ext_getElem? fun i => ?_
    by_cases hi : i < ns.length
    · have := q i (List.mem_range.mpr hi)
      have e : ns.getD i 0 = ms.getD i 0 := by simpa using this
      rw [List.getD_eq_getElem?_getD, List.getD_eq_getElem?_getD, List.getElem?_eq_getElem hi, List.getElem?_eq_getElem (by rw [← h]; exact hi)] at e
      rw [List.getElem?_eq_getElem hi, List.getElem?_eq_getElem (by rw [← h]; exact hi)]
      exact congrArg some e
    · rw [List.getElem?_eq_none (by omega), List.getElem?_eq_none (by omega)]
  · intro e j _
    rw [e]; simp
theorem eqAt_ints {A : Around} {s : Shared} {ns ms : List Int} {us vs : List Value} (r1 : Vals (ns.map V.int) us) (r2 : Vals (ms.map V.int) vs) (j : Nat) (h1 : j < us.toArray.size) (h2 : j < vs.toArray.size) : SeqAt.EqAt A s us.toArray[j] vs.toArray[j] (ns.getD j 0 == ms.getD j 0) := by
  obtain ⟨t, e1⟩ := ints_at r1 (Array.getElem?_eq_getElem h1)
  obtain ⟨t', e2⟩ := ints_at r2 (Array.getElem?_eq_getElem h2)
  rw [e1, e2]
  exact SeqAt.EqAt.int_int _ _ _ _
theorem op_eqI {X : Cx} (hu : X.A.units < cLine) : OpR X (compareOp .Eq) (rEqI X.K false) := by
  intro pins s σ H x y v u Q I rx ry h
  obtain ⟨a, b, ns, ms, rfl, rfl, ha, hb, q⟩ := h
  cases rx; cases ry
  obtain ⟨its, r1, p1, _⟩ := I.list ha
  obtain ⟨its2, r2, p2, _⟩ := I.list hb
  have l1 := r1.length
  have l2 := r2.length
  rw [List.length_map] at l1 l2
  by_cases hl : ns.length = ms.length
  · refine SeqAt.eq_listAt p1.isList p2.isList (by rw [List.size_toArray, List.size_toArray]; omega) hu (fun j h1 h2 => eqAt_ints r1 r2 j h1 h2) ?_
    refine ⟨_, H, I, ?_, q⟩
    show Value.bool _ = Value.bool (decide (ns = ms))
    rw [List.size_toArray, ← l1, ints_all hl]
  · refine SeqAt.eq_list_lengthsAt p1.isList p2.isList (by rw [List.size_toArray, List.size_toArray]; simp; omega) hu ?_
    refine ⟨_, H, I, ?_, q⟩
    show Value.bool false = Value.bool (decide (ns = ms))
    rw [decide_eq_false fun e => hl (by rw [e])]
end L2
namespace L2
open PySem PySem.Spec PyProof.Rows
section
variable {X : Cx}
theorem op_orN : OpR X (binaryOp .BitOr) (fun x y H Q => ∃ a b : Nat, x = .int a ∧ y = .int b ∧ Q (.int ((a ||| b : Nat) : Int)) H) := by
  intro pins s σ H x y v u Q I rx ry ⟨a, b, e1, e2, q⟩
  exact op_or pins s σ H x y v u Q I rx ry ⟨_, _, e1, e2, by show Q (.int (Builtin.bitOr a b)) H; rw [or_nat]; exact q⟩
theorem op_shlN : OpR X (binaryOp .LShift) (fun x y H Q => ∃ k : Nat, x = .int 1 ∧ y = .int k ∧ k ≤ 1000 ∧ Q (.int ((2 ^ k : Nat) : Int)) H) := by
  intro pins s σ H x y v u Q I rx ry ⟨k, e1, e2, hk, q⟩
  exact op_shl pins s σ H x y v u Q I rx ry ⟨1, k, e1, e2, ⟨by omega, by omega, by decide⟩, by show Q (.int ((1 : Int) * 2 ^ (k : Int).toNat)) H; rw [shl_nat]; exact q⟩
end
end L2
namespace L2
open PySem PySem.Spec PyProof.Rows
/-- the answer by an equation -/
theorem opE {X : Cx} {f : Value → Value → Sem Value} {C : Int → Int → Prop} {g : Int → Int → V} (h : OpR X f (rI C g)) : OpR X f (fun x y H Q => ∃ i j r, x = .int i ∧ y = .int j ∧ C i j ∧ g i j = r ∧ Q r H) := by
  intro pins s σ H x y v u Q I rx ry ⟨i, j, r, e1, e2, hc, e3, q⟩
  subst e3
  exact h pins s σ H x y v u Q I rx ry ⟨i, j, e1, e2, hc, q⟩
theorem opE0 {X : Cx} {f : Value → Value → Sem Value} {g : Int → Int → V} (h : OpR X f (rI0 g)) : OpR X f (fun x y H Q => ∃ i j r, x = .int i ∧ y = .int j ∧ g i j = r ∧ Q r H) := by
  intro pins s σ H x y v u Q I rx ry ⟨i, j, r, e1, e2, e3, q⟩
  subst e3
  exact h pins s σ H x y v u Q I rx ry ⟨i, j, e1, e2, q⟩
end L2


set_option Elab.async false
set_option linter.all false
set_option maxRecDepth 100000
/-! for a, b in zip(xs, ys) -/
namespace L2
open PySem PySem.Spec PyProof.Rows
section
variable {X : Cx} {pins : List (Addr × Obj)} {σ : St} {H : Hp} {s : Shared} {h' : Heap}
theorem Inv.turnedL {t' : Nat} {ch : List Addr} (I : Inv X pins σ H s) (k : ∀ b o, b ∉ ch → s.heap.get? b = some o → h'.get? b = some o) (hf : ∀ b ∈ ch, FpOk X pins H b) : Inv X pins σ H { s with heap := h', toks := t' } := by
  have nit : ∀ b u, H b = some u → b ∉ ch := fun b u e z => by have := (hf b z).1; rw [e] at this; cases this
  refine I.step (g' := s.gens) (d' := s.drawn) (ch := ch) (fun b hb => ?_) (fun b o _ _ hc e _ => k b o hc e) (fun b o _ _ hc e _ => ⟨o.slots, k b o hc e⟩) (fun _ _ _ _ n => n)
    (fun b o hc e => ⟨o, k b o hc e⟩) (fun _ _ e => e) (fun _ _ _ e => e) (fun b ps e => ⟨#[], by rw [e]; simp⟩) (fun m hm => ?_) (fun b u e => ?_) I.bare
  · obtain ⟨f0, f1, f2, f3, f4, f5⟩ := hf b hb
    exact ⟨f3, f1, f4, f5⟩
  · obtain ⟨o, es, ep, ho, r⟩ := hm
    exact ⟨o, es, ep, k _ o (fun z => (hf _ z).2.1 rfl) ho, r⟩
  · refine (I.hok b u e).stay (fun c v hc q => k c v ?_ q) (fun _ q => q) fun _ _ q => q
    rcases hc with z | z
    · rw [z]; exact nit b u e
    · exact nit c _ z
end
noncomputable def Itz (K : PySem.W.Frag) (a b : Addr) : It :=
  ⟨fun i H => ∃ xs x ys y, SqL K H a xs ∧ xs[i]? = some x ∧ SqL K H b ys ∧ ys[i]? = some y,
   fun i H v H' => ∃ p x y, v = .ref p ∧ H p = none ∧ H' = upd H p (.tup [x, y]) ∧ (∀ xs, SqL K H a xs → xs[i]? = some x) ∧ (∀ ys, SqL K H b ys → ys[i]? = some y),
   fun i H => ∃ xs ys, SqL K H a xs ∧ SqL K H b ys ∧ (xs.length ≤ i ∨ ys.length ≤ i)⟩
theorem turn_zip {P : Program} {w : World} {K : PySem.W.Frag} {es : List Expr} {kk : Nat} {pos : Pos} (a b z TI TO i1 i2 : Addr) (D : ZipApart z TI TO i1 i2 a b) :
    Turn P w K (.Tuple es kk pos) (Itz K a b) [z, TI, TO, i1, i2] z (fun i h => IsZip h z TI TO .none ∧ IsPair h TI (.ref i1) (.ref i2) ∧ (∃ u v, IsPair h TO u v) ∧ h.IsListIter i1 a i ∧ h.IsListIter i2 b i) where
  mem := by simp
  obj := fun i h st c hc => by
    obtain ⟨hz, hTI, ⟨u, v, hTO⟩, ⟨o1, e1, c1, d1⟩, ⟨o2, e2, c2, d2⟩⟩ := st
    simp only [List.mem_cons, List.not_mem_nil, or_false] at hc
    rcases hc with rfl | rfl | rfl | rfl | rfl
    · exact ⟨_, hz, fun v x => by cases x⟩
    · exact ⟨_, hTI, fun v x => by cases x⟩
    · exact ⟨_, hTO, fun v x => by cases x⟩
    · exact ⟨_, e1, fun v x => by rw [d1] at x; cases x⟩
    · exact ⟨_, e2, fun v x => by rw [d2] at x; cases x⟩
  keep := fun i h h' st k => by
    obtain ⟨hz, hTI, ⟨u, v, hTO⟩, h1, h2⟩ := st
    exact ⟨k z (by simp) _ hz, k TI (by simp) _ hTI, ⟨u, v, k TO (by simp) _ hTO⟩, h1.at fun o e => k i1 (by simp) o e, h2.at fun o e => k i2 (by simp) o e⟩
  item := by
    intro X hP hw hK hc i pins s σ H E I hf st hg
    subst hP hw hK
    obtain ⟨hz, hTI, ⟨u, v, hTO⟩, h1, h2⟩ := st
    obtain ⟨xs, x, ys, y, hq1, hx, hq2, hy⟩ := hg
    obtain ⟨its, rv, p, hz1⟩ := I.list hq1
    obtain ⟨its2, rv2, p2, hz2⟩ := I.list hq2
    obtain ⟨ux, hux, rux⟩ := rv.get hx
    obtain ⟨uy, huy, ruy⟩ := rv2.get hy
    refine wpAny_pyNext_zip_item D hz hTI hTO h1 h2 p.isList p2.isList (x := ux) (y := uy) (by simpa using hux) (by simpa using huy) fun h' a1 a2 a3 a4 a5 a6 hk => ?_
    have lt : ∀ {c o}, s.heap.get? c = some o → c < s.heap.objs.size := fun e => Heap.lt_size e
    have ltz : ∀ c ∈ [z, TI, TO, i1, i2], c < s.heap.objs.size := by
      intro c hc
      simp only [List.mem_cons, List.not_mem_nil, or_false] at hc
      rcases hc with rfl | rfl | rfl | rfl | rfl
      · exact lt hz
      · exact lt hTI
      · exact lt hTO
      · obtain ⟨_, e, _⟩ := h1; exact lt e
      · obtain ⟨_, e, _⟩ := h2; exact lt e
    -- the tuple is laid, then the iterator's objects turn
    have I1 : Inv X pins σ (upd H s.heap.objs.size (.tup [x, y])) { s with heap := s.heap.push { cls := .type "tuple", data := .seq #[ux, uy] }, toks := s.toks } := by
      refine I.laid (fun c o e => Heap.get?_push_of_some _ e) (Nat.le_refl _) ⟨by show 2 ≤ sizeLine; decide, [ux, uy], .cons rux (.cons ruy .nil), ?_⟩
      exact ⟨_, Heap.get?_push_size _ rfl, rfl, _, rfl⟩
    have hfr : ∀ c ∈ [z, TI, TO, i1, i2], upd H s.heap.objs.size (.tup [x, y]) c = none := fun c hc => by
      rw [upd_ne (Nat.ne_of_lt (ltz c hc))]; exact (hf c hc).1
    have hf1 : ∀ c ∈ [z, TI, TO, i1, i2], FpOk X pins (upd H s.heap.objs.size (.tup [x, y])) c := fun c hc => ⟨hfr c hc, (hf c hc).2⟩
    have kk : ∀ c o, c ∉ [z, TI, TO, i1, i2] → (s.heap.push { cls := .type "tuple", data := .seq #[ux, uy] }).get? c = some o → h'.get? c = some o := fun c o hc e => by
      rcases Heap.get?_push_cases e with ⟨e9, e8⟩ | e'
      · subst e9 e8; exact a5
      · exact hk c o (fun x => hc (by simp [x])) (fun x => hc (by simp [x])) (fun x => hc (by simp [x])) (fun x => hc (by simp [x])) e'
    have I2 : Inv X pins σ (upd H s.heap.objs.size (.tup [x, y])) { s with heap := h' } := by
      have z := Inv.turnedL (t' := s.toks) I1 kk hf1
      exact z
    refine ⟨_, rfl, wpAny_letOwnedTupleGo_zip (s := { s with heap := h' }) a1 fun h'' hz'' hs'' => ?_⟩
    have I3 : Inv X pins σ (upd H s.heap.objs.size (.tup [x, y])) { s with heap := h'' } :=
      by
      have z := Inv.turnedL (h' := h'') (t' := s.toks) (ch := [z]) I2 (fun c o hc e => hs''.extBut c o (fun q => hc (by simp [q])) e) (fun c hc => hf1 c (by simp at hc; simp [hc]))
      exact z
    refine ⟨.ref s.heap.objs.size, _, I3, rfl, ⟨_, x, y, rfl, I.hok.fresh (Nat.le_refl _), rfl, fun zs hzs => by rw [I.list_inj hzs hq1]; exact hx, fun zs hzs => by rw [I.list_inj hzs hq2]; exact hy⟩, ?_, hfr⟩
    have hTI' : IsPair h' TI (.ref i1) (.ref i2) := hk _ _ D.TIz D.TITO D.TIi1 D.TIi2 hTI
    exact ⟨hz'', hs''.extBut _ _ D.TIz hTI', ⟨_, _, hs''.extBut _ _ D.TOz a2⟩, a3.extBut hs''.extBut D.i1z, a4.extBut hs''.extBut D.i2z⟩
  done := by
    intro X hP hw hK hc i pins s σ H E I hf st hg
    subst hP hw hK
    obtain ⟨hz, hTI, ⟨u, v, hTO⟩, h1, h2⟩ := st
    obtain ⟨xs, ys, hq1, hq2, hend⟩ := hg
    obtain ⟨its, rv, p, hz1⟩ := I.list hq1
    obtain ⟨its2, rv2, p2, hz2⟩ := I.list hq2
    have l1 := rv.length
    have l2 := rv2.length
    refine wpAny_pyNext_zip_end (I.ok.hd hc) D hz hTI hTO h1 h2 p.isList p2.isList ?_ fun h' hk => ⟨rfl, ?_⟩
    · rcases hend with q | q
      · exact .inl (by simp; omega)
      · exact .inr (by simp; omega)
    · exact I.turnedL (t' := s.toks) (ch := [z, TI, TO, i1, i2]) (fun c o hc e => hk c o (fun x => hc (by simp [x])) (fun x => hc (by simp [x])) (fun x => hc (by simp [x])) (fun x => hc (by simp [x])) e) hf
  self := fun _ _ _ _ _ st h => wpAny_pyIter_zip st.1 h
noncomputable def iZip (K : PySem.W.Frag) (ta : TA) : TI := fun σ H R => ta σ H fun vs H1 => ∃ a b, vs = [.ref a, .ref b] ∧ (∃ xs, SqL K H1 a xs) ∧ (∃ ys, SqL K H1 b ys) ∧ R (Itz K a b) H1
theorem pi_zip {X : Cx} {es : List Expr} {kk : Nat} {tp : Pos} {a b : Expr} {ta : TA} {p pos : Pos} (hg : Gl X "zip") (hm : X.mg "zip" = none) (ha : PA X [a, b] ta) (hs : noStar a = true) (hs2 : noStar b = true) :
    PI X (.Tuple es kk tp) (.Call (.Name "zip" p) [a, b] [] pos) (iZip X.K ta) := by
  intro pins s σ H R I h
  refine Call_ (ld_blt I hg hm boot_zip (PyProof.Rows.callWith_type1 (thn (ha pos pins s σ H _ I h) fun us s1 zz => ?_) (by rw [star_cons hs, star_cons hs2]) (by rw [star_cons hs2]; rfl)))
  obtain ⟨vs, H1, I1, r1, q1⟩ := zz
  obtain ⟨l1, l2, e, ⟨xs, hq1⟩, ⟨ys, hq2⟩, q⟩ := q1
  subst e
  obtain ⟨u, u', rfl, ru, ru'⟩ := vals2 r1
  cases ru; cases ru'
  obtain ⟨its, rv, p1, _⟩ := I1.list hq1
  obtain ⟨its2, rv2, p2, _⟩ := I1.list hq2
  have lt1 : l1 < s1.heap.objs.size := by obtain ⟨_, e, _⟩ := p1.isList; exact Heap.lt_size e
  have lt2 : l2 < s1.heap.objs.size := by obtain ⟨_, e, _⟩ := p2.isList; exact Heap.lt_size e
  refine call_zip_2 p1.isList p2.isList fun h' hz hTI hTO hi1 hi2 hsz hk => ?_
  refine wpAny_pyIter_zip hz ?_
  refine ⟨s1.heap.objs.size + 4, _, _, _, H1, rfl, I1.kept (t' := s1.toks) hk, turn_zip l1 l2 _ _ _ _ _ (zipApart_new lt1 lt2), ⟨hz, hTI, ⟨_, _, hTO⟩, hi1, hi2⟩, fun c hc => ?_, q⟩
  have hge : s1.heap.objs.size ≤ c := by
    simp only [List.mem_cons, List.not_mem_nil, or_false] at hc
    rcases hc with rfl | rfl | rfl | rfl | rfl
    · exact Nat.le_add_right _ _
    · exact Nat.le_add_right _ _
    · exact Nat.le_add_right _ _
    · exact Nat.le_refl _
    · exact Nat.le_add_right _ _
  exact I1.fpOk hge (I1.hok.fresh hge)
namespace R
theorem pi_zip {X : Cx} {es : List Expr} {kk : Nat} {tp : Pos} {a b : Expr} {ta : TA} {p pos : Pos} (hg : Gl X "zip") (hm : X.mg "zip" = none) (ha : QA X [a, b] ta) (hs : noStar a = true := by rfl) (hs2 : noStar b = true := by rfl) :
    QI X (.Tuple es kk tp) (.Call (.Name "zip" p) [a, b] [] pos) (iZip X.K ta) := ⟨L2.pi_zip hg hm ha.h hs hs2⟩
end R
/-! ### the forms one uses -/
theorem comp_zip2 {K : PySem.W.Frag} {fr : List Nat} {tt : TT} {te : TE} {σ : St} {Q : VK} {H1 : Hp} {l : Addr} {a b : Addr} {xs ys : List V} (hlen : xs.length = ys.length) (Pv : Nat → Hp → Prop) (h0 : Pv 0 (upd H1 l (.lst []))) (hl : ∀ k H, k ≤ xs.length → Pv k H → SqL K H a xs ∧ SqL K H b ys)
    (hs : ∀ k x y p H, xs[k]? = some x → ys[k]? = some y → Pv k H → H p = none → Turn2 fr tt te σ l x y (upd H p (.tup [x, y])) (Pv (k + 1))) (hd : ∀ H, Pv xs.length H → Q (.ref l) H) :
    CompGoal (Itz K a b) 2 (gTup K 2 (gCons (gName 0) (gCons (gName 1) gNil))) fr tt te σ Q H1 l :=
  comp_by2 xs.length Pv h0 (fun k H h p => ⟨xs, xs[k], ys, ys[k], (hl k H (Nat.le_of_lt h) p).1, by simp [h], (hl k H (Nat.le_of_lt h) p).2, by simp [hlen ▸ h]⟩) (fun H p => ⟨xs, ys, (hl _ H (Nat.le_refl _) p).1, (hl _ H (Nat.le_refl _) p).2, .inl (Nat.le_refl _)⟩)
    (fun k H v H' hk p hy => by
      obtain ⟨q, x, y, rfl, hn, rfl, h1, h2⟩ := hy
      exact ⟨q, x, y, rfl, SqT.of upd_same, hs k x y q H (h1 _ (hl k H (Nat.le_of_lt hk) p).1) (h2 _ (hl k H (Nat.le_of_lt hk) p).2) p hn⟩) hd
end L2


set_option Elab.async false
set_option linter.all false
set_option maxRecDepth 100000
/-! max(xs, default=d) -/
namespace L2
open PySem PySem.Spec PyProof.Rows
section
variable {prog : Program} {w : World} {A : Around} {R : Result → Shared → Prop} {I : Addr} {fp wr : List Addr} {n : Nat} {P : Nat → Value → Prop} {St' : Nat → Heap → Prop} {kw : List (Str × Value)}
end
section
variable {X : Cx}
end
namespace R
end R
end L2


set_option Elab.async false
set_option linter.all false
set_option maxRecDepth 100000
/-! bundles within bundles; what offers tell -/
namespace L2
/-! ### parts -/
/-! ### worths and offers -/
end L2


set_option Elab.async false
set_option linter.all false
set_option maxRecDepth 100000
/-! a def with one default value, whatever it is -/
namespace L2
open PySem PySem.Spec PyProof.Rows
section
variable {P : Program} {w : World} {K : PySem.W.Frag} {mg : Str → Option Value} {base : Heap}
end
end L2


set_option Elab.async false
set_option linter.all false
set_option maxRecDepth 100000
/-! tuples of two whole numbers and lists of them: !=, ==; list.clear, pop(i), insert; a < b < c -/
namespace L2
open PySem PySem.Spec PyProof.Rows
section
variable {X : Cx}
end
/-! ### shut -/
namespace R
section
variable {X : Cx} {e e2 o a b c : Expr} {to ta tb tc : TE} {t : TA} {pos apos cpos : Pos}
theorem pe_chain {op op' : CmpOp} {r r' : R2} (h1 : OpR X (compareOp op) r) (h2 : OpR X (compareOp op') r') (ha : QE X a ta) (hb : QE X b tb) (hc : QE X c tc)
    (hm : lastMarks [op, op'] [b, c] = false := by with_unfolding_all rfl) : QE X (.Compare a [op, op'] [b, c] pos) (tChain r r' ta tb tc) := ⟨L2.pe_chain h1 h2 ha.h hb.h hc.h hm⟩
theorem pt_chain {op op' : CmpOp} {r r' : R2} (h1 : OpR X (compareOp op) r) (h2 : OpR X (compareOp op') r') (ha : QE X a ta) (hb : QE X b tb) (hc : QE X c tc)
    (hm : lastMarks [op, op'] [b, c] = false := by with_unfolding_all rfl) : QT X (.Compare a [op, op'] [b, c] pos) (tTest (tChain r r' ta tb tc)) := ⟨L2.pt_chain h1 h2 ha.h hb.h hc.h hm⟩
end
end R
end L2


set_option Elab.async false
set_option linter.all false
set_option maxRecDepth 100000
/-! own classes: making, fields, methods chosen by the object's class, isinstance -/
namespace L2
open PySem PySem.Spec PyProof.Rows
noncomputable def clsBody (s : Stmt) : List Stmt := match s with
  | .ClassDef _ _ _ b _ _ _ _ _ _ _ => b
  | _ => []
/-- what is known of an own class: its name in the module, the names that are no attributes of it -/
structure Own (K : PySem.W.Frag) (mg : Str → Option Value) (x : Str) (C : Addr) (nos : List Str) : Prop where
  at_ : mg x = some (.ref C)
  cls : Cls K C
  makes : PySem.W.makesIn K C = true
  kp : PySem.W.keepIn K (.ref C) = true
  no : ∀ f ∈ nos, NoAttr K C f
  t1 : PySem.W.findIn K (.ref C) "__class__" = some (some (.builtin "object.__class__"))
  t2 : PySem.W.specialIn K (.builtin "object.__class__") "__get__" = some (some (.builtin "getset_descriptor.__get__"))
  t3 : PySem.W.takesIn K (.builtin "object.__class__") = some true
  t4 : PySem.W.mroIn K C (.type "object") = some true
structure MethD (P : Program) (w : World) (K : PySem.W.Frag) (mg : Str → Option Value) (base : Heap) (k : Nat) (C : Addr) (m : Str) (ps : List Str) (sp : Sp) : Prop where
  ex : ∃ (f : Addr) (fd : FuncData), FnOk P w K mg base CX0 k f fd ps sp ∧ Binds K fd ps [] ∧ Meth K C m f ∧ Cls K C
structure MakeD (P : Program) (w : World) (K : PySem.W.Frag) (mg : Str → Option Value) (base : Heap) (k : Nat) (x : Str) (C : Addr) (ps : List Str) (sp : Sp) : Prop where
  ex : ∃ (f : Addr) (fd : FuncData), FnOk P w K mg base CX0 k f fd ps sp ∧ Binds K fd ps [] ∧ Mk K C f ∧ mg x = some (.ref C)
section
variable {X : Cx}
/-- o.m(..): T tells the promise of m by the object's class -/
noncomputable def tMethV (T : Addr → Sp → Prop) (m : Str) (ta : TE) (t : TA) : TE := fun σ H Q => ta σ H fun x H1 => ∃ (a C dx : Addr) (fs : List (Str × V)) (sp : Sp), x = .ref a ∧ H1 a = some (.ins C dx fs) ∧ fs.lookup m = none ∧ T C sp ∧ t σ H1 fun vs H2 => sp (x :: vs) H2 Q E0
theorem pe_methV0 {T : Addr → Sp → Prop} {m : Str} {o : Expr} {ta : TE} {apos pos : Pos} {j : Nat} {pl : Sem Bool} (he : PE X o ta) (hT : ∀ C sp, T C sp → ∃ ps, MethD X.prog X.w X.K X.mg X.base j C m ps sp) (hr : Room j X.A)
    (ht : eval (.Call (.Attribute o m apos) [] [] pos) X.env = (do
      let ov ← eval o X.env
      standAt apos.atName
      let (f, first) ← holding [ov] (getMethod ov m pl)
      callWith pos f first (backTo pos (starEach [] X.env)) (backToKw pos (keywordEach [] X.env)))) :
    PE X (.Call (.Attribute o m apos) [] [] pos) (tMethV T m ta tNil) := by
  intro pins s σ H Q I h
  refine PySem.W.methodCall_KW (pl := pl) (thn (he pins s σ H _ I h) fun u s1 zz => ?_) ht
  obtain ⟨x, H1, I1, rx, a, C, dx, fs, sp, ex, ea, l, hC, q⟩ := zz
  subst ex
  obtain rfl : u = Value.ref a := rx
  obtain ⟨ps, D⟩ := hT C sp hC
  obtain ⟨f, fd, F, b, hm, c⟩ := D.ex
  refine getmeth_ok I1 ea c hm l (PySem.W.callWith_K0 (first := [.ref a]) I1.kIn hm.kp ?_)
  exact run_fn (us := [.ref a]) (vs := [.ref a]) (dvs := []) F hr b .nil pass0 I1 (.cons rfl .nil) q
end
namespace R
section
variable {X : Cx} {e o value : Expr} {es : List Expr} {te to ta tv : TE} {t : TA} {pos p apos pos' : Pos}
theorem pe_fld (K : PySem.W.Frag) {f : Str} (he : QE X e ta) (hb : attributeBase e f X.env (eval e X.env) = eval e X.env := by rfl) (hK : X.K = K := by rfl) : QE X (.Attribute e f pos) (tFld K ta f) := by subst hK; exact ⟨L2.pe_fld he.h hb⟩
theorem ps_fld {f : Str} (ha : QE X o ta) (hv : QE X value tv) (hs : noComp value = true := by rfl) : QS X (.Assign [.Attribute o f pos'] value pos) (sFld X.K ta tv f) := ⟨L2.ps_fld ha.h hv.h (swaps_no hs)⟩
theorem pe_makeD {k j : Nat} {x : Str} {C : Addr} {ps : List Str} {sp : Sp} (D : MakeD X.prog X.w X.K X.mg X.base k x C ps sp) (hr : Room j X.A) (hj : k + 1 ≤ j) (hg : Gl X x) (ha : QA X (e :: es) t) (hs : (e :: es).all noStar = true := by rfl) (hdb : (x == ("__debug__" : Str)) = false := by decide) :
    QE X (.Call (.Name x p) (e :: es) [] pos) (tMake C sp [] E0 t) := by
  obtain ⟨f, fd, F, b, M, m⟩ := D.ex
  exact ⟨L2.pe_make M F (hr.mono hj) hg m b .nil pass0 ha.h hdb (star_cons (all_cons1 hs).1) (star_any (all_cons1 hs).2)⟩
theorem pe_methV0 {T : Addr → Sp → Prop} {m : Str} {k j : Nat} {pl : Sem Bool} (he : QE X o ta) (hT : ∀ C sp, T C sp → ∃ ps, MethD X.prog X.w X.K X.mg X.base k C m ps sp) (hr : Room j X.A) (hj : k ≤ j)
    (ht : eval (.Call (.Attribute o m apos) [] [] pos) X.env = (do
      let ov ← eval o X.env
      standAt apos.atName
      let (f, first) ← holding [ov] (getMethod ov m pl)
      callWith pos f first (backTo pos (starEach [] X.env)) (backToKw pos (keywordEach [] X.env))) := by rfl) :
    QE X (.Call (.Attribute o m apos) [] [] pos) (tMethV T m ta tNil) := ⟨L2.pe_methV0 (pl := pl) he.h hT (hr.mono hj) ht⟩
end
end R
end L2


set_option Elab.async false
set_option linter.all false
set_option maxRecDepth 100000
/-! trees of bids: depth, tally, what is spoken of -/
namespace L2
open PySem PySem.Spec PyProof.Rows
/-! ### lists side by side -/
section
variable {α β : Type} {R S : α → β → Prop} {xs xs' : List α} {ys ys' : List β}
end
end L2


set_option Elab.async false
set_option linter.all false
set_option maxRecDepth 100000
/-! what bids are worth, as functions of the bundle -/
namespace L2
open PySem PySem.Spec PyProof.Rows
/-! ### tables -/
/-! ### the greatest, from nought on -/
end L2
namespace L2.R
open PySem PySem.Spec PyProof.Rows
variable {X : Cx} {e : Expr} {te : TE} {pos : Pos}
end L2.R


set_option Elab.async false
set_option linter.all false
set_option maxRecDepth 100000
/-! wishes of groups that are apart -/
namespace L2
open PySem PySem.Spec PyProof.Rows
/-! ### one wish in other words -/
end L2


set_option Elab.async false
set_option linter.all false
set_option maxRecDepth 100000
/-! a list taken apart: x, y = [.., ..] -/
namespace L2
open PySem PySem.Spec PyProof.Rows
section
variable {prog : Program} {w : World} {A : Around} {E : Value → Shared → Prop}
end
namespace R
end R
end L2


set_option Elab.async false
set_option linter.all false
set_option maxRecDepth 100000
/-! refusals: constructors that raise, a try that goes on, isinstance of a tuple of classes -/
namespace L2
open PySem PySem.Spec PyProof.Rows PySem.W
section
variable {P : Program} {w : World} {K : PySem.W.Frag} {mg : Str → Option Value} {base : Heap}
end
/-! ### isinstance of a tuple of own classes -/
theorem vals_adrs : ∀ {ds : List Addr} {us : List Value}, Vals (ds.map V.ref) us → us = ds.map Value.ref
  | [], _, .nil => rfl
  | d :: ds, _, .cons h r => by
    have e := vals_adrs r
    subst e
    cases h
    rfl
/-! ### a try whose body raises nothing -/
namespace R
section
variable {X : Cx} {e : Expr} {es : List Expr} {te : TE} {t : TA} {pos p : Pos}
theorem pe_cls {x : Str} {D : Addr} (hg : Gl X x) (hm : X.mg x = some (.ref D)) (hdb : (x == ("__debug__" : Str)) = false := by decide) : QE X (.Name x p) (tC (.ref D)) := ⟨L2.pe_glob hg hm rfl hdb⟩
end
end R
end L2


set_option Elab.async false
set_option linter.all false
set_option maxRecDepth 100000
/-! an exception with a dict of its own, on its way -/
namespace L2
open PySem PySem.Spec PyProof.Rows PySem.W
theorem dict_map (o : Obj) (f : Array Value → Array Value) : (Obj.mapFields f o).dict = o.dict := by
  obtain ⟨c, d, dt, sl⟩ := o
  cases dt <;> rfl
/-- the exception's newest entry: where it stands, its mark -/
noncomputable def Tb (h B : Heap) (e : Addr) (vs : Array Value) (m : Value) : Prop := ∃ T oT ts, vs[1]? = some (.ref T) ∧ B.get? T = none ∧ T ≠ e ∧ h.get? T = some oT ∧ oT.data = .fields ts ∧ ts[3]? = some m
/-- the exception e of the class C with the dict dx over B; its newest entry bears m (none: no entry yet) -/
structure Air (B : Heap) (l : List Env) (e : Addr) (C : Value) (dx : Option Addr) (m : Option Value) (h : Heap) : Prop where
  keep : B.StaysIn h
  new : B.get? e = none
  fun_ : h.FunFrames B l
  at_ : ∃ oe vs, h.get? e = some oe ∧ oe.cls = C ∧ oe.dict = dx ∧ oe.data = .fields vs ∧ 1 < vs.size ∧ (∀ x, m = some x → Tb h B e vs x) ∧ (m = none → vs[1]? = some .none)
theorem Air.there {B h : Heap} {l : List Env} {e : Addr} {C : Value} {dx : Option Addr} {m : Option Value} (x : Air B l e C dx m h) : ∃ oe vs, h.get? e = some oe ∧ oe.cls = C ∧ oe.dict = dx ∧ oe.data = .fields vs := by
  obtain ⟨oe, vs, a, b, c, d, _⟩ := x.at_
  exact ⟨oe, vs, a, b, c, d⟩
theorem Air.drop {B h : Heap} {n : Env} {l : List Env} {e : Addr} {C : Value} {dx : Option Addr} {m : Option Value} (x : Air B (n :: l) e C dx m h) : Air B l e C dx m h := ⟨x.keep, x.new, let ⟨_, _, z⟩ := x.fun_; z, x.at_⟩
section
variable {M : Model} {A : Around} {E : Value → Shared → Prop} {s : Shared} {B : Heap} {env : Env} {outer : List Env} {L e : Addr} {C : Value} {dx : Option Addr} {Q : Unit → Shared → Prop}
/-- a new entry is laid for this frame -/
theorem entryD {oe : Obj} {vs : Array Value} {head : Value} {hn : Bool} (hfr : A.frames = some (env :: outer)) (hf : env.frame = some L)
    (kb : B.StaysIn s.heap) (ne : B.get? e = none) (fl : s.heap.FunFrames B (env :: outer)) (he : s.heap.get? e = some oe) (hc : oe.cls = C) (hdx : oe.dict = dx) (hd : oe.data = .fields vs) (hz : 1 < vs.size)
    (k : ∀ h', Air B (env :: outer) e C dx (some (rawInt L)) h' → s.heap.UpToSlots h' → Q () { s with heap := h' }) :
    wpAny M A (do let a ← frameOf env; let pl ← entryPlaceOf L hn; let b ← EntryCells.newEntry head a .none (rawInt L) .none pl; setField (.ref e) 1 b) Q E s := by
  have nfr : e ∉ (env :: outer).filterMap (·.frame) := fun z => by
    obtain ⟨_, o, a, b⟩ := fl.mem z
    rw [he] at a; cases a; exact b vs hd
  refine wpAny_bind (wpAny_frameOf_fun hfr fl hf fun h1 x1 => wpAny_bind (wpAny_entryPlaceOf fun pl hpl => ?_))
  unfold EntryCells.newEntry newFields
  have e1 : h1.get? e = some oe := (x1.2.1 e nfr).trans he
  have k1 : B.StaysIn h1 := fun b o q => (x1.2.1 b fun z => by have y := (fl.mem z).1; rw [q] at y; cases y).trans (kb b o q)
  have sl1 : ∀ b o, s.heap.get? b = some o → ∃ sl, h1.get? b = some { o with slots := sl } := x1.2.2
  refine wpAny_bind (wpAny_newObj_type ?_ (hpl.sizeOk5 _ _ _ _ _))
  generalize hO : ({ cls := .type "traceback", dict := none, data := .fields ([head, .ref L, .none, rawInt L, .none] ++ (if pl.isEmpty then List.replicate 6 Value.none else pl)).toArray } : Obj) = O
  have hOd : ∃ ts : Array Value, O.data = .fields ts ∧ ts[3]? = some (rawInt L) := by
    subst hO
    exact ⟨_, rfl, by first | (simp; done) | (rcases hpl with rfl | ⟨_, _, _, _, _, _, _, rfl⟩ <;> simp)⟩
  have hOf : O.isFreed = false := by obtain ⟨ts, z, _⟩ := hOd; exact Obj.isFreed_of_fields z
  have e2 := Heap.get?_push_of_some (h := h1) O e1
  refine wpAny_setField e2 hd hz ?_
  have ne1 : h1.objs.size ≠ e := Nat.ne_of_gt (Heap.lt_size e1)
  have d3 := Obj.data_mapFields hd (·.setIfInBounds 1 (Value.ref h1.objs.size))
  have e3 := Heap.get?_update_self (Obj.mapFields (·.setIfInBounds 1 (Value.ref h1.objs.size))) e2 (Obj.isFreed_of_fields d3)
  have t3 := (Heap.get?_update_other (h1.push O) (Obj.mapFields (·.setIfInBounds 1 (Value.ref h1.objs.size))) (Ne.symm ne1)).trans (Heap.get?_push_size h1 hOf)
  have kp : ∀ b o, b ≠ e → h1.get? b = some o → ((h1.push O).update e (Obj.mapFields (·.setIfInBounds 1 (Value.ref h1.objs.size)))).get? b = some o := fun b o hb q => by
    rw [Heap.get?_update_other _ _ (Ne.symm hb)]
    exact Heap.get?_push_of_some _ q
  have nr : ∀ b o, s.heap.get? b = some o → (∀ ws, o.data ≠ .fields ws) → b ≠ e := fun b o q nf z => by
    subst z; rw [he] at q; cases q; exact nf vs hd
  obtain ⟨ts, td, t4⟩ := hOd
  refine k _ ⟨fun b o q => kp b o (fun z => by subst z; rw [ne] at q; cases q) (k1 b o q), ne, fl.of_keeps fun b o q nf => ?_, ?_⟩ fun b o q nf => ?_
  · obtain ⟨sl, y⟩ := sl1 b o q
    exact ⟨_, kp b _ (nr b o q nf) y, rfl⟩
  · refine ⟨_, _, e3, by rw [Obj.cls_mapFields]; exact hc, by rw [dict_map]; exact hdx, d3, by rw [Array.size_setIfInBounds]; exact hz, fun x q => ?_, fun q => nomatch q⟩
    cases q
    exact ⟨h1.objs.size, O, ts, by simp [hz], k1.fresh, ne1, t3, td, t4⟩
  · obtain ⟨sl, y⟩ := sl1 b o q
    exact ⟨sl, kp b _ (nr b o q nf) y⟩
/-- the first frame takes note -/
theorem noteD0 (hfr : A.frames = some (env :: outer)) (hf : env.frame = some L) (x : Air B (env :: outer) e C dx none s.heap)
    (k : ∀ h', Air B (env :: outer) e C dx (some (rawInt L)) h' → s.heap.UpToSlots h' → Q () { s with heap := h' }) : wpAny M A (noteFrame (.ref e) env) Q E s := by
  obtain ⟨kb, ne, fl, oe, vs, he, hc, hdx, hd, hz, _, h1⟩ := x
  unfold noteFrame
  simp only [hf]
  refine wpAny_bind (wpAny_field he hd (h1 rfl) ?_)
  rw [if_neg (by decide)]
  exact entryD hfr hf kb ne fl he hc hdx hd hz k
/-- a frame further out takes note -/
theorem noteD1 (hfr : A.frames = some (env :: outer)) (hf : env.frame = some L) (x : Air B (env :: outer) e C dx (some .none) s.heap)
    (k : ∀ h', Air B (env :: outer) e C dx (some (rawInt L)) h' → s.heap.UpToSlots h' → Q () { s with heap := h' }) : wpAny M A (noteFrame (.ref e) env) Q E s := by
  obtain ⟨kb, ne, fl, oe, vs, he, hc, hdx, hd, hz, ht, _⟩ := x
  obtain ⟨T, oT, ts, h1, hnT, hTe, hT, hdT, h3⟩ := ht _ rfl
  unfold noteFrame
  simp only [hf]
  refine wpAny_bind (wpAny_field he hd h1 ?_)
  rw [if_pos (show (Value.ref T != Value.none) = true from by simp)]
  refine wpAny_bind (wpAny_field hT hdT h3 ?_)
  rw [if_neg (show ¬ ((Value.none == rawInt L) = true) from by simp [rawInt])]
  refine wpAny_bind (wpAny_setField hT hdT (Array.getElem?_eq_some_iff.mp h3).1 ?_)
  have ot : ∀ b, b ≠ T → (s.heap.update T (Obj.mapFields (·.setIfInBounds 3 Value.none))).get? b = s.heap.get? b := fun b hb => Heap.get?_update_other _ _ (Ne.symm hb)
  have nr : ∀ b o, s.heap.get? b = some o → (∀ ws, o.data ≠ .fields ws) → b ≠ T := fun b o q nf z => by
    subst z; rw [hT] at q; cases q; exact nf ts hdT
  refine entryD hfr hf (fun b o q => (ot b fun z => by subst z; rw [hnT] at q; cases q).trans (kb b o q)) ne (fl.of_keeps fun b o q nf => ⟨o, (ot b (nr b o q nf)).trans q, rfl⟩)
    ((ot e (Ne.symm hTe)).trans he) hc hdx hd hz fun h' a u => k h' a fun b o q nf => u b o ((ot b (nr b o q nf)).trans q) nf
/-- the mark is taken off -/
theorem landD {m : Value} {l : List Env} (x : Air B l e C dx (some m) s.heap) (k : ∀ h', Air B l e C dx (some .none) h' → s.heap.UpToSlots h' → Q () { s with heap := h' }) : wpAny M A (setFlight (.ref e) none) Q E s := by
  obtain ⟨kb, ne, fl, oe, vs, he, hc, hdx, hd, hz, ht, _⟩ := x
  obtain ⟨T, oT, ts, h1, hnT, hTe, hT, hdT, h3⟩ := ht _ rfl
  have z3 : 3 < ts.size := (Array.getElem?_eq_some_iff.mp h3).1
  unfold setFlight
  refine wpAny_bind (wpAny_field he hd h1 ?_)
  rw [if_pos (show (Value.ref T != Value.none) = true from by simp)]
  refine wpAny_setField hT hdT z3 ?_
  have ot : ∀ b, b ≠ T → (s.heap.update T (Obj.mapFields (·.setIfInBounds 3 ((none : Option Addr).elim Value.none fun f => rawInt f)))).get? b = s.heap.get? b := fun b hb => Heap.get?_update_other _ _ (Ne.symm hb)
  have nr : ∀ b o, s.heap.get? b = some o → (∀ ws, o.data ≠ .fields ws) → b ≠ T := fun b o q nf z => by
    subst z; rw [hT] at q; cases q; exact nf ts hdT
  refine k _ ⟨fun b o q => (ot b fun z => by subst z; rw [hnT] at q; cases q).trans (kb b o q), ne, fl.of_keeps fun b o q nf => ⟨o, (ot b (nr b o q nf)).trans q, rfl⟩,
    oe, vs, (ot e (Ne.symm hTe)).trans he, hc, hdx, hd, hz, fun x q => ?_, fun q => nomatch q⟩ fun b o q nf => ⟨o.slots, (ot b (nr b o q nf)).trans q⟩
  cases q
  exact ⟨T, _, _, h1, hnT, hTe, Heap.get?_update_self _ hT (Obj.isFreed_of_fields (Obj.data_mapFields hdT _)), Obj.data_mapFields hdT _, by simp [z3]⟩
theorem leaveD0 (hfr : A.frames = some (env :: outer)) (hf : env.frame = some L) (x : Air B (env :: outer) e C dx none s.heap)
    (k : ∀ h', Air B outer e C dx (some .none) h' → s.heap.UpToSlots h' → Q () { s with heap := h' }) : wpAny M A (leaving env (.ref e)) Q E s := by
  unfold leaving
  exact wpAny_bind (noteD0 hfr hf x fun h1 a1 u1 => landD a1 fun h2 a2 u2 => k h2 a2.drop (u1.trans u2))
end
end L2


set_option Elab.async false
set_option linter.all false
set_option maxRecDepth 100000
/-! exceptions of own classes with __init__ and a field: raised, passed on -/
namespace L2
open PySem PySem.Spec PyProof.Rows PySem.W
structure FlyD (P : Program) (w : World) (outer : List Env) (H : Hp) (s : Shared) (H' : Hp) (e C dx : Addr) (B : Heap) (s' : Shared) : Prop where
  os : s'.os = s.os
  bare : AllBare s'.gens
  un : ∀ h', B.StaysIn h' → s'.heap.UpToSlots h' → Un (frs outer) [] H H' s.heap h'
  hok : HOk P w H' B
  fly : Air B outer e (.ref C) (some dx) (some .none) s'.heap
  new : H' e = none
  fresh : s.heap.get? e = none
/-- an exception of the class C leaves: E is told its address, its dict's, and what stands -/
noncomputable def CXD (P : Program) (w : World) (C : Addr) : CXT := fun outer H s E e s' => ∃ H' a dx B, e = .ref a ∧ FlyD P w outer H s H' a C dx B s' ∧ E (.ref a) (some dx) H'
noncomputable abbrev Goes (X : Cx) (C : Addr) (E : XK) : Prop := ∀ v s', wpAny (model X.prog X.w) X.A (leaving X.env v) (fun _ s2 => CXD X.prog X.w C X.outer X.H₀ X.s₀ E v s2) (fun v2 s2 => CXD X.prog X.w C X.outer X.H₀ X.s₀ E v2 s2) s' → X.xe v s'

/-! ### what an exception is while it is made -/
noncomputable def excObj (C : Addr) (dx : Option Addr) (t : Addr) : Obj := { cls := .ref C, dict := dx, data := .fields #[.ref t, .none, .none, .none, .bool false, .none] }
noncomputable def RawIs (a C : Addr) (h : Heap) : Prop := ∃ t, h.get? a = some (excObj C none t)
noncomputable def FldIs (a C dx : Addr) (h : Heap) : Prop := ∃ t, h.get? a = some (excObj C (some dx) t)
noncomputable abbrev rawO (a C : Addr) : HO := .ext (RawIs a C)
noncomputable abbrev fldO (a C dx : Addr) : HO := .ext (FldIs a C dx)
theorem rawO_ok {P : Program} {w : World} {H : Hp} {h : Heap} {a C : Addr} (x : RawIs a C h) : ObjOk P w H h a (rawO a C) := by
  obtain ⟨o, e⟩ := x
  exact ⟨⟨o, e⟩, ⟨_, e⟩, fun _ _ ⟨o, e⟩ k => ⟨o, k _ e⟩⟩
theorem fldO_ok {P : Program} {w : World} {H : Hp} {h : Heap} {a C dx : Addr} (x : FldIs a C dx h) : ObjOk P w H h a (fldO a C dx) := by
  obtain ⟨o, e⟩ := x
  exact ⟨⟨o, e⟩, ⟨_, e⟩, fun _ _ ⟨o, e⟩ k => ⟨o, k _ e⟩⟩
/-- what an __init__ that sets one field does -/
noncomputable def spExc (C : Addr) (f : Str) : Sp := fun vs H Q _ => ∃ a v, vs = [.ref a, v] ∧ H a = some (rawO a C) ∧ ∀ dx, H dx = none → dx ≠ a → Q .non (upd (upd H a (fldO a C dx)) dx (.xd [(f, v)]))

/-! ### C(..): the exception laid, then its __init__ -/
section
variable {prog : Program} {w : World} {A : Around} {E : Value → Shared → Prop} {h : Heap} {g : Array GenState} {d : Drawn} {t : Nat} {os : OsState} {K : Frag}
variable {nm q : Str} {C N : Addr} {bs bm bmB : List Value} {hdct : Bool} {sn : List Str} {sub : List Value} {ab : Bool} {col : Option Bool} {dd : Option Addr} {k0 k1 k2 k3 k5 : Option Value} {B newId initId : String}
theorem exc_made0 (X : K.In h) (F : ExcBaseFacts B newId initId bmB) (T : OwnTail h bmB bm) {rest : List Value} {fI : Addr} {Q : Fin → Shared → Prop}
    (hC : h.get? C = some (excClassObj nm q C N bs bm hdct sn sub ab col dd k0 k1 k2 k3 k5 newId)) (hi : findIn K (.ref C) "__init__" = some (some (.ref fI))) (hf : typeIn K (.ref fI) = some (.type "function"))
    (hq : ∀ h' e, h.objs.size ≤ e → Heap.MadeExcOf h h' e (.ref C) rest → wpAny (model prog w) A (call (.ref fI) (.ref e :: rest)) (fun r s' => r = .none ∧ Q (.done (.ret (.ref e))) s') E ⟨h', g, d, t, os⟩)
    (hz : rest.length ≤ sizeLine) : wpAny (model prog w) A (Builtin.«type.__call__» ⟨.ref C :: rest, []⟩) Q E ⟨h, g, d, t, os⟩ := by
  repeat (first | with_reducible refine wpAny_loadPart_at hC ?_ | with_reducible refine wpAny_madeBy_exc hC ?_ | wp_step)
  refine codeAny_call_builtin_code (Code.quiet_builtin _ F.quiet) (wpAny_check_new_subT F T hC (codeAny_exc_new_subT F T hC (show wpAny _ _ _ _ _ _ from ?_) hz))
  generalize hO1 : ({ cls := .type "tuple", data := .seq rest.toArray } : Obj) = O1
  have hD : ∃ dt : Data, dt = .fields #[.ref h.objs.size, .none, .none, .none, .bool false, .none] := ⟨_, rfl⟩
  obtain ⟨dt, hdt⟩ := hD
  rw [← hdt]
  have kp : ∀ b o, h.get? b = some o → ((h.push O1).push { cls := .ref C, data := dt }).get? b = some o := fun b o e => Heap.get?_push_of_some _ (Heap.get?_push_of_some _ e)
  have c1 := kp _ _ hC
  have X1 : K.In ((h.push O1).push { cls := .ref C, data := dt }) := X.keeps kp
  have he : ((h.push O1).push { cls := .ref C, data := dt }).get? (h.objs.size + 1) = some { cls := .ref C, data := dt } := by
    have z := Heap.get?_push_size (h.push O1) (o := { cls := .ref C, data := dt }) (by subst hdt; rfl)
    rwa [Heap.size_push] at z
  have own : (Value.ref C :: bm).contains (.ref C) = true := by simp
  unfold isInstance
  repeat (first | with_reducible refine wpAny_loadPart_at he ?_ | (with_reducible refine wpAny_isSubtype_exc c1 ?_; rw [own]) | wp_step)
  refine (looks_findIn X1 hi).at ?_
  refine wpAny_holding (wpAny_bind ((bind_fn X1 _ hf).at ?_))
  refine wpAny_bind (wpAny_mono (hq _ (h.objs.size + 1) (Nat.le_succ _) ⟨kp, Heap.get?_none_of_le (Nat.le_succ _), h.objs.size, ?_, Heap.get?_none_of_le (Nat.le_refl _), ?_⟩) (fun r s' z => ?_) fun _ _ z => z)
  · subst hdt; exact he
  · subst hO1; exact Heap.get?_push_of_some _ (Heap.get?_push_at rfl rfl)
  · obtain ⟨rfl, z⟩ := z
    wp_walk
    exact z
theorem exc_made (X : K.In h) (F : ExcBaseFacts B newId initId bmB) (T : OwnTail h bmB bm) {rest : List Value} {fI : Addr} {Q : Value → Shared → Prop}
    (hC : h.get? C = some (excClassObj nm q C N bs bm hdct sn sub ab col dd k0 k1 k2 k3 k5 newId)) (hi : findIn K (.ref C) "__init__" = some (some (.ref fI))) (hf : typeIn K (.ref fI) = some (.type "function"))
    (hq : ∀ h' e, h.objs.size ≤ e → Heap.MadeExcOf h h' e (.ref C) rest → wpAny (model prog w) (A.under (.builtin "type.__call__" ⟨.ref C :: rest, []⟩)) (call (.ref fI) (.ref e :: rest)) (fun r s' => r = .none ∧ Q (.ref e) s') E ⟨h', g, d, t, os⟩)
    (hz : rest.length ≤ sizeLine) : wpAny (model prog w) A (call (.ref C) rest) Q E ⟨h, g, d, t, os⟩ := by
  have f1 := tc_lookup
  have f2 := tc_bind (.ref C)
  have hT : (⟨h, g, d, t, os⟩ : Shared).TypeIs (.ref C) "type" := ⟨_, hC, rfl⟩
  refine wpAny_call (codeAny_of_tree (show wpAny _ _ (callAny (.ref C) _) _ _ _ from ?_))
  repeat (any_goals (first | assumption | with_reducible refine wpAny_loadPart_at hC ?_ | wp_step))
  refine ⟨rfl, codeAny_call_builtin_at (Code.quiet_builtin _ (by decide +kernel)) entry_typeCall (wpAny_check_type_call_sub hC (exc_made0 X F T hC hi hf (fun h' e le hm => ?_) hz))⟩
  exact hq h' e le hm
theorem raise_made {M : Model} {s : Shared} {env : Env} {x : Sem Value} {Q : Flow → Shared → Prop} (hb : bm.contains (.type "BaseException") = true) (hh : A.handled = none)
    (k : wpAny M A x (fun v s1 => ∃ e oe, v = .ref e ∧ s1.heap.get? C = some (excClassObj nm q C N bs bm hdct sn sub ab col dd k0 k1 k2 k3 k5 newId) ∧ s1.heap.get? e = some oe ∧ oe.cls = .ref C ∧ (∃ vs : Array Value, oe.data = .fields vs ∧ vs[1]? = some .none) ∧ E (.ref e) s1) E s) :
    wpAny M A (raiseStmt env (some x) none) Q E s := by
  have hB : (Value.ref C :: bm).contains (.type "BaseException") = true := by rw [List.contains_cons, hb, Bool.or_true]
  unfold raiseStmt
  refine wpAny_bind (wpAny_mono k (fun v s1 z => ?_) fun _ _ z => z)
  obtain ⟨e, oe, rfl, hC, he, hc, ⟨vs, hd, h1⟩, hE⟩ := z
  obtain ⟨oc, od, oda, osl⟩ := oe
  cases hc; cases hd
  obtain ⟨hp, g, d, tk, os⟩ := s1
  repeat (first | with_reducible refine wpAny_loadPart_at he ?_ | with_reducible refine wpAny_loadPart_at hC ?_ | (with_reducible refine wpAny_isSubtype_exc hC ?_; rw [hB]) | wp_step)
  rw [h1]
  refine wpAny_pure ?_
  rw [if_neg (by decide)]
  exact wpAny_pure (wpAny_raiseNew_none hh hE)
end
/-- an own class of exceptions with __init__ -/
noncomputable def exdIn (K : Frag) (C : Addr) (bmB : List Value) (newId : String) : Bool := match K.lookup C with
  | some ⟨.type "type", _, .cls cd, sl⟩ => (match cd.mro, sl.toList with
    | .ref C2 :: bm, [_, _, _, _, some (.builtin n), _] => (C2 == C && n == newId) && (!cd.hasDel && tailIn K bmB bm)
    | _, _ => false)
  | _ => false
noncomputable def OwnI (C : Addr) (bmB : List Value) (newId : String) (h : Heap) : Prop :=
  ∃ bm N nm q bs hdct sn sub ab col dd k0 k1 k2 k3 k5, h.get? C = some (excClassObj nm q C N bs bm hdct sn sub ab col dd k0 k1 k2 k3 k5 newId) ∧ OwnTail h bmB bm
theorem ownI_of {K : Frag} {h : Heap} {C : Addr} {bmB : List Value} {newId : String} (X : K.In h) (q : exdIn K C bmB newId = true) : OwnI C bmB newId h := by
  unfold exdIn at q
  split at q
  case h_2 => exact absurd q (by decide)
  rename_i dx kd ss lk
  split at q
  case h_2 => exact absurd q (by decide)
  rename_i C2 bm z0 z1 z2 z3 nn z5 e1 e2
  rw [Bool.and_eq_true, Bool.and_eq_true, Bool.and_eq_true, beq_iff_eq, beq_iff_eq, Bool.not_eq_true'] at q
  obtain ⟨⟨q1, q2⟩, q3, q4⟩ := q
  subst q1; subst q2
  obtain ⟨f1, f2, f3, f4, f5, f6, f7, f8, f9, f10, f11⟩ := kd
  simp only at e1 q3
  subst e1; subst q3
  obtain ⟨sl⟩ := ss
  simp only at e2
  subst e2
  exact ⟨_, _, _, _, _, _, _, _, _, _, _, _, _, _, _, _, X _ _ lk, tail_of_in X q4⟩
/-- what raise C(v) wants of C: its __init__ sets the field f -/
structure ExcF (P : Program) (w : World) (K : Frag) (mg : Str → Option Value) (base : Heap) (k : Nat) (x : Str) (C : Addr) (f : Str) : Prop where
  bound : mg x = some (.ref C)
  own : OwnI C [.type "ValueError", .type "Exception", .type "BaseException", .type "object"] "ValueError.__new__" base
  kp : keepIn K (.ref C) = true
  ex : ∃ (fI : Addr) (fd : FuncData) (ps : List Str), findIn K (.ref C) "__init__" = some (some (.ref fI)) ∧ typeIn K (.ref fI) = some (.type "function") ∧ FnOk P w K mg base CX0 k fI fd ps (spExc C f) ∧ Binds K fd ps []
noncomputable def tRaiseD (E : XK) (f : Str) (ta : TA) : TS := fun _ σ H => ta σ H fun vs H1 => ∃ v, vs = [v] ∧ ∀ a dx, H1 a = none → H1 dx = none → dx ≠ a → E (.ref a) (some dx) (upd H1 dx (.xd [(f, v)]))
end L2


set_option Elab.async false
set_option linter.all false
set_option maxRecDepth 100000
/-! raise C(v), C with __init__ -/
namespace L2
open PySem PySem.Spec PyProof.Rows PySem.W
theorem ps_raiseD {X : Cx} {x f : Str} {C : Addr} {k j : Nat} {E : XK} {e : Expr} {ta : TA} {np cpos pos : Pos} (Z : ExcF X.prog X.w X.K X.mg X.base k x C f) (hr : Room j X.A) (hj : k + 1 ≤ j) (hc : X.calm = true) (hg : Gl X x) (ha : PA X [e] ta)
    (hst : X.stack = X.env :: X.outer) (hf : X.env.frame = some X.env.locals) (hex : X.ex = []) (hxe : Goes X C E) (hs : noStar e = true := by rfl) (hdb : (x == ("__debug__" : Str)) = false := by decide) :
    PS X (.Raise (some (.Call (.Name x np) [e] [] cpos)) none pos) (tRaiseD E f ta) := by
  intro pins s σ H D I h
  obtain ⟨bm, N, nm, qn, bs, hdct, sn, sub, ab, col, dd, k0, k1, k2, k3, k5, hC, TL⟩ := Z.own
  obtain ⟨fI, fd, ps, hi, hfn, F, hb⟩ := Z.ex
  have nx : ∀ b : Addr, b ∉ X.ex := fun b z => by rw [hex] at z; cases z
  have hbase : bm.contains (.type "BaseException") = true := TL.hasType (by decide)
  rw [arm_exec_Raise]
  refine wpAny_bind (wpAny_standAt (raise_made (C := C) (nm := nm) (q := qn) (N := N) (bs := bs) (bm := bm) (hdct := hdct) (sn := sn) (sub := sub) (ab := ab) (col := col) (dd := dd) (k0 := k0) (k1 := k1) (k2 := k2) (k3 := k3) (k5 := k5) (newId := "ValueError.__new__") hbase (I.ok.hd hc) ?_))
  refine wpAny_bind (wpAny_mono (wpAny_Call_ofName (ld_glob I hg Z.bound ?_ hdb)) (fun v s3 z => wpAny_bind (wpAny_standAt (wpAny_pure z))) fun _ _ z => z)
  refine PySem.W.callWith_K (h₀ := X.base) I.ok.mod.kin Z.kp (thn (ha cpos pins s σ H _ I h) fun us s1 ⟨vs, H1, I1, r, v, ev, q⟩ => ⟨I1.kIn, ?_⟩) (star_cons hs) rfl
  subst ev
  obtain ⟨u, rfl, ru⟩ := vals1 r
  have hC1 := I1.bk _ _ hC
  obtain ⟨h1, g1, d1, t1, os1⟩ := s1
  refine exc_made I1.kIn PySem.F.excBase_ValueError (TL.keeps I1.bk) hC1 hi hfn (fun h2 a le hm => ?_) (by show 1 ≤ sizeLine; rw [sizeLine_eq]; decide)
  obtain ⟨tt, hea, _, _⟩ := hm.there
  have na : H1 a = none := I1.hok.fresh le
  have I2 : Inv X pins σ (upd H1 a (rawO a C)) ⟨h2, g1, d1, t1, os1⟩ := I1.laid (s := ⟨h1, g1, d1, t1, os1⟩) hm.keeps le (rawO_ok ⟨tt, hea⟩)
  have r2 : Vals [V.ref a, v] [Value.ref a, u] := .cons rfl (.cons ru .nil)
  have hl : ([Value.ref a, u] ++ []).length = ps.length := by
    have := F.len [V.ref a, v] (upd H1 a (rawO a C)) (fun _ _ => True) E0 ⟨a, v, rfl, upd_same, fun _ _ _ => trivial⟩
    exact this
  have hbn := hb ⟨h2, g1, d1, t1, os1⟩ [Value.ref a, u] I2.kIn hl
  rw [List.append_nil] at hbn
  refine wpAny_call (codeAny_mono (F.run _ X.stack ⟨h2, g1, d1, t1, os1⟩ (upd H1 a (rawO a C)) ⟨[Value.ref a, u], []⟩ [Value.ref a, u] [V.ref a, v]
    (fun w H2 => w = .non ∧ ∃ dx, H1 dx = none ∧ dx ≠ a ∧ H2 = upd (upd (upd H1 a (rawO a C)) a (fldO a C dx)) dx (.xd [(f, v)])) E0 ((hr.mono hj).make C [u] []) (I2.env0.make C [u] []) hbn r2 ⟨a, v, rfl, upd_same, fun dx n1 n2 => ⟨rfl, dx, by rw [upd_ne n2] at n1; exact n1, n2, rfl⟩⟩) fun rr s' hq => ?_)
  cases rr with
  | error e => exact hq.elim
  | ok fl =>
  cases fl with
  | next => exact False.elim hq
  | brk => exact False.elim hq
  | cont => exact False.elim hq
  | ret w =>
  obtain ⟨v3, H3, I3, rv, ev, dx, ndx, nda, eH⟩ := I2.after hq
  subst ev
  refine ⟨rv, ?_⟩
  have e3a : H3 a = some (fldO a C dx) := by rw [eH, upd_ne (Ne.symm nda), upd_same]
  have e3d : H3 dx = some (.xd [(f, v)]) := by rw [eH, upd_same]
  have e3 : ∀ b, b ≠ a → H3 b = upd H1 dx (.xd [(f, v)]) b := fun b hb => by
    rw [eH]
    by_cases hd : b = dx
    · subst hd; rw [upd_same, upd_same]
    · rw [upd_ne hd, upd_ne hd, upd_ne hb, upd_ne hb]
  have eFa : upd H1 dx (.xd [(f, v)]) a = none := by rw [upd_ne (Ne.symm nda)]; exact na
  obtain ⟨t3, he⟩ : FldIs a C dx s'.heap := (I3.hok a _ e3a).1
  have hfrA : X.s₀.heap.get? a = none := by
    cases z : X.s₀.heap.get? a with
    | none => rfl
    | some o => exact absurd (Heap.lt_size z) (Nat.not_lt.mpr (Nat.le_trans (I1.sz) le))
  refine ⟨a, _, rfl, I3.bk _ _ hC, he, rfl, ⟨_, rfl, rfl⟩, hxe _ _ ?_⟩
  have hin : ∀ env ∈ (X.env :: X.outer), ∀ b, env.frame = some b → b ∈ a :: frs X.stack := fun env hm b hb => by rw [hst]; exact .tail _ (List.mem_filterMap.mpr ⟨env, hm, hb⟩)
  have fl := I3.stack
  rw [hst] at fl
  have nS : ∀ b u, H3 b = some u → b ∉ frs X.stack := fun b u q z => by rw [I3.stkFree b z] at q; cases q
  have nL : ∀ b o, X.s₀.heap.get? b = some o → b ∉ X.fs → b ∉ a :: frs X.stack := fun b o q hb z => by
    rcases List.mem_cons.mp z with r | r
    · subst r; rw [hfrA] at q; cases q
    rcases List.mem_cons.mp (I3.stkSub b r) with r | r
    · subst r; exact absurd (Heap.lt_size q) (Nat.not_lt.mpr I3.ok.above)
    · exact hb r
  have ai : Air (hideAll s'.heap (a :: frs X.stack)) (X.env :: X.outer) a (.ref C) (some dx) none s'.heap := ⟨fun b o q => of_hideAll _ q, hideAll_none _ (.head _), funFrames_hide fl hin, _, _, he, rfl, rfl, rfl, (by show 1 < 6; decide), (fun x q => nomatch q), fun _ => rfl⟩
  refine leaveD0 (by rw [← hst]; exact I3.ok.frames) hf ai fun h4 x1 up => ?_
  refine ⟨upd H1 dx (.xd [(f, v)]), a, dx, _, rfl, ⟨I3.os, I3.bare, fun h5 k5 u5 => ?_, fun b o q => ?_, x1, eFa, hfrA⟩, q a dx na ndx nda⟩
  · have sl : ∀ b o, X.s₀.heap.get? b = some o → X.H₀ b = none → b ∈ X.fs → ∃ sl, h5.get? b = some { o with slots := sl } := fun b o q n hb => by
      obtain ⟨s1, e1⟩ := I3.base.slot b o q n hb (nx b)
      obtain ⟨_, o', e2, nf⟩ := I3.funs.mem hb
      rw [e1] at e2; cases e2
      obtain ⟨s3, e3⟩ := (up.trans u5) b _ e1 nf
      exact ⟨s3, e3⟩
    have ne3 : ∀ b u, H3 b = some u → (∀ φ, u ≠ .ext φ) → b ≠ a := fun b u q n z => by subst z; rw [e3a] at q; cases q; exact n _ rfl
    refine ⟨fun b o q n hb _ => k5 b o (hideAll_get _ (I3.base.keep b o q n hb (nx b)) (nL b o q hb)), fun b o q n hb _ => sl b o q n hb, fun b o q n _ => ?_, fun b o q _ => ?_, fun b xs q => ?_, fun b o u q => ?_, fun b ps q => ?_⟩
    · have z := I3.base.free b o q n (nx b)
      rw [e3 b fun y => by subst y; rw [e3a] at z; cases z] at z
      exact z
    · by_cases hb : b ∈ X.fs
      · obtain ⟨s3, e3⟩ := sl b o q (I3.ok.frf b hb) hb
        exact ⟨_, e3⟩
      · obtain ⟨o', e1⟩ := I3.base.there b o q (nx b)
        exact ⟨_, k5 b o' (hideAll_get _ e1 (nL b o q hb))⟩
    · have z := I3.base.tups b xs q
      rw [e3 b (ne3 b _ z fun _ y => nomatch y)] at z
      exact z
    · have z := I3.base.frzs b o u q
      rw [e3 b (ne3 b _ z fun _ y => nomatch y)] at z
      exact z
    · obtain ⟨more, z⟩ := I3.base.tbls b ps q
      rw [e3 b (ne3 b _ z fun _ y => nomatch y)] at z
      exact ⟨more, z⟩
  · have hba : b ≠ a := fun z => by subst z; rw [eFa] at q; cases q
    have q3 : H3 b = some o := by rw [e3 b hba]; exact q
    refine (I3.hok b o q3).stay (fun c u hc z => hideAll_get _ z fun y => ?_) (fun c z => ?_) fun c xs z => ?_
    · have hca : H3 c ≠ none ∧ c ≠ a := by
        rcases hc with r | r
        · subst r; exact ⟨(by rw [q3]; exact fun y => nomatch y), hba⟩
        · exact ⟨(by rw [r]; exact fun y => nomatch y), fun y => by subst y; rw [e3a] at r; cases r⟩
      rcases List.mem_cons.mp y with r | r
      · exact hca.2 r
      · exact hca.1 (I3.stkFree c r)
    · rw [← e3 c fun y => by subst y; rw [e3a] at z; cases z]; exact z
    · rw [← e3 c fun y => by subst y; rw [e3a] at z; cases z]; exact z
end L2


set_option Elab.async false
set_option linter.all false
set_option maxRecDepth 100000
/-! an exception's __init__: the base's __init__, the field -/
namespace L2
open PySem PySem.Spec PyProof.Rows PySem.W
open Builtin Builtin.ObjectAttr
abbrev veM : List Value := [.type "ValueError", .type "Exception", .type "BaseException", .type "object"]
/-! ### D.__init__(self, text), D an own class without __init__ -/
structure InitB (K : Frag) (D : Addr) : Prop where
  ga : specialIn K (.ref D) "__getattribute__" = some (some (.builtin "type.__getattribute__"))
  rd : readsIn K D (.type "type") = true
  fd : ∃ r, findCls K (.ref D) (.type "type") "__init__" = some r ∧ (match r with | .val v => v = .builtin "ValueError.__init__" | _ => False)
section
variable {prog : Program} {w : World} {A : Around} {E : Value → Shared → Prop} {h : Heap} {g : Array GenState} {d : Drawn} {t : Nat} {os : OsState} {K : Frag} {C a : Addr}
theorem base_init {u : Value} {t0 : Addr} {Q : Value → Shared → Prop} (O : OwnI C veM "ValueError.__new__" h) (he : h.get? a = some (excObj C none t0))
    (k : ∀ h' t1, h'.get? a = some (excObj C none t1) → (∀ b o, b ≠ a → h.get? b = some o → h'.get? b = some o) → Q .none ⟨h', g, d, t, os⟩) :
    wpAny (model prog w) A (call (.builtin "ValueError.__init__") [.ref a, u]) Q E ⟨h, g, d, t, os⟩ := by
  obtain ⟨bm, N, nm, qn, bs, hdct, sn, sub, ab, col, dd, k0, k1, k2, k3, k5, hC, TL⟩ := O
  have F := PySem.F.excBase_ValueError
  refine wpAny_call (codeAny_call_builtin F.init.plain F.initEntry (wpAny_check_init_subT F TL hC he rfl ?_))
  unfold excObj at he
  wp_walk
  refine k _ h.objs.size ?_ fun b o hb e => ?_
  · rw [Heap.get?_update_self _ (Heap.get?_push_of_some _ he) rfl]
    rfl
  · rw [Heap.get?_update_other _ _ (Ne.symm hb)]
    exact Heap.get?_push_of_some _ e
/-! ### self.f = v -/
structure SetB (K : Frag) (C : Addr) (f : Str) : Prop where
  sa : findIn K (.ref C) "__setattr__" = some (some (.builtin "object.__setattr__"))
  no : findIn K (.ref C) f = some none
  cls : ∃ cd D, clsIn K C = some cd ∧ cd.mro = .ref C :: .ref D :: veM ∧ cd.hasDict = true
theorem exc_set {f : Str} {v : Value} {t0 : Addr} {Q : Unit → Shared → Prop} (X : K.In h) (Z : SetB K C f) (he : h.get? a = some (excObj C none t0))
    (k : ∀ h' dx tk, h.objs.size ≤ dx → h'.get? a = some (excObj C (some dx) t0) → h'.Ns1 dx (fun y => if y = f then some v else none) → (∀ b o, b ≠ a → h.get? b = some o → h'.get? b = some o) → Q () ⟨h', g, d, tk, os⟩) :
    wpAny (model prog w) A (setAttr (.ref a) f v) Q E ⟨h, g, d, t, os⟩ := by
  obtain ⟨cd, D, hc, hm, hhd⟩ := Z.cls
  have I : InstAt h a (excObj C none t0) C none := ⟨he, rfl, rfl, trivial⟩
  have SF := PySem.F.store_ValueError
  have ne : cd.mro.isEmpty = false := by rw [hm]; rfl
  have has : cd.mro.contains (.type "object") = true := by rw [hm]; simp [veM]
  have su : Looks (model prog w) h (isInstance (.ref a) (.type "object")) true := I.type.andThen (looks_mroIn X (by unfold mroIn; rw [hc, Option.bind_some, if_neg (by rw [ne]; decide), has]))
  refine set_plain (s := ⟨h, g, d, t, os⟩) X I Z.sa ?_
  refine codeAny_call_builtin SF.slot.plain SF.entry (@check_slot (model prog w) _ _ ⟨h, g, d, t + 1, os⟩ "object.__setattr__" "object" "__setattr__" (.ref a) [.str f t, v] [] _ SF.kind SF.split su (SF.args (.ref a) (.str f t) v) ?_)
  have lm : Looks (model prog w) h (mroOf (.ref C)) cd.mro := (looks_clsIn X hc).andThen .now
  rw [osa_eq, refuse_eq]
  refine wpAny_bind (wpAny_bind (I.type.at (wpAny_bind (lm.at ?_))))
  rw [hm, refuseLoop_ref, refuseLoop_ref, SF.passes]
  refine wpAny_pure (wpAny_bind (I.type.at (wpAny_bind ((looks_findIn X Z.no).at (wpAny_bind (wpAny_pure ?_))))))
  have he' : h.get? a = some ⟨.ref C, none, .fields #[.ref t0, .none, .none, .none, .bool false, .none], #[]⟩ := he
  refine wpAny_bind (wpAny_pure (wpAny_bind (wpAny_bind (wpAny_loadPart he' (wpAny_bind ((looks_clsIn X hc).at ?_))))))
  rw [hhd]
  have as : a ≠ h.objs.size := Nat.ne_of_lt (Heap.lt_size he)
  refine wpAny_bind (wpAny_alloc' (wpAny_bind (wpAny_update' (Heap.get?_push_of_some _ he') ?_)))
  refine wpAny_pure (wpAny_bind (wpAny_pure (wpAny_bind ?_)))
  have e1 := Heap.get?_update_self (fun o => { o with dict := some h.objs.size }) (Heap.get?_push_of_some { cls := .type "dict", data := .dict #[] } he') rfl
  have e2 : ((h.push { cls := .type "dict", data := .dict #[] }).update a fun o => { o with dict := some h.objs.size }).get? h.objs.size = some { cls := .type "dict", data := .dict #[] } :=
    (Heap.get?_update_other _ _ as).trans (Heap.get?_push_at rfl rfl)
  have e3 : ((h.push { cls := .type "dict", data := .dict #[] }).update a fun o => { o with dict := some h.objs.size }).Ns h.objs.size (fun _ => none) := ⟨_, #[], _, e2, rfl, fun e he => absurd he (by simp), fun _ => rfl⟩
  refine wpAny_nsSet1 (Heap.Ns1.of_empty e3) fun h2 n2 s2 => ?_
  obtain ⟨oD, es, ep, hoD, hdD, hcD⟩ := n2.count (Within.cons f v Within.nil)
  refine wpAny_bind (wpAny_lookBehind hoD (by rw [hdD]; exact pastItsLine_dict (Nat.le_trans hcD (by rw [List.length_cons, List.length_nil, sizeLine_eq]; omega))) (wpAny_pure ?_))
  refine k h2 h.objs.size _ (Nat.le_refl _) ((s2.2 a as).trans e1) n2 fun b o hb e => ?_
  exact (s2.2 b (Nat.ne_of_lt (Heap.lt_size e))).trans ((Heap.get?_update_other _ _ (Ne.symm hb)).trans (Heap.get?_push_of_some _ e))
end
end L2


set_option Elab.async false
set_option linter.all false
set_option maxRecDepth 100000
/-! rules: D.__init__(self, ..), self.f = v in an exception's __init__; e.f; isinstance -/
namespace L2
open PySem PySem.Spec PyProof.Rows PySem.W
open Builtin Builtin.ObjectAttr
theorem upd_self {H : Hp} {a : Addr} {o : HO} (e : H a = some o) : upd H a o = H := by
  funext b
  by_cases h : b = a
  · subst h; rw [upd_same, e]
  · rw [upd_ne h]
noncomputable def tBaseI (C : Addr) (ta : TA) : TE := fun σ H Q => ta σ H fun vs H1 => ∃ a v, vs = [.ref a, v] ∧ H1 a = some (rawO a C) ∧ Q .non H1
theorem pe_baseI {X : Cx} {x : Str} {D C : Addr} {e1 e2 : Expr} {ta : TA} {p ap pos : Pos} {pl : Sem Bool} (Z : InitB X.K D) (O : OwnI C veM "ValueError.__new__" X.base) (hg : Gl X x) (hm : X.mg x = some (.ref D)) (ha : PA X [e1, e2] ta)
    (hs : [e1, e2].all noStar = true := by rfl) (hdb : (x == ("__debug__" : Str)) = false := by decide)
    (ht : eval (.Call (.Attribute (.Name x p) "__init__" ap) [e1, e2] [] pos) X.env = (do
      let ov ← eval (.Name x p) X.env
      standAt ap.atName
      let (f, first) ← holding [ov] (getMethod ov "__init__" pl)
      callWith pos f first (backTo pos (starEach [e1, e2] X.env)) (backToKw pos (keywordEach [] X.env))) := by rfl) :
    PE X (.Call (.Attribute (.Name x p) "__init__" ap) [e1, e2] [] pos) (tBaseI C ta) := by
  intro pins s σ H Q I h
  obtain ⟨r, hr, hv⟩ := Z.fd
  refine methodCall_KW (pl := pl) (ld_glob I hg hm ?_ hdb) ht
  cases r with
  | get => exact hv.elim
  | val v =>
  have hv : v = .builtin "ValueError.__init__" := hv
  subst hv
  refine method_cls I.kIn Z.ga (cls_value I.kIn Z.rd hr (by decide +kernel) ?_)
  refine PyProof.Rows.callWith_builtin1 (thn (ha pos pins _ σ H _ (I.tok _) h) fun us s1 ⟨vs, H1, I1, r1, a, v, ev, ea, q⟩ => ?_) (star_cons (all_cons1 hs).1) (star_any (all_cons1 hs).2)
  subst ev
  obtain ⟨u1, u2, rfl, ru1, ru2⟩ := vals2 r1
  cases ru1
  obtain ⟨bm, N, nm, qn, bs, hdct, sn, sub, ab, col, dd, k0, k1, k2, k3, k5, hC, TL⟩ := O
  obtain ⟨t0, he⟩ : RawIs a C s1.heap := (I1.hok a _ ea).1
  obtain ⟨h1, g1, d1, t1, os1⟩ := s1
  refine base_init ⟨bm, N, nm, qn, bs, hdct, sn, sub, ab, col, dd, k0, k1, k2, k3, k5, I1.bk _ _ hC, TL.keeps I1.bk⟩ he fun h2 t2 e2 k => ?_
  have I2 := Inv.write (s := ⟨h1, g1, d1, t1, os1⟩) (t' := t1) (h' := h2) (o := rawO a C) (x := a) (e := a) I1 (by rw [ea]; trivial) (.inl rfl) k ⟨_, e2⟩ (rawO_ok ⟨t2, e2⟩)
  rw [upd_self ea] at I2
  exact ⟨.non, H1, I2, rfl, q⟩
noncomputable def sFldE (C : Addr) (ta tv : TE) (f : Str) : TS := fun D σ H => tv σ H fun y H1 => ta σ H1 fun x H2 => ∃ a, x = .ref a ∧ H2 a = some (rawO a C) ∧ ∀ dx, H2 dx = none → dx ≠ a → D.nx σ (upd (upd H2 a (fldO a C dx)) dx (.xd [(f, y)]))
theorem ps_fldE {X : Cx} {o value : Expr} {f : Str} {C : Addr} {pos pos' : Pos} {ta tv : TE} (Z : SetB X.K C f) (ha : PE X o ta) (hv : PE X value tv) (hs : swapsWith value (some (.Attribute o f pos')) pos.line X.env = pure false) :
    PS X (.Assign [.Attribute o f pos'] value pos) (sFldE C ta tv f) := by
  intro pins s σ H D I h
  refine plainObj_wpAny_Assign_Attribute (thn (hv pins s σ H _ I h) fun u s1 ⟨y, H1, I1, ry, q⟩ => thn (ha pins s1 σ H1 _ I1 q) fun ov s2 zz => ?_) hs
  obtain ⟨x, H2, I2, rx, a, ex, ea, q2⟩ := zz
  subst ex
  obtain rfl : ov = Value.ref a := rx
  obtain ⟨t0, he⟩ : RawIs a C s2.heap := (I2.hok a _ ea).1
  obtain ⟨h2, g2, d2, t2, os2⟩ := s2
  refine exc_set I2.kIn Z he fun h3 dx tk le e3 n3 k3 => ?_
  have ha2 : a < h2.objs.size := Heap.lt_size he
  have hda : dx ≠ a := Nat.ne_of_gt (Nat.lt_of_lt_of_le ha2 le)
  have hdn : H2 dx = none := I2.hok.fresh le
  have J : Inv X pins σ (upd (upd H2 a (fldO a C dx)) dx (.xd [(f, y)])) ⟨h3, g2, d2, tk, os2⟩ := by
    have nea : ∀ b u, H2 b = some u → (∀ φ, u ≠ .ext φ) → b ≠ a ∧ b ≠ dx := fun b u q n => ⟨fun z => by subst z; rw [ea] at q; cases q; exact n _ rfl, fun z => by subst z; rw [hdn] at q; cases q⟩
    have nn : ∀ b o, h2.get? b = some o → H2 b = none → b ≠ a ∧ b ≠ dx := fun b o q n => ⟨(fun z => by subst z; rw [ea] at n; cases n), fun z => by subst z; exact absurd (Heap.lt_size q) (Nat.not_lt.mpr le)⟩
    refine Inv.un (s := ⟨h2, g2, d2, t2, os2⟩) (t' := tk) I2 ⟨fun b o q n _ _ => k3 b o (nn b o q n).1 q, fun b o q n _ _ => ⟨o.slots, k3 b o (nn b o q n).1 q⟩, fun b o q n _ => ?_, fun b o q _ => ?_, fun b xs q => ?_, fun b o u q => ?_, fun b ps q => ⟨#[], ?_⟩⟩ fun b o q => ?_
    · rw [upd_ne (nn b o q n).2, upd_ne (nn b o q n).1]; exact n
    · by_cases hb : b = a
      · subst hb; exact ⟨_, e3⟩
      · exact ⟨_, k3 b o hb q⟩
    · have z := nea b _ q fun _ y => nomatch y
      rw [upd_ne z.2, upd_ne z.1]; exact q
    · have z := nea b _ q fun _ y => nomatch y
      rw [upd_ne z.2, upd_ne z.1]; exact q
    · have z := nea b _ q fun _ y => nomatch y
      rw [upd_ne z.2, upd_ne z.1, q]; simp
    · by_cases hb : b = dx
      · subst hb
        rw [upd_same] at q; cases q
        exact ⟨_, n3, fun g => by
          by_cases hgf : g = f
          · subst hgf; rw [if_pos rfl]; simp only [List.lookup_cons, beq_self_eq_true]; exact ry
          · rw [if_neg hgf]
            have : (g == f) = false := by simpa using hgf
            simp only [List.lookup_cons, this, List.lookup_nil]; trivial⟩
      rw [upd_ne hb] at q
      by_cases hba : b = a
      · subst hba
        rw [upd_same] at q; cases q
        exact fldO_ok ⟨t0, e3⟩
      rw [upd_ne hba] at q
      refine (I2.hok b o q).stay (fun c u hc z => k3 c u (fun y => ?_) z) (fun c z => ?_) fun c xs z => ?_
      · subst y
        rcases hc with r | r
        · exact hba r.symm
        · rw [ea] at r; cases r
      · have y := nea c _ z fun _ y => nomatch y
        rw [upd_ne y.2, upd_ne y.1]; exact z
      · have y := nea c _ z fun _ y => nomatch y
        rw [upd_ne y.2, upd_ne y.1]; exact z
  exact ⟨σ, _, J, q2 dx hdn hda⟩
/-! ### a caught exception with a dict -/
noncomputable def ExcDIs (a C dx : Addr) (h : Heap) : Prop := ∃ o vs, h.get? a = some o ∧ o.cls = .ref C ∧ o.dict = some dx ∧ o.data = .fields vs
noncomputable abbrev excDO (a C dx : Addr) : HO := .ext (ExcDIs a C dx)
theorem excDO_ok {P : Program} {w : World} {H : Hp} {h : Heap} {a C dx : Addr} (x : ExcDIs a C dx h) : ObjOk P w H h a (excDO a C dx) := by
  obtain ⟨o, vs, e, r⟩ := x
  exact ⟨⟨o, vs, e, r⟩, ⟨o, e⟩, fun _ _ ⟨o, vs, e, r⟩ k => ⟨o, vs, k o e, r⟩⟩
theorem ExcDIs.is {a C dx : Addr} {h : Heap} (x : ExcDIs a C dx h) : ExcIs a C h := by
  obtain ⟨o, vs, e, c, _⟩ := x
  exact ⟨o, e, c⟩
/-- the field f of such an exception: what reading wants of its class -/
structure RdF (K : Frag) (C : Addr) (f : Str) : Prop where
  ex : ExK K C
  no : findIn K (.ref C) f = some none
  hd : (clsIn K C).any (·.hasDict) = true
section
variable {prog : Program} {w : World} {A : Around} {E : Value → Shared → Prop} {h : Heap} {g : Array GenState} {d : Drawn} {t : Nat} {os : OsState} {K : Frag} {C a dx : Addr} {f : Str} {v : Value}
theorem exc_rd0 {mA : Str → Option Value} {tk : Tok} {Q : Fin → Shared → Prop} (X : K.In h) (Z : RdF K C f) (x : ExcDIs a C dx h) (n : h.Ns1 dx mA) (e : mA f = some v) (q : Q (.done (.ret v)) ⟨h, g, d, t, os⟩) :
    wpAny (model prog w) A (Builtin.«object.__getattribute__» ⟨[.ref a, .str f tk], []⟩) Q E ⟨h, g, d, t, os⟩ := by
  obtain ⟨o, vs, ho, hc, hd, hf⟩ := x
  obtain ⟨od, hod, hl⟩ := lookIn_ns n
  obtain ⟨oc, odi, oda, osl⟩ := o
  cases hc; cases hd; cases hf
  have I : InstAt h a ⟨.ref C, some dx, .fields vs, osl⟩ C (some od) := ⟨ho, rfl, rfl, hod⟩
  obtain ⟨cd, hcd, hh⟩ := any_some Z.hd
  have fo : findObj K C (some od) f = some (.value v) := by
    unfold findObj
    rw [hcd, Option.bind_some, Z.no, Option.bind_some, Option.bind_some, Option.bind_some]
    unfold W.ownOf
    rw [hh, if_pos rfl]
    dsimp only
    rw [hl f, e]
    rfl
  unfold Builtin.«object.__getattribute__»
  refine wpAny_bind (wpAny_pure (wpAny_bind (wpAny_pure (wpAny_bind (I.type.at (wpAny_bind ((looks_find X I fo).at ?_)))))))
  exact wpAny_pure q
theorem exc_rd {mA : Str → Option Value} {ex : Bool} {Q : Value → Shared → Prop} (X : K.In h) (Z : RdF K C f) (x : ExcDIs a C dx h) (n : h.Ns1 dx mA) (e : mA f = some v) (hv : handedIn v = true) (q : Q v ⟨h, g, d, t + 1, os⟩) :
    wpAny (model prog w) A (getAttr (.ref a) f ex) Q E ⟨h, g, d, t, os⟩ := by
  have FB := F.attr_ValueError
  have f3 := FB.ga.bind (.ref a)
  have hx0 : (ex && onTheHeap (Value.builtin "BaseException.__getattribute__")) = false := by cases ex <;> rfl
  have hx2 : (Value.builtin "BaseException.__getattribute__" == Value.builtin "object.__getattribute__") = false := by decide +kernel
  have hx1 : (onTheHeap (Value.ref C) && Value.builtin "BaseException.__getattribute__" == Value.builtin "object.__getattribute__") = false := by rw [hx2]; rfl
  have L1 := looks_findIn (M := model prog w) X Z.ex.ga
  have L2 := looks_findIn (M := model prog w) X Z.ex.gt
  have ho' := handedOut_of hv
  obtain ⟨o, hx, hc⟩ := x.is
  unfold getAttr
  repeat (any_goals (first | assumption | (with_reducible refine wpAny_loadPart_at hx ?_; rw [hc]) | with_reducible refine L1.at ?_ | with_reducible refine L2.at ?_ | wp_step))
  refine codeAny_call_builtin FB.ga.plain F.entry_bexc_ga (exc_check_ga X Z.ex.exc hx hc (exc_rd0 X Z x n e ?_))
  repeat (any_goals (first | assumption | wp_step))
end
noncomputable def tFldE (K : Frag) (ta : TE) (f : Str) : TE := fun σ H Q => ta σ H fun x H1 => ∃ a C dx fs v, x = .ref a ∧ H1 a = some (excDO a C dx) ∧ H1 dx = some (.xd fs) ∧ RdF K C f ∧ fs.lookup f = some v ∧ Q v H1
theorem pe_fldE {X : Cx} {e : Expr} {f : Str} {ta : TE} {pos : Pos} (he : PE X e ta) (hb : attributeBase e f X.env (eval e X.env) = eval e X.env) : PE X (.Attribute e f pos) (tFldE X.K ta f) := by
  intro pins s σ H Q I h
  refine attr_of hb (thn (he pins s σ H _ I h) fun u s1 zz => ?_)
  obtain ⟨x, H1, I1, rx, a, C, dx, fs, v, ex, ea, ed, Z, l, q⟩ := zz
  subst ex
  obtain rfl : u = Value.ref a := rx
  obtain ⟨mA, n, r⟩ : ObjOk X.prog X.w H1 s1.heap dx (.xd fs) := I1.hok dx _ ed
  have rf := r f
  rw [l] at rf
  cases em : mA f with
  | none => rw [em] at rf; exact rf.elim
  | some u2 =>
  rw [em] at rf
  have rf : RelV v u2 := rf
  obtain ⟨h1, g1, d1, t1, os1⟩ := s1
  exact exc_rd I1.kIn Z (I1.hok a _ ea).1 n em (handed_of rf) ⟨v, H1, I1.tok (t1 + 1), rf, q⟩
noncomputable def rIsOD (K : Frag) (D : Addr) : List V → Hp → VK → Prop := fun xs H Q => ∃ a C dx b, xs = [.ref a, .ref D] ∧ H a = some (excDO a C dx) ∧ ExK K C ∧ kitOne K (.ref C) (.ref D) = some b ∧ Q (.bl b) H
theorem call_isOD {X : Cx} (D : Addr) : CallR X (.builtin "isinstance") (rIsOD X.K D) := by
  intro pins s σ H xs us Q I r h
  obtain ⟨a, C, dx, b, rfl, ea, Z, e, q⟩ := h
  obtain ⟨u, u', rfl, ru, ru'⟩ := vals2 r
  cases ru; cases ru'
  have y : ObjOk X.prog X.w H s.heap a (excDO a C dx) := I.hok a _ ea
  exact kia_one (kitx_exc Z) I.kIn y.1.is e (fun z => nomatch z) fun tk => ⟨.bl b, H, I.tok tk, rfl, q⟩
noncomputable def rIsTD (K : Frag) (T : String) : List V → Hp → VK → Prop := fun xs H Q => ∃ a C dx b, xs = [.ref a, .ty T] ∧ H a = some (excDO a C dx) ∧ ExK K C ∧ kitOne K (.ref C) (.type T) = some b ∧ Q (.bl b) H
theorem call_isTD {X : Cx} (T : String) : CallR X (.builtin "isinstance") (rIsTD X.K T) := by
  intro pins s σ H xs us Q I r h
  obtain ⟨a, C, dx, b, rfl, ea, Z, e, q⟩ := h
  obtain ⟨u, u', rfl, ru, ru'⟩ := vals2 r
  cases ru; cases ru'
  have y : ObjOk X.prog X.w H s.heap a (excDO a C dx) := I.hok a _ ea
  exact kia_one (kitx_exc Z) I.kIn y.1.is e (fun z => nomatch z) fun tk => ⟨.bl b, H, I.tok tk, rfl, q⟩
noncomputable def rIsOTD (K : Frag) : List V → Hp → VK → Prop := fun xs H Q => ∃ (a p C dx : Addr) (ds : List Addr) (b : Bool), xs = [.ref a, .ref p] ∧ H a = some (excDO a C dx) ∧ H p = some (.tup (ds.map V.ref)) ∧ ExK K C ∧ kitAny K (.ref C) (ds.map Value.ref) = some b ∧ Q (.bl b) H
theorem call_isOTD {X : Cx} : CallR X (.builtin "isinstance") (rIsOTD X.K) := by
  intro pins s σ H xs us Q I r h
  obtain ⟨a, p, C, dx, ds, b, rfl, ea, ep, Z, e, q⟩ := h
  obtain ⟨u, u', rfl, ru, ru'⟩ := vals2 r
  cases ru; cases ru'
  have y : ObjOk X.prog X.w H s.heap a (excDO a C dx) := I.hok a _ ea
  obtain ⟨_, its, vi, ti⟩ : ObjOk X.prog X.w H s.heap p (.tup (ds.map V.ref)) := I.hok p _ ep
  have e2 := vals_adrs vi
  subst e2
  obtain ⟨o, h1, h2, n, h3⟩ := ti
  obtain ⟨oc, od, oda, osl⟩ := o
  cases h2; cases h3
  exact kia_tup (kitx_exc Z) I.kIn y.1.is h1 e (fun z => nomatch z) fun tk => ⟨.bl b, H, I.tok tk, rfl, q⟩
end L2


set_option Elab.async false
set_option linter.all false
set_option maxRecDepth 100000
/-! code in a try: what may raise an exception of the class C, and the handlers -/
namespace L2
open PySem PySem.Spec PyProof.Rows PySem.W
noncomputable abbrev TX := St → Hp → VK → XK → Prop
noncomputable abbrev TB := St → Hp → (Hp → Prop) → XK → Prop
/-- the exception has come out of a callee -/
noncomputable def Came (X : Cx) (C : Addr) (pins : List (Addr × Obj)) (σ : St) (E : XK) (v : Value) (s' : Shared) : Prop := ∃ H1 s1, Inv X pins σ H1 s1 ∧ CXD X.prog X.w C X.stack H1 s1 E v s'
noncomputable def PX (X : Cx) (C : Addr) (e : Expr) (t : TX) : Prop := ∀ (pins : List (Addr × Obj)) (s : Shared) (σ : St) (H : Hp) (Q : VK) (E : XK), Inv X pins σ H s → t σ H Q E → wpAny (model X.prog X.w) X.A (eval e X.env) (EP X pins σ Q) (Came X C pins σ E) s
noncomputable def PB (X : Cx) (C : Addr) (b : List Stmt) (t : TB) : Prop := ∀ (pins : List (Addr × Obj)) (s : Shared) (σ : St) (H : Hp) (Q : Hp → Prop) (E : XK), Inv X pins σ H s → t σ H Q E →
  wpAny (model X.prog X.w) X.A (execs b X.env) (fun f s' => f = .next ∧ ∃ H', Inv X pins σ H' s' ∧ Q H') (Came X C pins σ E) s
structure MakeX (P : Program) (w : World) (K : Frag) (mg : Str → Option Value) (base : Heap) (k : Nat) (x : Str) (C D : Addr) (ps : List Str) (sp : Sp) : Prop where
  ex : ∃ (f : Addr) (fd : FuncData), FnOk P w K mg base (CXD P w D) k f fd ps sp ∧ Binds K fd ps [] ∧ Mk K C f ∧ mg x = some (.ref C)
section
variable {X : Cx} {D : Addr} {pos p apos : Pos} {e o : Expr} {es : List Expr} {ta : TE} {t : TA}
noncomputable def tMakeX (C : Addr) (sp : Sp) (t : TA) : TX := fun σ H Q E => t σ H fun vs H1 => ∀ x dx, H1 x = none → H1 dx = none → dx ≠ x → sp (.ref x :: vs) (upd (upd H1 dx (.own x)) x (.ins C dx [])) (fun v H2 => v = .non ∧ Q (.ref x) H2) E
theorem px_make {x : Str} {C : Addr} {k j : Nat} {ps : List Str} {sp : Sp} (M : MakeX X.prog X.w X.K X.mg X.base k x C D ps sp) (hr : Room j X.A) (hj : k + 1 ≤ j) (hg : Gl X x) (ha : PA X.nox (e :: es) t) (hs : (e :: es).all noStar = true := by rfl) (hdb : (x == ("__debug__" : Str)) = false := by decide) :
    PX X D (.Call (.Name x p) (e :: es) [] pos) (tMakeX C sp t) := by
  intro pins s σ H Q E I h
  obtain ⟨f, fd, F, hb, M, hm⟩ := M.ex
  refine wpAny_Call_Name_kw (ld_glob I hg hm ?_ hdb)
  refine PySem.W.callWith_K (h₀ := X.base) I.ok.mod.kin M.kp (wpAny_mono (ha pos pins s σ H _ (I.wish _) h) (fun us s1 ⟨vs, H1, I1', r, q⟩ => ⟨I1'.unwish.kIn, ?_⟩) fun _ _ z => z.elim) (star_cons (all_cons1 hs).1) (star_any (all_cons1 hs).2)
  have I1 := I1'.unwish
  have hq := q (s1.heap.objs.size + 1) s1.heap.objs.size (I1.hok.fresh (Nat.le_succ _)) (I1.hok.fresh (Nat.le_refl _)) (Nat.ne_of_lt (Nat.lt_succ_self _))
  have I2 := Inv.made (C := C) I1
  have r2 : Vals (V.ref (s1.heap.objs.size + 1) :: vs) (Value.ref (s1.heap.objs.size + 1) :: us) := .cons rfl r
  have hl : (Value.ref (s1.heap.objs.size + 1) :: us).length = ps.length := by rw [← r2.length]; exact F.len _ _ _ _ hq
  have hbn := hb _ (Value.ref (s1.heap.objs.size + 1) :: us) I2.kIn (by rw [List.append_nil]; exact hl)
  rw [List.append_nil] at hbn
  refine wpAny_call (make_map (f := f) I1.kIn M.makes M.init (beq_iff_eq.mp M.fn) (codeAny_mono (F.run _ X.stack _ _ ⟨Value.ref (s1.heap.objs.size + 1) :: us, []⟩ (Value.ref (s1.heap.objs.size + 1) :: us) _ _ E ((hr.mono hj).make C us [])
    (I2.env0.make C us []) hbn r2 hq) fun r s' hq' => ?_))
  cases r with
  | error e => exact ⟨_, _, I2, hq'⟩
  | ok fl =>
    cases fl with
    | ret u =>
      obtain ⟨v, H', I3, rv, ev, q3⟩ := I2.after hq'
      subst ev
      exact ⟨rv, ⟨V.ref (s1.heap.objs.size + 1), H', I3, rfl, q3⟩⟩
    | next => exact False.elim hq'
    | brk => exact False.elim hq'
    | cont => exact False.elim hq'
noncomputable def tBX (t : TX) : TB := fun σ H Q E => t σ H (fun _ H2 => Q H2) E
theorem pb_expr {te : TX} (he : PX X D e te) (hs : swapsWith e none pos.line X.env = pure false) : PB X D [.Expr e pos] (tBX te) := by
  intro pins s σ H Q E I h
  exact wpAny_execs_cons (wpAny_Expr_any (wpAny_mono (he pins s σ H _ E I h) (fun v s1 ⟨x, H1, I1, r1, q1⟩ => wpAny_execs_nil ⟨rfl, H1, I1, q1⟩) fun _ _ z => z) I.quiet hs)
end
/-! ### the handlers -/
/-- the exception is tracked where it was caught -/
theorem caught {X : Cx} {C a dx : Addr} {pins : List (Addr × Obj)} {σ : St} {H1 H2 : Hp} {s1 s' : Shared} {B h6 : Heap} {m : Option Value} (I1 : Inv X pins σ H1 s1) (fl : FlyD X.prog X.w X.stack H1 s1 H2 a C dx B s') (sm : s'.heap.UpToSlots h6)
    (ai : Air B X.stack a (.ref C) (some dx) m h6) : Inv X pins σ (upd H2 a (excDO a C dx)) { s' with heap := h6 } := by
  obtain ⟨hp', g', d', t', os'⟩ := s'
  have U6 := fl.un h6 ai.keep sm
  have hok6 : HOk X.prog X.w H2 h6 := fl.hok.kept ai.keep
  obtain ⟨oe, vs, heo, hec, hed, hef⟩ := ai.there
  have nea : ∀ b o, s1.heap.get? b = some o → b ≠ a := fun b o q z => by subst z; rw [fl.fresh] at q; cases q
  have U7 : Un (frs X.stack) [] H1 (upd H2 a (excDO a C dx)) s1.heap h6 := ⟨U6.keep, U6.slot, fun b o q n hx => by rw [upd_ne (nea b o q)]; exact U6.free b o q n hx, U6.there,
    fun b xs q => by rw [upd_ne (ne_of_none (U6.tups b xs q) fl.new)]; exact U6.tups b xs q, fun b o u q => by rw [upd_ne (ne_of_none (U6.frzs b o u q) fl.new)]; exact U6.frzs b o u q,
    fun b ps q => by obtain ⟨m, e1⟩ := U6.tbls b ps q; exact ⟨m, by rw [upd_ne (ne_of_none e1 fl.new)]; exact e1⟩⟩
  have hok7 : HOk X.prog X.w (upd H2 a (excDO a C dx)) h6 := fun b u q => by
    by_cases hb : b = a
    · subst hb; rw [upd_same] at q; cases q; exact excDO_ok ⟨oe, vs, heo, hec, hed, hef⟩
    · rw [upd_ne hb] at q
      exact (hok6 b u q).stay (fun c v _ z => z) (fun c z => by rw [upd_ne (ne_of_none z fl.new)]; exact z) fun c xs z => by rw [upd_ne (ne_of_none z fl.new)]; exact z
  exact I1.call' (ch := []) fl.os U7 hok7 fl.bare (fun _ z => nomatch z)
noncomputable def tTryD (K : Frag) (C D : Addr) (i : Nat) (tb : TB) (th : Value → TS) : TS := fun De σ H => tb σ H (fun H2 => De.nx σ H2)
  fun v od H2 => ∃ a dx, v = .ref a ∧ od = some dx ∧ mroIn K C (.ref D) = some true ∧ th (.ref a) { nx := fun _ _ => False, rt := De.rt } (σ.set i (some (.ref a))) (upd H2 a (excDO a C dx))
theorem ps_tryD {X : Cx} {C D : Addr} {y n : Str} {i : Nat} {np hpos pos : Pos} {body : List Stmt} {b₀ : Stmt} {suite : List Stmt} {tb : TB} {th : Value → TS} (hB : PB X C body tb)
    (hgD : Gl X y) (hmD : X.mg y = some (.ref D)) (ZD : ExD X.K D) (hN : X.N.Nodup) (hi : X.N[i]? = some n) (hl : X.env.kindOf n = some .local) (hst : X.stack = X.env :: X.outer) (hf : X.env.frame = some X.env.locals)
    (hs : ∀ v, PSs (X.handling v) (b₀ :: suite) (th v)) (hdy : (y == ("__debug__" : Str)) = false := by decide) :
    PS X (.Try body [.ExceptHandler (some (.Name y np)) (some n) (b₀ :: suite) hpos] [] [] pos) (tTryD X.K C D i tb th) := by
  intro pins s σ H De I h
  refine wpAny_Try_except (wpAny_mono (hB pins s σ H _ _ I h) (fun f s1 ⟨ef, H2, I2, q2⟩ => ?_) fun ev s' hq => ?_)
  · subst ef
    exact wpAny_execs_nil ⟨σ, H2, I2, q2⟩
  obtain ⟨H1, s1, I1, H2, a, dx, B, rfl, fl, a', dx', ea, ed, hmro, hth⟩ := hq
  cases ea; cases ed
  have fl1 := fl.fly
  rw [hst] at fl1
  refine noteD1 (by rw [← hst]; exact I1.ok.frames) hf fl1 fun h4 a4 sm4 => landD a4 fun h5 a5 sm5 => ?_
  rw [← hst] at a5
  have I5 := caught I1 fl (sm4.trans sm5) a5
  refine wpAny_handleBy_cons (codeAny_handlers_test (ld_glob (X := X.handling (.ref a)) (I5.handling _) hgD hmD ?_ hdy)) (by intro q; cases q)
  obtain ⟨ob, _, hob, hobc, _⟩ := a5.there
  obtain ⟨dD, cD, sD, lD⟩ := ZD.ex
  obtain ⟨hp', g', d', t', os'⟩ := s'
  refine exc_matches I5.kIn hob hobc lD ZD.exc hmro (codeAny_handlers_suite_as (landD a5 fun h6 a6 sm6 => ?_))
  have I6 := caught I1 fl ((sm4.trans sm5).trans sm6) a6
  refine store_ok (X := X.handling (.ref a)) (v := V.ref a) (I6.handling (.ref a)) hN hi (Or.inl hl) rfl (fun s7 I7 => ?_) (.inr hl)
  refine wpAny_mono (hs (.ref a) pins s7 _ _ _ I7 hth) (fun f8 s8 q => ?_) fun _ _ z => z.elim
  cases f8 with
  | ret u =>
    obtain ⟨v, σ', H', J, rv, q⟩ := q
    obtain ⟨m, hn, _⟩ := id J.loc
    exact wpAny_nameGoes hl hn (by rw [I.ok.kind]; rfl) fun h9 m9 ns9 sb9 => ⟨v, _, H', J.forget I.ok ns9 sb9, rv, q⟩
  | next => obtain ⟨_, _, _, q⟩ := q; exact q.elim
  | brk => obtain ⟨_, _, _, q⟩ := q; exact q.elim
  | cont => obtain ⟨_, _, _, q⟩ := q; exact q.elim
theorem Inv.calmed {X : Cx} {e : Value} {pins : List (Addr × Obj)} {σ : St} {H : Hp} {s : Shared} (ok : X.Ok) (J : Inv (X.handling e) pins σ H s) : Inv X pins σ H s := ⟨ok, J.os, J.bare, J.base, J.loc, J.cell, J.free, J.freeC, J.pin, J.hok, J.len⟩
noncomputable def tTryD0 (K : Frag) (C D : Addr) (tb : TB) (th : Value → TS) : TS := fun De σ H => tb σ H (fun H2 => De.nx σ H2)
  fun v od H2 => ∃ a dx, v = .ref a ∧ od = some dx ∧ mroIn K C (.ref D) = some true ∧ th (.ref a) { nx := fun _ _ => False, rt := De.rt } σ (upd H2 a (excDO a C dx))
theorem ps_tryD0 {X : Cx} {C D : Addr} {y : Str} {np hpos pos : Pos} {body : List Stmt} {b₀ : Stmt} {suite : List Stmt} {tb : TB} {th : Value → TS} (hB : PB X C body tb)
    (hgD : Gl X y) (hmD : X.mg y = some (.ref D)) (ZD : ExD X.K D) (hst : X.stack = X.env :: X.outer) (hf : X.env.frame = some X.env.locals)
    (hs : ∀ v, PSs (X.handling v) (b₀ :: suite) (th v)) (hdy : (y == ("__debug__" : Str)) = false := by decide) :
    PS X (.Try body [.ExceptHandler (some (.Name y np)) none (b₀ :: suite) hpos] [] [] pos) (tTryD0 X.K C D tb th) := by
  intro pins s σ H De I h
  refine wpAny_Try_except (wpAny_mono (hB pins s σ H _ _ I h) (fun f s1 ⟨ef, H2, I2, q2⟩ => ?_) fun ev s' hq => ?_)
  · subst ef
    exact wpAny_execs_nil ⟨σ, H2, I2, q2⟩
  obtain ⟨H1, s1, I1, H2, a, dx, B, rfl, fl, a', dx', ea, ed, hmro, hth⟩ := hq
  cases ea; cases ed
  have fl1 := fl.fly
  rw [hst] at fl1
  refine noteD1 (by rw [← hst]; exact I1.ok.frames) hf fl1 fun h4 a4 sm4 => landD a4 fun h5 a5 sm5 => ?_
  rw [← hst] at a5
  have I5 := caught I1 fl (sm4.trans sm5) a5
  refine wpAny_handleBy_cons (codeAny_handlers_test (ld_glob (X := X.handling (.ref a)) (I5.handling _) hgD hmD ?_ hdy)) (by intro q; cases q)
  obtain ⟨ob, _, hob, hobc, _⟩ := a5.there
  obtain ⟨dD, cD, sD, lD⟩ := ZD.ex
  obtain ⟨hp', g', d', t', os'⟩ := s'
  refine exc_matches I5.kIn hob hobc lD ZD.exc hmro (codeAny_handlers_suite (landD a5 fun h6 a6 sm6 => ?_))
  have I6 := caught I1 fl ((sm4.trans sm5).trans sm6) a6
  refine wpAny_mono (hs (.ref a) pins _ _ _ _ (I6.handling (.ref a)) hth) (fun f8 s8 q => ?_) fun _ _ z => z.elim
  cases f8 with
  | ret u =>
    obtain ⟨v, σ', H', J, rv, q⟩ := q
    exact ⟨v, σ', H', J.calmed I.ok, rv, q⟩
  | next => obtain ⟨_, _, _, q⟩ := q; exact q.elim
  | brk => obtain ⟨_, _, _, q⟩ := q; exact q.elim
  | cont => obtain ⟨_, _, _, q⟩ := q; exact q.elim
end L2


set_option Elab.async false
set_option linter.all false
set_option maxRecDepth 100000
/-! texts: order, slices -/
namespace L2
open PySem PySem.Spec PyProof.Rows PySem.W
/-- the text of these signs -/
noncomputable def tx (l : List Nat) : Str := ⟨l.toArray⟩
theorem tx_list (l : List Nat) : (tx l).cps.toList = l := by simp [tx]
theorem tx_len (l : List Nat) : (tx l).length = l.length := by simp [tx, Str.length]
theorem tx_inj {l m : List Nat} (h : tx l = tx m) : l = m := by rw [← tx_list l, h, tx_list]
theorem tx_of (x : Str) : x = tx x.cps.toList := by obtain ⟨a⟩ := x; simp [tx]
theorem tx_app (l m : List Nat) : tx l ++ tx m = tx (l ++ m) := by
  rw [tx_of (tx l ++ tx m)]
  congr 1
  show ((tx l).cps ++ (tx m).cps).toList = _
  rw [Array.toList_append, tx_list, tx_list]
theorem op_le_str {X : Cx} : OpR X (compareOp .LtE) (fun x y H Q => ∃ i j, x = .str i ∧ y = .str j ∧ Q (.bl (!decide (j.cps.toList < i.cps.toList))) H) := by
  rintro pins s σ H x y u v Q I rx ry ⟨i, j, rfl, rfl, q⟩
  obtain ⟨t, rfl⟩ := (show ∃ t, u = Value.str i t from rx)
  obtain ⟨t', rfl⟩ := (show ∃ t', v = Value.str j t' from ry)
  exact P.le_str ⟨.bl _, H, I, rfl, q⟩
/-- the signs from lo to hi -/
noncomputable def cutL (l : List Nat) (lo hi : Option Int) : List Nat := (l.drop (HT.sIx l.length 0 lo)).take (HT.sIx l.length l.length hi - HT.sIx l.length 0 lo)
theorem picked_eq (n : Nat) (lo hi : Option Int) : Builtin.Str.strSliceIndices lo hi 1 n = (List.range (HT.sIx n n hi - HT.sIx n 0 lo)).map (HT.sIx n 0 lo + ·) := by
  rw [← sliceRange_one]
  unfold Builtin.Str.strSliceIndices
  have c : ∀ (d : Nat) (o : Option Int), (match o with | none => (d : Int) | some i => if (1 : Int) > 0 then max 0 (min (if i < 0 then i + (n : Int) else i) (n : Int)) else max (-1) (min (if i < 0 then i + (n : Int) else i) ((n : Int) - 1))) = ((HT.sIx n d o : Nat) : Int) := fun d o => by
    cases o with
    | none => rfl
    | some i =>
      show (if (1 : Int) > 0 then _ else _) = _
      rw [if_pos (by decide)]
      unfold HT.sIx
      by_cases h : i < 0
      · simp only [h, if_true] <;> omega
      · simp only [h, if_false] <;> omega
  have c0 := c 0 lo
  have cn := c n hi
  dsimp only
  rw [if_pos (by decide), if_pos (by decide)]
  congr 1
theorem cutL_len (l : List Nat) (lo hi : Option Int) : (cutL l lo hi).length ≤ l.length := by
  unfold cutL
  rw [List.length_take, List.length_drop]; omega
noncomputable def rSlS : V → Option Int → Option Int → Hp → VK → Prop := fun x lo hi H Q => ∃ l, x = .str (tx l) ∧ l.length ≤ sizeLine ∧ Q (.str (tx (cutL l lo hi))) H
theorem sl_str {X : Cx} : SlR X rSlS := by
  intro pins s σ H x v vl vu lo hi sl Q I rx hs pl pu h
  obtain ⟨l, rfl, hz, q⟩ := h
  obtain ⟨t, rfl⟩ := (show ∃ t, v = Value.str (tx l) t from rx)
  have pt : ∀ {w o}, IsPart w o → ∃ p : Option (Int × Tok), w = partValue p ∧ p.map (·.1) = o := fun p => by
    cases p with
    | none => exact ⟨none, rfl, rfl⟩
    | int i t => exact ⟨some (i, t), rfl, rfl⟩
  obtain ⟨pl1, rfl, el⟩ := pt pl
  obtain ⟨pu1, rfl, eu⟩ := pt pu
  refine ⟨"str", _, F.slot_str_getitem.lookup, typeIs_str _ _ _, wpAny_getItem_str_slice (l := pl1) (u := pu1) (st := none) hs rfl ?_⟩
  have e : (slicePicked (tx l) pl1 pu1 none).filterMap ((tx l).cps[·]?) = cutL l lo hi := by
    unfold slicePicked
    rw [el, eu]
    show (Builtin.Str.strSliceIndices lo hi 1 (tx l).length).filterMap ((tx l).cps[·]?) = _
    rw [picked_eq, pick_run, tx_list, tx_len]
    rfl
  have e2 : (slicePicked (tx l) pl1 pu1 none).length = (cutL l lo hi).length := by
    have : slicePicked (tx l) pl1 pu1 none = (List.range (HT.sIx l.length l.length hi - HT.sIx l.length 0 lo)).map (HT.sIx l.length 0 lo + ·) := by
      unfold slicePicked
      rw [el, eu]
      show Builtin.Str.strSliceIndices lo hi 1 (tx l).length = _
      rw [picked_eq, tx_len]
    rw [this, List.length_map, List.length_range]
    unfold cutL
    rw [List.length_take, List.length_drop]
    have := HT.sIx_le l.length l.length (Nat.le_refl _) hi
    omega
  unfold sliceMade
  refine post_val_or_str ?_
  rw [e]
  have fin : (if (((none : Option (Int × Tok)).map (·.1)).getD 1 == 1 && (slicePicked (tx l) pl1 pu1 none).length == (tx l).length) = true then tx l else ⟨(cutL l lo hi).toArray⟩) = tx (cutL l lo hi) := by
    split
    · rename_i z
      rw [Bool.and_eq_true] at z
      have z2 := beq_iff_eq.mp z.2
      rw [e2, tx_len] at z2
      congr 1
      have a0 : HT.sIx l.length 0 lo = 0 ∨ l = [] := by
        unfold cutL at z2
        rw [List.length_take, List.length_drop] at z2
        have := HT.sIx_le l.length l.length (Nat.le_refl _) hi
        by_cases hl : l = []
        · exact .inr hl
        · have : 0 < l.length := List.length_pos_iff.mpr hl
          left; omega
      rcases a0 with a0 | a0
      · have : l.length ≤ HT.sIx l.length l.length hi := by
          unfold cutL at z2
          rw [a0, List.length_take, List.length_drop] at z2
          omega
        unfold cutL
        rw [a0, List.drop_zero, List.take_of_length_le (by omega)]
      · subst a0; unfold cutL; simp
    · rfl
  rw [fin]
  exact ⟨by rw [tx_len]; exact Nat.le_trans (cutL_len l lo hi) hz, fun t2 k => ⟨.str (tx (cutL l lo hi)), H, I.tok k, ⟨t2, rfl⟩, q⟩⟩
end L2


set_option Elab.async false
set_option linter.all false
set_option maxRecDepth 100000
/-! for i, x in enumerate(xs); for c in text -/
namespace L2
open PySem PySem.Spec PyProof.Rows PySem.W
noncomputable def Ite (K : PySem.W.Frag) (a : Addr) : It :=
  ⟨fun i H => ∃ xs x, SqL K H a xs ∧ xs[i]? = some x,
   fun i H v H' => ∃ p x, v = .ref p ∧ H p = none ∧ H' = upd H p (.tup [.int i, x]) ∧ ∀ xs, SqL K H a xs → xs[i]? = some x,
   fun i H => ∃ xs, SqL K H a xs ∧ xs.length ≤ i⟩
theorem turn_enum {P : Program} {w : World} {K : PySem.W.Frag} {es : List Expr} {kk : Nat} {pos : Pos} (a z i1 : Addr) (hne : z ≠ i1) :
    Turn P w K (.Tuple es kk pos) (Ite K a) [z, i1] z (fun i h => (∃ old, IsEnum h z i1 i old) ∧ h.IsListIter i1 a i) where
  mem := by simp
  obj := fun i h st c hc => by
    obtain ⟨⟨old, hz⟩, ⟨o1, e1, c1, d1⟩⟩ := st
    simp only [List.mem_cons, List.not_mem_nil, or_false] at hc
    rcases hc with rfl | rfl
    · exact ⟨_, hz, fun v x => by cases x⟩
    · exact ⟨_, e1, fun v x => by rw [d1] at x; cases x⟩
  keep := fun i h h' st k => by
    obtain ⟨⟨old, hz⟩, h1⟩ := st
    exact ⟨⟨old, k z (by simp) _ hz⟩, h1.at fun o e => k i1 (by simp) o e⟩
  item := by
    intro X hP hw hK hc i pins s σ H E I hf st hg
    subst hP hw hK
    obtain ⟨⟨old, hz⟩, h1⟩ := st
    obtain ⟨xs, x, hq1, hx⟩ := hg
    obtain ⟨its, rv, p, hz1⟩ := I.list hq1
    obtain ⟨ux, hux, rux⟩ := rv.get hx
    refine wpAny_pyNext_enum_item hz h1 p.isList (x := ux) (by simpa using hux) hne fun h' a1 a2 a3 a4 hk => ?_
    have ltz : ∀ c ∈ [z, i1], c < s.heap.objs.size := by
      intro c hc
      simp only [List.mem_cons, List.not_mem_nil, or_false] at hc
      rcases hc with rfl | rfl
      · exact Heap.lt_size hz
      · obtain ⟨_, e, _⟩ := h1; exact Heap.lt_size e
    have I1 : Inv X pins σ (upd H s.heap.objs.size (.tup [.int i, x])) { s with heap := s.heap.push { cls := .type "tuple", data := .seq #[.int i s.toks, ux] }, toks := s.toks + 1 } := by
      refine I.laid (fun c o e => Heap.get?_push_of_some _ e) (Nat.le_refl _) ⟨by show 2 ≤ sizeLine; decide, [.int i s.toks, ux], .cons ⟨_, rfl⟩ (.cons rux .nil), ?_⟩
      exact ⟨_, Heap.get?_push_size _ rfl, rfl, _, rfl⟩
    have hfr : ∀ c ∈ [z, i1], upd H s.heap.objs.size (.tup [.int i, x]) c = none := fun c hc => by
      rw [upd_ne (Nat.ne_of_lt (ltz c hc))]; exact (hf c hc).1
    have hf1 : ∀ c ∈ [z, i1], FpOk X pins (upd H s.heap.objs.size (.tup [.int i, x])) c := fun c hc => ⟨hfr c hc, (hf c hc).2⟩
    have kk : ∀ c o, c ∉ [z, i1] → (s.heap.push { cls := .type "tuple", data := .seq #[.int i s.toks, ux] }).get? c = some o → h'.get? c = some o := fun c o hc e => by
      rcases Heap.get?_push_cases e with ⟨e9, e8⟩ | e'
      · subst e9 e8; exact a3
      · exact hk c o (fun x => hc (by simp [x])) (fun x => hc (by simp [x])) e'
    have I2 : Inv X pins σ (upd H s.heap.objs.size (.tup [.int i, x])) { s with heap := h', toks := s.toks + 1 } := by
      have z := Inv.turnedL (t' := s.toks + 1) I1 kk hf1
      exact z
    refine ⟨_, rfl, wpAny_letOwnedTupleGo_enum (s := { s with heap := h', toks := s.toks + 1 }) a1 fun h'' hz'' hs'' => ?_⟩
    have I3 : Inv X pins σ (upd H s.heap.objs.size (.tup [.int i, x])) { s with heap := h'', toks := s.toks + 1 } := by
      have z := Inv.turnedL (h' := h'') (t' := s.toks + 1) (ch := [z]) I2 (fun c o hc e => hs''.extBut c o (fun q => hc (by simp [q])) e) (fun c hc => hf1 c (by simp at hc; simp [hc]))
      exact z
    refine ⟨.ref s.heap.objs.size, _, I3, rfl, ⟨_, x, rfl, I.hok.fresh (Nat.le_refl _), rfl, fun zs hzs => by rw [I.list_inj hzs hq1]; exact hx⟩, ?_, hfr⟩
    exact ⟨⟨_, by have := hz''; push_cast; exact this⟩, a2.extBut hs''.extBut (Ne.symm hne)⟩
  done := by
    intro X hP hw hK hc i pins s σ H E I hf st hg
    subst hP hw hK
    obtain ⟨⟨old, hz⟩, h1⟩ := st
    obtain ⟨xs, hq1, hend⟩ := hg
    obtain ⟨its, rv, p, hz1⟩ := I.list hq1
    have l1 := rv.length
    refine wpAny_pyNext_enum_end (I.ok.hd hc) hz h1 p.isList (by simp; omega) fun h' hk => ⟨rfl, ?_⟩
    exact I.turnedL (t' := s.toks) (ch := [z, i1]) (fun c o hc e => hk c o (fun x => hc (by simp [x])) e) hf
  self := fun _ _ _ _ _ st h => by
    obtain ⟨⟨old, hz⟩, _⟩ := st
    exact wpAny_pyIter_enum hz h
noncomputable def iEnum (K : PySem.W.Frag) (ta : TA) : TI := fun σ H R => ta σ H fun vs H1 => ∃ a, vs = [.ref a] ∧ (∃ xs, SqL K H1 a xs) ∧ R (Ite K a) H1
theorem pi_enum {X : Cx} {es : List Expr} {kk : Nat} {tp : Pos} {a : Expr} {ta : TA} {p pos : Pos} (hg : Gl X "enumerate") (hm : X.mg "enumerate" = none) (ha : PA X [a] ta) (hs : noStar a = true) :
    PI X (.Tuple es kk tp) (.Call (.Name "enumerate" p) [a] [] pos) (iEnum X.K ta) := by
  intro pins s σ H R I h
  refine Call_ (ld_blt I hg hm boot_enumerate (PyProof.Rows.callWith_type1 (thn (ha pos pins s σ H _ I h) fun us s1 zz => ?_) (by rw [star_cons hs]) rfl))
  obtain ⟨vs, H1, I1, r1, q1⟩ := zz
  obtain ⟨l1, e, ⟨xs, hq1⟩, q⟩ := q1
  subst e
  obtain ⟨u, rfl, ru⟩ := vals1 r1
  cases ru
  obtain ⟨its, rv, p1, _⟩ := I1.list hq1
  refine call_enumerate_list p1.isList fun h' hz hi1 hsz hk => ?_
  refine wpAny_pyIter_enum hz ?_
  refine ⟨s1.heap.objs.size + 1, _, _, _, H1, rfl, I1.kept (t' := s1.toks) hk, turn_enum l1 _ _ (Nat.succ_ne_self _), ⟨⟨_, hz⟩, hi1⟩, fun c hc => ?_, q⟩
  have hge : s1.heap.objs.size ≤ c := by
    simp only [List.mem_cons, List.not_mem_nil, or_false] at hc
    rcases hc with rfl | rfl
    · exact Nat.le_succ _
    · exact Nat.le_refl _
  exact I1.fpOk hge (I1.hok.fresh hge)
theorem for_enum {K : PySem.W.Frag} {a : Addr} {xs : List V} {g : TG} {tb : TS} {D : Ends} {σ : St} {H : Hp} (Pv : Nat → St → Hp → Prop) (h0 : Pv 0 σ H) (hl : ∀ i σ H, i ≤ xs.length → Pv i σ H → SqL K H a xs)
    (hs : ∀ (i : Nat) x p σ H, xs[i]? = some x → Pv i σ H → H p = none → g (.ref p) σ (upd H p (.tup [.int i, x])) fun σ2 H2 => tb { D with nx := Pv (i + 1), ct := Pv (i + 1), bk := D.nx } σ2 H2) (hd : ∀ σ H, Pv xs.length σ H → D.nx σ H) :
    ∃ W : Nat → Nat → St → Hp → Prop, (∃ m, W 0 m σ H) ∧ ∀ i m σ H, W i m σ H →
      ((Ite K a).stop i H ∧ D.nx σ H) ∨ ((Ite K a).go i H ∧ ∃ N : St → Hp → Prop, (∀ σ' H', N σ' H' → ∃ m', m' < m ∧ W (i + 1) m' σ' H') ∧ ∀ x H', (Ite K a).yld i H x H' → g x σ H' fun σ2 H2 => tb { D with nx := N, ct := N, bk := D.nx } σ2 H2) := by
  refine ⟨fun i m σ H => m = xs.length - i ∧ i ≤ xs.length ∧ Pv i σ H, ⟨xs.length, by simp, Nat.zero_le _, h0⟩, ?_⟩
  rintro i m σ H ⟨rfl, hi, p⟩
  have q := hl i σ H hi p
  by_cases hlt : i < xs.length
  · refine .inr ⟨⟨xs, xs[i], q, by simp [hlt]⟩, Pv (i + 1), fun σ' H' p' => ⟨xs.length - (i + 1), by omega, rfl, hlt, p'⟩, fun v H' y => ?_⟩
    obtain ⟨r, x, rfl, hn, rfl, h1⟩ := y
    exact hs i x r σ _ (h1 _ q) p hn
  · have e : i = xs.length := by omega
    subst e
    exact .inl ⟨⟨xs, q, Nat.le_refl _⟩, hd σ H p⟩
/-! ### the signs of a text, one by one -/
noncomputable def Its (l : List Nat) : It := ⟨fun i _ => i < l.length, fun i H v H' => H' = H ∧ ∃ c, l[i]? = some c ∧ v = .str (tx [c]), fun i _ => l.length ≤ i⟩
theorem turn_str {P : Program} {w : World} {K : PySem.W.Frag} {tg : Expr} (l : List Nat) (t : Tok) (it : Addr) : Turn P w K tg (Its l) [it] it (fun i h => h.IsStrIter it "str_ascii_iterator" (tx l) t i) where
  mem := by simp
  obj := fun i h st b hb => by
    have e : b = it := by simpa using hb
    subst e
    obtain ⟨o, e, c, d⟩ := st
    exact ⟨o, e, fun v z => by rw [d] at z; cases z⟩
  keep := fun i h h' st k => by
    obtain ⟨o, e, c, d⟩ := st
    exact ⟨o, k it (by simp) o e, c, d⟩
  item := by
    intro X hP hw hK hc i pins s σ H E I hf st hg
    subst hP hw hK
    have hg : i < l.length := hg
    obtain ⟨f0, f1, f2, f3, f4, f5⟩ := hf it (by simp)
    have hx : (tx l).cps[i]? = some l[i] := by rw [← Array.getElem?_toList, tx_list]; simp [hg]
    refine wpAny_pyNext_ascii_item st hx fun h' st' sb => ?_
    have I1 : Inv X pins σ H { s with heap := h', toks := s.toks + 1 } := I.turned (t' := s.toks + 1) (fun b o hb e => (sb.2 b hb).trans e) f0 f1 f3 f4 f5
    obtain ⟨o, e, c, d⟩ := id st'
    exact ⟨_, rfl, go_of (s := { s with heap := h', toks := s.toks + 1 }) e c d (by decide) ⟨.str (tx [l[i]]), H, I1, ⟨_, rfl⟩, ⟨rfl, l[i], by simp [hg], rfl⟩, st', fun b hb => (hf b hb).1⟩⟩
  done := by
    intro X hP hw hK hc i pins s σ H E I hf st hg
    subst hP hw hK
    have hg : l.length ≤ i := hg
    obtain ⟨f0, f1, f2, f3, f4, f5⟩ := hf it (by simp)
    have hx : (tx l).cps[i]? = none := by rw [← Array.getElem?_toList, tx_list]; simp [hg]
    exact wpAny_pyNext_ascii_end (I.ok.hd hc) st hx fun h' eb => ⟨rfl, I.turned (t' := s.toks) (fun b o hb e => eb b o hb e) f0 f1 f3 f4 f5⟩
  self := fun _ _ _ _ _ st h => wpAny_pyIter_striter_ascii st h
noncomputable def iStr (tl : TE) : TI := fun σ H R => tl σ H fun x H1 => ∃ l : List Nat, x = .str (tx l) ∧ l.all (· < 128) = true ∧ R (Its l) H1
theorem pi_str {X : Cx} {tg e : Expr} {tl : TE} (hl : PE X e tl) : PI X tg e (iStr tl) := by
  intro pins s σ H R I h
  refine thn (hl pins s σ H _ I h) fun v s1 zz => ?_
  obtain ⟨x, H1, I1, r1, l, e, ha, q⟩ := zz
  subst e
  obtain ⟨t, rfl⟩ := (show ∃ t, v = Value.str (tx l) t from r1)
  refine wpAny_pyIter_ascii (by rw [← Array.all_toList, tx_list]; exact ha) ?_
  refine ⟨s1.heap.objs.size, [s1.heap.objs.size], _, _, H1, rfl, I1.kept (t' := s1.toks) fun b o e => Heap.get?_push_of_some _ e, turn_str l t _, ⟨_, Heap.get?_push_size _ rfl, rfl, rfl⟩, fun b hb => ?_, q⟩
  have e : b = s1.heap.objs.size := by simpa using hb
  subst e
  exact I1.fpOk (Nat.le_refl _) (I1.hok.fresh (Nat.le_refl _))
end L2


set_option Elab.async false
set_option linter.all false
set_option maxRecDepth 100000
/-! list(d); ==, != of lists of texts; == of a thing with itself -/
namespace L2
open PySem PySem.Spec PyProof.Rows PySem.W
section
variable {X : Cx}
theorem vals_keys {P : Program} {w : World} {kvs : List (Key × V)} {vs : List (Key × Value)} (r : KV kvs vs) : ∀ (us : List Value), us.length = vs.length → (∀ (j : Nat) (v : Value), us[j]? = some v → ∃ (k : Key) (x : Value), vs[j]? = some (k, x) ∧ (mixKind P w).is k v = true) → Vals (kvs.map fun q => kV q.1) us := by
  induction r with
  | nil => intro us hl _; cases us with | nil => exact .nil | cons => cases hl
  | cons h t ih =>
    intro us hl hu
    cases us with
    | nil => cases hl
    | cons u us =>
      obtain ⟨k, x, e, hk⟩ := hu 0 u rfl
      simp only [List.getElem?_cons_zero, Option.some.injEq] at e
      refine .cons ?_ (ih us (by simpa using hl) fun j v hv => by simpa using hu (j + 1) v (by simpa using hv))
      rename_i p q _ _
      have e1 : p.1 = k := by rw [h.1, e]
      show RelV (kV p.1) u
      rw [e1]
      rcases keyIs_shape hk with ⟨i, t, rfl, rfl⟩ | ⟨i, t, rfl, rfl⟩
      · exact ⟨t, rfl⟩
      · exact ⟨t, rfl⟩
theorem call_list_dk (hc : X.calm = true) : CallR X (.type "list") (fun xs H Q => ∃ a kvs, xs = [.ref a] ∧ H a = some (.dK kvs) ∧ ∀ l, H l = none → Q (.ref l) (upd H l (.lst (kvs.map fun q => kV q.1)))) := by
  intro pins s σ H xs us Q I r h
  obtain ⟨a, kvs, rfl, ea, q⟩ := h
  obtain ⟨u, rfl, ru⟩ := vals1 r
  cases ru
  obtain ⟨z, lo, vs, rel, hd⟩ : ObjOk X.prog X.w H s.heap a (.dK kvs) := I.hok a _ ea
  obtain ⟨ep, hat⟩ := hd.dictAt
  have hlen : kvs.length = vs.length := Paired.length rel
  refine kdl_call (kdl_dict (knd := mixKind X.prog X.w) (kvs := vs) (ep := ep) lo) (I.ok.hd hc) hat (by rw [← hlen]; exact z) fun h' tk acc c hk hl hacc => ?_
  have va : Vals (kvs.map fun q => kV q.1) acc.toList := vals_keys (P := X.prog) (w := X.w) rel acc.toList (by rw [Array.length_toList]; exact hacc.1) fun j v e => hacc.2 j v (by rw [← Array.getElem?_toList]; exact e)
  exact ⟨.ref s.heap.objs.size, _, I.laid (t' := tk) (o := .lst (kvs.map fun q => kV q.1)) hk (Nat.le_refl _) ⟨by rw [List.length_map]; exact z, acc.toList, c, va, by rw [Array.toArray_toList]; exact hl⟩, rfl, q _ (I.hok.fresh (Nat.le_refl _))⟩
/-! ### lists of texts -/
noncomputable def rEqS (K : PySem.W.Frag) (neg : Bool) : R2 := fun x y H Q => ∃ (a b : Addr) (ns ms : List Str), x = .ref a ∧ y = .ref b ∧ SqL K H a (ns.map V.str) ∧ SqL K H b (ms.map V.str) ∧ Q (.bl (if neg then !decide (ns = ms) else decide (ns = ms))) H
theorem strs_all : ∀ {ns ms : List Str} {us ws : List Value} {A : Around} {s : Shared}, Vals (ns.map V.str) us → Vals (ms.map V.str) ws → ∀ j (h1 : j < us.toArray.size) (h2 : j < ws.toArray.size), SeqAt.EqAt A s us.toArray[j] ws.toArray[j] ((ns[j]?).any fun x => (ms[j]?).any fun y => x == y) := by
  intro ns ms us ws A s r1 r2 j h1 h2
  have g1 : j < us.length := by simpa using h1
  have g2 : j < ws.length := by simpa using h2
  have l1 := r1.length
  have l2 := r2.length
  rw [List.length_map] at l1 l2
  obtain ⟨x, hx, rx⟩ := vals_at r1 (List.getElem?_eq_getElem g1)
  obtain ⟨y, hy, ry⟩ := vals_at r2 (List.getElem?_eq_getElem g2)
  rw [List.getElem?_map] at hx hy
  obtain ⟨a, ha, rfl⟩ := Option.map_eq_some_iff.mp hx
  obtain ⟨b, hb, rfl⟩ := Option.map_eq_some_iff.mp hy
  rw [ha, hb]
  have := eqAt_V (A := A) (s := s) rx ry rfl rfl
  simpa [eqV] using this
theorem strs_same : ∀ {ns ms : List Str}, ns.length = ms.length → ((List.range ns.length).all fun j => (ns[j]?).any fun x => (ms[j]?).any fun y => x == y) = decide (ns = ms) := by
  intro ns ms hl
  by_cases h : ns = ms
  · subst h
    rw [decide_eq_true rfl, List.all_eq_true]
    intro j hj
    have hj : j < ns.length := List.mem_range.mp hj
    simp [hj]
  · rw [decide_eq_false h, ← Bool.not_eq_true]
    intro q
    refine h (List.ext_getElem? fun j => ?_)
    by_cases hj : j < ns.length
    · have z := List.all_eq_true.mp q j (List.mem_range.mpr hj)
      have hj2 : j < ms.length := hl ▸ hj
      simp only [List.getElem?_eq_getElem hj, List.getElem?_eq_getElem hj2, Option.any_some, beq_iff_eq] at z ⊢
      rw [z]
    · rw [List.getElem?_eq_none (by omega), List.getElem?_eq_none (by omega)]
theorem op_eqS (hu : X.A.units < cLine) : OpR X (compareOp .Eq) (rEqS X.K false) := by
  intro pins s σ H x y v u Q I rx ry h
  obtain ⟨a, b, ns, ms, rfl, rfl, ha, hb, q⟩ := h
  cases rx; cases ry
  obtain ⟨its, r1, p1, _⟩ := I.list ha
  obtain ⟨its2, r2, p2, _⟩ := I.list hb
  have l1 := r1.length
  have l2 := r2.length
  rw [List.length_map] at l1 l2
  by_cases hl : ns.length = ms.length
  · refine SeqAt.RcAt.lists p1.isList p2.isList (by rw [List.size_toArray, List.size_toArray]; omega) hu (fun j h1 h2 => strs_all r1 r2 j h1 h2) _ _ _ _ ?_
    refine ⟨_, H, I, ?_, q⟩
    show Value.bool _ = Value.bool (decide (ns = ms))
    rw [List.size_toArray, ← l1, strs_same hl]
  · refine SeqAt.RcAt.lists_lengths p1.isList p2.isList (by rw [List.size_toArray, List.size_toArray]; simp; omega) hu _ _ _ _ ?_
    refine ⟨_, H, I, ?_, q⟩
    show Value.bool false = Value.bool (decide (ns = ms))
    rw [decide_eq_false fun e => hl (by rw [e])]
/-! ### a thing and itself -/
noncomputable def SameK (H : Hp) : V → Prop
  | .non => True
  | .bl _ => True
  | .int _ => True
  | .str _ => True
  | .ref a => (∃ xs, H a = some (.lst xs)) ∨ (∃ xs, H a = some (.tup xs)) ∨ H a = some (.dK [])
  | _ => False
theorem dict_eq0 {P : Program} {w : World} {A : Around} {E : Value → Shared → Prop} {s : Shared} {a : Addr} {Q : Value → Shared → Prop} (hu : A.units < cLine) (lo : (a == sysModules) = false) (hd : s.heap.DictOf (mixKind P w) a []) (q : Q (.bool true) s) : wpAny (model P w) A (compareOp .Eq (.ref a) (.ref a)) Q E s :=
  keq_eq lo lo hd hd hu (fun _ => .nil) q
theorem op_eqSame (hu : X.A.units < cLine) : OpR X (compareOp .Eq) (fun x y H Q => x = y ∧ SameK H x ∧ Q (.bl true) H) := by
  intro pins s σ H x y v u Q I rx ry h
  obtain ⟨rfl, k, q⟩ := h
  have sc : scal x x = true → wpAny (model X.prog X.w) X.A (compareOp .Eq v u) (EP X pins σ Q) X.xe s := fun z => op_eq pins s σ H x x v u Q I rx ry ⟨z, by rw [decide_eq_true rfl]; exact q⟩
  cases x with
  | non => exact sc rfl
  | bl b => exact sc rfl
  | int i => exact sc rfl
  | str i => exact sc rfl
  | byt => exact k.elim
  | flt => exact k.elim
  | ty => exact k.elim
  | ref a =>
    cases rx; cases ry
    rcases k with ⟨xs, e⟩ | ⟨xs, e⟩ | e
    · obtain ⟨its, r1, p1, _⟩ := I.list (SqL.of e)
      refine SeqAt.RcAt.lists (e := fun _ => true) p1.isList p1.isList rfl hu (fun j h1 h2 => SeqAt.EqAt.same _) _ _ _ _ ⟨.bl true, H, I, ?_, q⟩
      show Value.bool _ = Value.bool true
      congr 1
      simp
    · obtain ⟨its, r1, p1, _⟩ := I.tuple (SqT.of e)
      refine SeqAt.RcAt.tuples (e := fun _ => true) p1 p1 hu (fun j h1 h2 => SeqAt.EqAt.same _) _ _ _ _ ⟨.bl true, H, I, ?_, q⟩
      show Value.bool _ = Value.bool true
      congr 1
      simp
    · obtain ⟨z, lo, vs, rel, hd⟩ : ObjOk X.prog X.w H s.heap a (.dK []) := I.hok a _ e
      cases rel
      exact dict_eq0 hu lo hd ⟨.bl true, H, I, rfl, q⟩
end
end L2


set_option Elab.async false
set_option linter.all false
set_option maxRecDepth 100000
/-! the rules, shut -/
namespace L2
open PySem PySem.Spec PyProof.Rows PySem.W
structure QX (X : Cx) (C : Addr) (e : Expr) (t : TX) : Prop where h : PX X C e t
structure QB (X : Cx) (C : Addr) (b : List Stmt) (t : TB) : Prop where h : PB X C b t
section
variable {X : Cx}
theorem op_din (hu : X.A.units + 64 < cLine) : OpR X (compareOp .In) (fun y x H Q => ∃ a o, x = .ref a ∧ DGet H a y o ∧ Q (.bl o.isSome) H) := by
  intro pins s σ H y x v u Q I ry rx h
  obtain ⟨a, o, rfl, g, q⟩ := h
  cases rx
  exact d_in (by omega) I g ry fun s' I' => ⟨.bl _, H, I', rfl, q⟩
end
theorem few2 {e f : Expr} {env : Env} {cpos : Pos} (h : noStar e = true) (h2 : noStar f = true) : ((backTo cpos (starEach [e, f] env)).all (fun x => !x.1) && (backToKw cpos (keywordEach [] env)).all (fun x => x.1.isSome)
      && decide (([e, f] : List Expr).length + ([] : List Keyword).length + (if ([] : List Keyword).isEmpty then 0 else 1) < 30)) = true := by
  rw [star_cons h, star_cons h2]; rfl
section
variable {P : Program} {w : World} {K : PySem.W.Frag} {mg : Str → Option Value} {base : Heap}
/-- a def by the contract in which it raises an exception of the class C -/
theorem Fun.ok_D {C : Addr} {x qual : Str} {st : Stmt} {f : Addr} {fd : FuncData} {N ps : List Str} {k : Nat} {sp : Sp} (F : Fun K x qual st f fd) (S : FnScope N ps (defScope st)) (len : ∀ vs H Q E, sp vs H Q E → vs.length = ps.length)
    (hbody : ∀ (cdv : Value) (A : Around) (outer : List Env) (s : Shared) (H : Hp) (vs : List V) (Q : VK) (E : XK), Room k (A.deeper (envOfC qual (defScope st) s.heap.objs.size f cdv)) → sp vs H Q E →
      ∃ t, QSs (cxOf (CXD P w C) P w K mg base N qual (defScope st) f cdv A outer s H E) (defBody st) t ∧ t { nx := fun _ H' => Q .non H', rt := Q } (start N vs) H) : FnOk P w K mg base (CXD P w C) (k + 1) f fd ps sp := by
  obtain ⟨oc, od, kV, doc, pm, an, cdv, ct, osl, rfl, lk, hcd⟩ := F.ex
  refine fn_of lk hcd S len fun A outer s H vs Q E hr hsp => ?_
  obtain ⟨t, h, q⟩ := hbody cdv A outer s H vs Q E hr hsp
  exact ⟨t, h.h, q⟩
theorem passes_forD {C : Addr} {N : List Str} {qual : Str} {scope : Scope} {f : Addr} {cd : Value} {A : Around} {outer : List Env} {s : Shared} {H : Hp} {E : XK} :
    PassesOwn (model P w) (cxOf (CXD P w C) P w K mg base N qual scope f cd A outer s H E).A (cxOf (CXD P w C) P w K mg base N qual scope f cd A outer s H E).env (cxOf (CXD P w C) P w K mg base N qual scope f cd A outer s H E).xe :=
  PassesOwn.leaving
end
namespace R
section
variable {X : Cx} {e o i f value : Expr} {es : List Expr} {te to ti tf tv : TE} {t : TA} {pos p apos pos' : Pos}
theorem ps_raiseD {x f : Str} {C : Addr} {k j : Nat} {E : XK} {np cpos : Pos} (Z : ExcF X.prog X.w X.K X.mg X.base k x C f) (hr : Room j X.A) (hj : k + 1 ≤ j) (hc : X.calm = true) (hg : Gl X x) (ha : QA X [e] t)
    (hst : X.stack = X.env :: X.outer) (hf : X.env.frame = some X.env.locals) (hex : X.ex = []) (hxe : Goes X C E) (hs : noStar e = true := by rfl) (hdb : (x == ("__debug__" : Str)) = false := by decide) :
    QS X (.Raise (some (.Call (.Name x np) [e] [] cpos)) none pos) (tRaiseD E f t) := ⟨L2.ps_raiseD Z hr hj hc hg ha.h hst hf hex hxe hs hdb⟩
theorem pe_baseI {x : Str} {D C : Addr} {ap : Pos} {pl : Sem Bool} {e2 : Expr} (Z : InitB X.K D) (O : OwnI C veM "ValueError.__new__" X.base) (hg : Gl X x) (hm : X.mg x = some (.ref D)) (ha : QA X [e, e2] t)
    (hs : [e, e2].all noStar = true := by rfl) (hdb : (x == ("__debug__" : Str)) = false := by decide)
    (ht : eval (.Call (.Attribute (.Name x p) "__init__" ap) [e, e2] [] pos) X.env = (do
      let ov ← eval (.Name x p) X.env
      standAt ap.atName
      let (f, first) ← holding [ov] (getMethod ov "__init__" pl)
      callWith pos f first (backTo pos (starEach [e, e2] X.env)) (backToKw pos (keywordEach [] X.env))) := by rfl) :
    QE X (.Call (.Attribute (.Name x p) "__init__" ap) [e, e2] [] pos) (tBaseI C t) := ⟨L2.pe_baseI (pl := pl) Z O hg hm ha.h hs hdb ht⟩
theorem ps_fldE {f : Str} {C : Addr} (Z : SetB X.K C f) (ha : QE X o to) (hv : QE X value tv) (hs : noComp value = true := by rfl) : QS X (.Assign [.Attribute o f pos'] value pos) (sFldE C to tv f) := ⟨L2.ps_fldE Z ha.h hv.h (swaps_no hs)⟩
theorem pe_fldE (K : PySem.W.Frag) {f : Str} (he : QE X e te) (hb : attributeBase e f X.env (eval e X.env) = eval e X.env := by rfl) (hK : X.K = K := by rfl) : QE X (.Attribute e f pos) (tFldE K te f) := by subst hK; exact ⟨L2.pe_fldE he.h hb⟩
theorem pe_isOD {x : Str} {D : Addr} {p2 : Pos} (hg : Gl X "isinstance") (hm : X.mg "isinstance" = none) (hgT : Gl X x) (hmT : X.mg x = some (.ref D)) (ha : QE X e te) (hs : noStar e = true := by rfl) (hdb : (x == ("__debug__" : Str)) = false := by decide) :
    QE X (.Call (.Name "isinstance" p) [e, .Name x p2] [] pos) (tCB (rIsOD X.K D) (tCons te (tCons (tC (.ref D)) tNil))) :=
  ⟨L2.pe_cB (call_isOD D) hg hm boot_isinstance (L2.pa_c ha.h (L2.pa_c (L2.pe_glob hgT hmT rfl hdb) L2.pa_nil) hs) (by rw [List.all_cons, hs]; rfl)⟩
theorem pe_isTD {x : Str} {T : String} {p2 : Pos} (hg : Gl X "isinstance") (hm : X.mg "isinstance" = none) (hgT : Gl X x) (hmT : X.mg x = none) (hv : bootBuiltins x = some (.type T)) (ha : QE X e te) (hs : noStar e = true := by rfl)
    (hn : x ≠ "__name__" := by decide) (hdb : (x == ("__debug__" : Str)) = false := by decide) :
    QE X (.Call (.Name "isinstance" p) [e, .Name x p2] [] pos) (tCB (rIsTD X.K T) (tCons te (tCons (tC (.ty T)) tNil))) :=
  ⟨L2.pe_cB (call_isTD T) hg hm boot_isinstance (L2.pa_c ha.h (L2.pa_c (L2.pe_bltn hgT hmT hv rfl hn hdb) L2.pa_nil) hs) (by rw [List.all_cons, hs]; rfl)⟩
theorem pe_isOTD {e2 : Expr} {te2 : TE} (hg : Gl X "isinstance") (hm : X.mg "isinstance" = none) (ha : QE X e te) (hb : QE X e2 te2) (hs : noStar e = true := by rfl) (hs2 : noStar e2 = true := by rfl) :
    QE X (.Call (.Name "isinstance" p) [e, e2] [] pos) (tCB (rIsOTD X.K) (tCons te (tCons te2 tNil))) :=
  ⟨L2.pe_cB call_isOTD hg hm boot_isinstance (L2.pa_c ha.h (L2.pa_c hb.h L2.pa_nil hs2) hs) (by rw [List.all_cons, hs, List.all_cons, hs2]; rfl)⟩
theorem px_make {x : Str} {C D : Addr} {k j : Nat} {ps : List Str} {sp : Sp} (M : MakeX X.prog X.w X.K X.mg X.base k x C D ps sp) (hr : Room j X.A) (hj : k + 1 ≤ j) (hg : Gl X x) (ha : QA X.nox (e :: es) t) (hs : (e :: es).all noStar = true := by rfl) (hdb : (x == ("__debug__" : Str)) = false := by decide) :
    QX X D (.Call (.Name x p) (e :: es) [] pos) (tMakeX C sp t) := ⟨L2.px_make M hr hj hg ha.h hs hdb⟩
theorem pb_expr {D : Addr} {tx : TX} (he : QX X D e tx) (hs : noComp e = true := by rfl) : QB X D [.Expr e pos] (tBX tx) := ⟨L2.pb_expr he.h (swaps_no hs)⟩
theorem ps_tryD {C D : Addr} {y n : Str} {i : Nat} {np hpos : Pos} {body : List Stmt} {b₀ : Stmt} {suite : List Stmt} {tb : TB} {th : Value → TS} (hB : QB X C body tb)
    (hgD : Gl X y) (hmD : X.mg y = some (.ref D)) (ZD : ExD X.K D) (hN : X.N.Nodup) (hi : X.N[i]? = some n) (hl : X.env.kindOf n = some .local) (hst : X.stack = X.env :: X.outer) (hf : X.env.frame = some X.env.locals)
    (hs : ∀ v, QSs (X.handling v) (b₀ :: suite) (th v)) (hdy : (y == ("__debug__" : Str)) = false := by decide) :
    QS X (.Try body [.ExceptHandler (some (.Name y np)) (some n) (b₀ :: suite) hpos] [] [] pos) (tTryD X.K C D i tb th) := ⟨L2.ps_tryD hB.h hgD hmD ZD hN hi hl hst hf (fun v => (hs v).h) hdy⟩
theorem ps_tryD0 {C D : Addr} {y : Str} {np hpos : Pos} {body : List Stmt} {b₀ : Stmt} {suite : List Stmt} {tb : TB} {th : Value → TS} (hB : QB X C body tb)
    (hgD : Gl X y) (hmD : X.mg y = some (.ref D)) (ZD : ExD X.K D) (hst : X.stack = X.env :: X.outer) (hf : X.env.frame = some X.env.locals)
    (hs : ∀ v, QSs (X.handling v) (b₀ :: suite) (th v)) (hdy : (y == ("__debug__" : Str)) = false := by decide) :
    QS X (.Try body [.ExceptHandler (some (.Name y np)) none (b₀ :: suite) hpos] [] [] pos) (tTryD0 X.K C D tb th) := ⟨L2.ps_tryD0 hB.h hgD hmD ZD hst hf (fun v => (hs v).h) hdy⟩
theorem pi_enum {tes : List Expr} {kk : Nat} {tp : Pos} (hg : Gl X "enumerate") (hm : X.mg "enumerate" = none) (ha : QA X [e] t) (hs : noStar e = true := by rfl) : QI X (.Tuple tes kk tp) (.Call (.Name "enumerate" p) [e] [] pos) (iEnum X.K t) := ⟨L2.pi_enum hg hm ha.h hs⟩
theorem pi_str {tg : Expr} (hl : QE X e te) : QI X tg e (iStr te) := ⟨L2.pi_str hl.h⟩
theorem ps_dput (hu : X.A.units + 64 < cLine) (ho : QE X o to) (hi : QE X i ti) (hv : QE X value tv) (hs : noComp value = true := by rfl) : QS X (.Assign [.Subscript o i pos'] value pos) (sDPut to ti tv) := ⟨L2.ps_dput (by omega) ho.h hi.h hv.h (swaps_no hs)⟩
theorem pe_dget2 {cpos : Pos} (hu : X.A.units + 64 < cLine) (ho : QE X o to) (he : QE X e te) (hf : QE X f tf) (hs : noStar e = true := by rfl) (hs2 : noStar f = true := by rfl) (hb : attributeBase o "get" X.env (eval o X.env) = eval o X.env := by rfl) (hl : (apos.endLine == cpos.line) = true := by rfl) :
    QE X (.Call (.Attribute o "get" apos) [e, f] [] cpos) (tDGet2 to te tf) := ⟨L2.pe_dget2 (by omega) ho.h he.h hf.h ⟨hb, few2 hs hs2, hl, by rw [star_cons hs, star_cons hs2]; rfl⟩⟩
end
end R
/-! ### comprehensions over a text -/
section
variable {l : Addr} {fr : List Nat} {tt : TT} {te : TE} {σ : St} {Q : VK} {H1 : Hp}
theorem comp_str_map (xs : List Nat) (p : Nat → Bool) (f : Nat → V) (hn : xs.length ≤ 100) (hl : H1 l = none)
    (ht : ∀ x ∈ xs, ∀ H, Same H1 H → ∀ C, (∀ H', Same H H' → C (p x) H') → tt (some (.str (tx [x])) :: inner σ fr) H C)
    (he : ∀ x ∈ xs, p x = true → ∀ H, Same H1 H → ∀ C, (∀ H', Same H H' → C (f x) H') → te (some (.str (tx [x])) :: inner σ fr) H C)
    (hd : ∀ H, Same H1 H → H l = some (.lst ((xs.filter p).map f)) → Q (.ref l) H) : CompGoal (Its xs) 1 (gName 0) fr tt te σ Q H1 l := by
  refine comp_by1 xs.length (fun k H => Same H1 H ∧ H l = some (.lst (((xs.take k).filter p).map f))) ⟨same_new hl _, upd_same⟩ (fun k H hk _ => hk) (fun H _ => Nat.le_refl _) ?_ fun H ⟨s, e⟩ => hd H s (by rw [List.take_length] at e; exact e)
  rintro k H v H' hk ⟨s, e⟩ ⟨rfl, c, hx, rfl⟩ K1 K0 h1 h0
  have hm : c ∈ xs := List.mem_of_getElem? hx
  have e' : (xs.take (k + 1)).filter p = (xs.take k).filter p ++ (if p c = true then [c] else []) := by
    rw [List.take_add_one, hx, List.filter_append]
    cases hp : p c <;> simp [hp]
  refine ht c hm _ s _ fun H2 s2 => ?_
  have eL : H2 l = some (.lst (((xs.take k).filter p).map f)) := s2 _ _ e
  cases hp : p c with
  | false =>
    rw [if_neg (by decide)]
    refine h0 H2 ⟨s.trans s2, ?_⟩
    rw [e', hp]; simpa using eL
  | true =>
    rw [if_pos rfl]
    refine he c hm hp H2 (s.trans s2) _ fun H3 s3 => ?_
    have e3 : H3 l = some (.lst (((xs.take k).filter p).map f)) := s3 _ _ eL
    refine h1 _ H3 _ e3 ?_ ⟨?_, ?_⟩
    · rw [List.length_map, sizeLine_eq]
      have := List.length_filter_le p (xs.take k)
      rw [List.length_take] at this
      omega
    · exact ((s.trans s2).trans s3).upd hl _
    · rw [upd_same, e', hp]; simp
end
end L2


set_option Elab.async false
set_option linter.all false
set_option maxRecDepth 100000
/-! a text so many times -/
namespace L2
open PySem PySem.Spec PyProof.Rows PySem.W
theorem op_mul_str {X : Cx} : OpR X (binaryOp .Mult) (fun x y H Q => ∃ z n, x = .str z ∧ y = .int n ∧ 2 ≤ n ∧ n ≤ 1000 ∧ 1 ≤ z.length ∧ z.length ≤ 1000 ∧ Q (.str ⟨(List.replicate n.toNat z.cps).foldl (· ++ ·) #[]⟩) H) := by
  rintro pins s σ H x y u v Q I rx ry ⟨z, n, rfl, rfl, h1, h2, h3, h4, q⟩
  obtain ⟨t, rfl⟩ := (show ∃ t, u = Value.str z t from rx)
  obtain ⟨t', rfl⟩ := (show ∃ t', v = Value.int n t' from ry)
  have hz : (n == 1 || z.length == 0) = false := by
    rw [Bool.or_eq_false_iff]
    exact ⟨beq_false_of_ne (by omega), beq_false_of_ne (by omega)⟩
  have hm : z.length * n.toNat ≤ 1000 * 1000 := Nat.mul_le_mul h4 (by omega)
  have hlen : ∀ (k : Nat) (acc : Array Nat), ((List.replicate k z.cps).foldl (· ++ ·) acc).size = acc.size + k * z.cps.size := by
    intro k
    induction k with
    | zero => intro acc; simp
    | succ k ih => intro acc; rw [List.replicate_succ, List.foldl_cons, ih, Array.size_append, Nat.succ_mul]; omega
  refine P.mul_str ?_ (fun _ _ => ?_) (fun _ _ => ?_) ?_
  · rw [decide_eq_false (by omega), decide_eq_false (by omega)]; rfl
  · have : (1000 : Int) ≤ (2 ^ 63 - 1) / n := by
      rw [Int.le_ediv_iff_mul_le (by omega)]
      omega
    omega
  · unfold Builtin.Str.tooLong
    simp only [sizeLine_eq, decide_eq_false_iff_not]
    omega
  · rw [if_neg (by omega), if_neg (by rw [hz]; decide)]
    refine ⟨?_, .str _, H, I.tok _, ⟨_, rfl⟩, q⟩
    show ((List.replicate n.toNat z.cps).foldl (· ++ ·) #[]).size ≤ sizeLine
    rw [hlen, sizeLine_eq]
    have : n.toNat * z.cps.size = z.length * n.toNat := Nat.mul_comm _ _
    simp only [Array.size_empty]
    omega
end L2


set_option Elab.async false
set_option linter.all false
set_option maxRecDepth 100000
set_option maxHeartbeats 4000000
namespace My
open PySem PySem.Spec PyProof.Rows L2 GM
theorem lst0 {T : Type} {P : List T → Prop} {us : List T} (h : us.length = 0) (f : P []) : P us := by cases us with | nil => exact f | cons a us => cases h
theorem lst1 {T : Type} {P : List T → Prop} {us : List T} (h : us.length = 1) (f : ∀ a, P [a]) : P us := by cases us with | nil => cases h | cons a us => exact lst0 (P := fun l => P (a :: l)) (Nat.succ.inj h) (f a)
theorem lst2 {T : Type} {P : List T → Prop} {us : List T} (h : us.length = 2) (f : ∀ a b, P [a, b]) : P us := by cases us with | nil => cases h | cons a us => exact lst1 (P := fun l => P (a :: l)) (Nat.succ.inj h) (f a)
theorem lst3 {T : Type} {P : List T → Prop} {us : List T} (h : us.length = 3) (f : ∀ a b c, P [a, b, c]) : P us := by cases us with | nil => cases h | cons a us => exact lst2 (P := fun l => P (a :: l)) (Nat.succ.inj h) (f a)
theorem bnd1 {K : PySem.W.Frag} {x qual : Str} {st : Stmt} {f : Addr} {fd : FuncData} {p0 : Str} (F : Fun K x qual st f fd) (h : ∀ (kV doc pm : Value) (an : Option Addr) (cdv ct : Value) (a : Value), bindArgs (PySem.W.fnOf x qual (defArgs st) (defBody st) (defScope st) .none kV doc pm an cdv ct) ⟨[a], []⟩ = pure ([p0].zip [a])) : Binds K fd [p0] [] :=
  F.binds fun kV doc pm an cdv ct us hl => lst1 (P := fun us => bindArgs (PySem.W.fnOf x qual (defArgs st) (defBody st) (defScope st) .none kV doc pm an cdv ct) ⟨us, []⟩ = pure ([p0].zip us)) hl (h kV doc pm an cdv ct)
theorem bnd2 {K : PySem.W.Frag} {x qual : Str} {st : Stmt} {f : Addr} {fd : FuncData} {p0 p1 : Str} (F : Fun K x qual st f fd) (h : ∀ (kV doc pm : Value) (an : Option Addr) (cdv ct : Value) (a b : Value), bindArgs (PySem.W.fnOf x qual (defArgs st) (defBody st) (defScope st) .none kV doc pm an cdv ct) ⟨[a, b], []⟩ = pure ([p0, p1].zip [a, b])) : Binds K fd [p0, p1] [] :=
  F.binds fun kV doc pm an cdv ct us hl => lst2 (P := fun us => bindArgs (PySem.W.fnOf x qual (defArgs st) (defBody st) (defScope st) .none kV doc pm an cdv ct) ⟨us, []⟩ = pure ([p0, p1].zip us)) hl (h kV doc pm an cdv ct)
theorem bnd3 {K : PySem.W.Frag} {x qual : Str} {st : Stmt} {f : Addr} {fd : FuncData} {p0 p1 p2 : Str} (F : Fun K x qual st f fd) (h : ∀ (kV doc pm : Value) (an : Option Addr) (cdv ct : Value) (a b c : Value), bindArgs (PySem.W.fnOf x qual (defArgs st) (defBody st) (defScope st) .none kV doc pm an cdv ct) ⟨[a, b, c], []⟩ = pure ([p0, p1, p2].zip [a, b, c])) : Binds K fd [p0, p1, p2] [] :=
  F.binds fun kV doc pm an cdv ct us hl => lst3 (P := fun us => bindArgs (PySem.W.fnOf x qual (defArgs st) (defBody st) (defScope st) .none kV doc pm an cdv ct) ⟨us, []⟩ = pure ([p0, p1, p2].zip us)) hl (h kV doc pm an cdv ct)
noncomputable def top (i : Nat) : Stmt := PySem.Challenge.pw_gavelhall_k32_names_refused.main.body.getD i (.Pass ⟨0, 0, 0, 0⟩)
noncomputable abbrev s_P_is_name : Stmt := top 14
noncomputable abbrev s_L_cell : Stmt := top 17
noncomputable abbrev s_L_word : Stmt := top 18
noncomputable abbrev s_L_names : Stmt := top 19
noncomputable abbrev s_L_kinds : Stmt := top 20
noncomputable abbrev s_L_other : Stmt := top 21
noncomputable abbrev s_L_same : Stmt := top 22
noncomputable abbrev s_L_refused : Stmt := top 23
noncomputable abbrev s_L_too_many : Stmt := top 24
noncomputable abbrev s_L_by_base : Stmt := top 25
noncomputable abbrev s_L_odd : Stmt := top 26
noncomputable abbrev s_L_good : Stmt := top 27
noncomputable abbrev s_L_fault : Stmt := top 28
noncomputable abbrev s_L_spoilt : Stmt := top 29
noncomputable abbrev s_L_taken : Stmt := top 30
noncomputable abbrev s_law : Stmt := top 31
noncomputable abbrev s_M_Stock___init__ : Stmt := (clsBody (top 15)).getD 0 (.Pass ⟨0, 0, 0, 0⟩)
noncomputable abbrev s_M_Stock_names : Stmt := (clsBody (top 15)).getD 2 (.Pass ⟨0, 0, 0, 0⟩)
noncomputable abbrev s_M_NoName___init__ : Stmt := (clsBody (top 10)).getD 0 (.Pass ⟨0, 0, 0, 0⟩)
noncomputable abbrev s_M_TooMany___init__ : Stmt := (clsBody (top 12)).getD 0 (.Pass ⟨0, 0, 0, 0⟩)
theorem sc_P_is_name : FnScope ["thing"] ["thing"] (defScope s_P_is_name) := ⟨rfl, rfl, rfl, by decide +kernel, rfl, by decide +kernel, by decide +kernel⟩
theorem sc_L_cell : FnScope ["_law_script", "_law_k"] ["_law_script", "_law_k"] (defScope s_L_cell) := ⟨rfl, rfl, rfl, by decide +kernel, rfl, by decide +kernel, by decide +kernel⟩
theorem sc_L_word : FnScope ["_law_cell_here", "_law_size", "_law_letters", "_law_word_here", "_law_k", "_law_at"] ["_law_cell_here", "_law_size"] (defScope s_L_word) := ⟨rfl, rfl, rfl, by decide +kernel, rfl, by decide +kernel, by decide +kernel⟩
theorem sc_L_names : FnScope ["_law_script", "_law_many", "_law_way", "_law_cell_here", "_law_base", "_law_found", "_law_some", "_law_size", "_law_at", "_law_k", "_law_letter"] ["_law_script", "_law_many"] (defScope s_L_names) := ⟨rfl, rfl, rfl, by decide +kernel, rfl, by decide +kernel, by decide +kernel⟩
theorem sc_L_kinds : FnScope ["_law_script", "_law_names_here", "_law_pool"] ["_law_script", "_law_names_here"] (defScope s_L_kinds) := ⟨rfl, rfl, rfl, by decide +kernel, rfl, by decide +kernel, by decide +kernel⟩
theorem sc_L_other : FnScope ["_law_e"] ["_law_e"] (defScope s_L_other) := ⟨rfl, rfl, rfl, by decide +kernel, rfl, by decide +kernel, by decide +kernel⟩
theorem sc_L_same : FnScope ["_law_one", "_law_other_here"] ["_law_one", "_law_other_here"] (defScope s_L_same) := ⟨rfl, rfl, rfl, by decide +kernel, rfl, by decide +kernel, by decide +kernel⟩
theorem sc_L_refused : FnScope ["_law_rows", "_law_fault_here", "_law_e", "_law_right"] ["_law_rows", "_law_fault_here"] (defScope s_L_refused) := ⟨rfl, rfl, rfl, by decide +kernel, rfl, by decide +kernel, by decide +kernel⟩
theorem sc_L_too_many : FnScope ["_law_rows", "_law_e", "_law_right"] ["_law_rows"] (defScope s_L_too_many) := ⟨rfl, rfl, rfl, by decide +kernel, rfl, by decide +kernel, by decide +kernel⟩
theorem sc_L_by_base : FnScope ["_law_rows"] ["_law_rows"] (defScope s_L_by_base) := ⟨rfl, rfl, rfl, by decide +kernel, rfl, by decide +kernel, by decide +kernel⟩
theorem sc_L_odd : FnScope ["_law_cell_here", "_law_some"] ["_law_cell_here"] (defScope s_L_odd) := ⟨rfl, rfl, rfl, by decide +kernel, rfl, by decide +kernel, by decide +kernel⟩
theorem sc_L_good : FnScope ["_law_thing"] ["_law_thing"] (defScope s_L_good) := ⟨rfl, rfl, rfl, by decide +kernel, rfl, by decide +kernel, by decide +kernel⟩
theorem sc_L_fault : FnScope ["_law_rows", "_law_ahead", "_law_name", "_law_kind"] ["_law_rows"] (defScope s_L_fault) := ⟨rfl, rfl, rfl, by decide +kernel, rfl, by decide +kernel, by decide +kernel⟩
theorem sc_L_spoilt : FnScope ["_law_rows", "_law_at", "_law_cell_here", "_law_found", "_law_name", "_law_kind", "_law_way"] ["_law_rows", "_law_at", "_law_cell_here"] (defScope s_L_spoilt) := ⟨rfl, rfl, rfl, by decide +kernel, rfl, by decide +kernel, by decide +kernel⟩
theorem sc_L_taken : FnScope ["_law_rows", "_law_names_here"] ["_law_rows", "_law_names_here"] (defScope s_L_taken) := ⟨rfl, rfl, rfl, by decide +kernel, rfl, by decide +kernel, by decide +kernel⟩
theorem sc_law : FnScope ["_law_script", "_law_names_here", "_law_good_here", "_law_bad", "_law_fault_here", "_law_handed", "_law_many", "_law_rows"] ["_law_script"] (defScope s_law) := ⟨rfl, rfl, rfl, by decide +kernel, rfl, by decide +kernel, by decide +kernel⟩
theorem sc_M_Stock___init__ : FnScope ["self", "rows", "number", "row", "name", "kind"] ["self", "rows"] (defScope s_M_Stock___init__) := ⟨rfl, rfl, rfl, by decide +kernel, rfl, by decide +kernel, by decide +kernel⟩
theorem sc_M_Stock_names : FnScope ["self"] ["self"] (defScope s_M_Stock_names) := ⟨rfl, rfl, rfl, by decide +kernel, rfl, by decide +kernel, by decide +kernel⟩
theorem sc_M_NoName___init__ : FnScope ["self", "name"] ["self", "name"] (defScope s_M_NoName___init__) := ⟨rfl, rfl, rfl, by decide +kernel, rfl, by decide +kernel, by decide +kernel⟩
theorem sc_M_TooMany___init__ : FnScope ["self", "number"] ["self", "number"] (defScope s_M_TooMany___init__) := ⟨rfl, rfl, rfl, by decide +kernel, rfl, by decide +kernel, by decide +kernel⟩
/-- whole numbers from 0 on, as values -/
noncomputable abbrev nv (n : Nat) : V := .int (n : Int)
/-! ### names -/
noncomputable def nameOk (l : List Nat) : Bool := (decide (1 ≤ l.length) && decide (l.length ≤ 8)) && l.all fun c => decide (97 ≤ c) && decide (c ≤ 122)
noncomputable def asc (l : List Nat) : Bool := l.all (· < 128)
theorem ok_asc {l : List Nat} (h : nameOk l = true) : asc l = true := by
  unfold nameOk at h
  rw [Bool.and_eq_true] at h
  unfold asc
  rw [List.all_eq_true] at *
  intro c hc
  have z := h.2 c hc
  simp only [Bool.and_eq_true, decide_eq_true_eq] at z ⊢
  omega
theorem ok_len {l : List Nat} (h : nameOk l = true) : 1 ≤ l.length ∧ l.length ≤ 8 := by
  unfold nameOk at h
  simp only [Bool.and_eq_true, decide_eq_true_eq] at h
  exact h.1
theorem one_lt (a b : Nat) : decide ([a] < [b]) = decide (a < b) := by
  by_cases h : a < b
  · rw [decide_eq_true h, decide_eq_true]; exact List.Lex.rel h
  · rw [decide_eq_false h, decide_eq_false]
    intro z
    cases z with
    | rel z => exact h z
    | cons z => cases z
theorem snoc_ind {α : Type} {P : List α → Prop} (h0 : P []) (h1 : ∀ l a, P l → P (l ++ [a])) (l : List α) : P l := by
  have z : ∀ m : List α, P m.reverse := fun m => by
    induction m with
    | nil => exact h0
    | cons a m ih => rw [List.reverse_cons]; exact h1 _ _ ih
  have := z l.reverse
  rwa [List.reverse_reverse] at this
noncomputable abbrev sv (l : List Nat) : V := .str (tx l)
noncomputable def skey (l : List Nat) : Key := Sum.inr (tx l)
theorem skey_inj {l m : List Nat} (h : skey l = skey m) : l = m := tx_inj (Sum.inr.inj h)
noncomputable def numsOf (ns : List (List Nat)) : List (Key × V) := ns.zipIdx.map fun q => (skey q.1, .int (q.2 : Nat))
theorem numsOf_len (ns : List (List Nat)) : (numsOf ns).length = ns.length := by simp [numsOf]
theorem numsOf_snoc (ns : List (List Nat)) (n : List Nat) : numsOf (ns ++ [n]) = numsOf ns ++ [(skey n, .int (ns.length : Nat))] := by simp [numsOf, List.zipIdx_append]
theorem valV_snoc {kvs : List (Key × V)} {k j : Key} {v : V} (h : valV kvs k = none) : valV (kvs ++ [(k, v)]) j = if j = k then some v else valV kvs j := by rw [← putK_new v h, valV_put]
theorem nums_none : ∀ (ns : List (List Nat)) (n : List Nat), ns.Nodup → n ∉ ns → valV (numsOf ns) (skey n) = none := by
  refine snoc_ind (fun n _ _ => rfl) fun ns m ih n hd hn => ?_
  · skip
    rw [List.nodup_append] at hd
    have hm : m ∉ ns := fun z => hd.2.2 m z m (by simp) rfl
    rw [numsOf_snoc, valV_snoc (ih m hd.1 hm)]
    have : n ≠ m := fun z => hn (by simp [z])
    rw [if_neg fun z => this (skey_inj z)]
    exact ih n hd.1 fun z => hn (by simp [z])
theorem nums_at : ∀ (ns : List (List Nat)) (n : List Nat) (i : Nat), ns.Nodup → ns[i]? = some n → valV (numsOf ns) (skey n) = some (.int (i : Nat)) := by
  refine snoc_ind (fun n i _ h => by simp at h) fun ns m ih n i hd hn => ?_
  · skip
    rw [List.nodup_append] at hd
    have hm : m ∉ ns := fun z => hd.2.2 m z m (by simp) rfl
    rw [numsOf_snoc, valV_snoc (nums_none ns m hd.1 hm)]
    by_cases hi : i < ns.length
    · rw [List.getElem?_append_left hi] at hn
      have : n ≠ m := fun z => hm (z ▸ List.mem_of_getElem? hn)
      rw [if_neg fun z => this (skey_inj z)]
      exact ih n i hd.1 hn
    · have hi2 : i = ns.length := by
        have := (List.getElem?_eq_some_iff.mp hn).1
        simp at this; omega
      subst hi2
      simp at hn
      subst hn
      rw [if_pos rfl]
/-- the bundle of a kind -/
noncomputable def maskN (ks : List (List Nat)) (k : List Nat) : Nat → Nat
  | 0 => 0
  | i + 1 => if ks[i]? = some k then maskN ks k i ||| 2 ^ i else maskN ks k i
/-- the table of kinds: after i rows -/
noncomputable def KindsAre (kk : List (Key × V)) (ks : List (List Nat)) (i : Nat) : Prop := kk.length ≤ i ∧ ∀ k, valV kk (skey k) = if k ∈ ks.take i then some (nv (maskN ks k i)) else none
theorem kinds0 (ks : List (List Nat)) : KindsAre [] ks 0 := ⟨Nat.le_refl _, fun k => by simp [valV]⟩
theorem mask_out {ks : List (List Nat)} {k : List Nat} : ∀ {i : Nat}, k ∉ ks.take i → maskN ks k i = 0
  | 0, _ => rfl
  | i + 1, h => by
    rw [List.take_add_one] at h
    have h1 : k ∉ ks.take i := fun z => h (by simp [z])
    have h2 : ¬ ks[i]? = some k := fun z => h (by simp [z])
    unfold maskN
    rw [if_neg h2]
    exact mask_out h1
theorem kinds_put {kk : List (Key × V)} {ks : List (List Nat)} {k : List Nat} {i : Nat} (h : KindsAre kk ks i) (hk : ks[i]? = some k) : KindsAre (putK kk (skey k) (nv (maskN ks k i ||| 2 ^ i))) ks (i + 1) := by
  refine ⟨Nat.le_trans (length_putK _ _ _) (by have := h.1; omega), fun j => ?_⟩
  rw [valV_put, List.take_add_one, hk]
  by_cases e : j = k
  · subst e
    rw [if_pos rfl, if_pos (by simp)]
    show _ = some (nv (if ks[i]? = some j then maskN ks j i ||| 2 ^ i else maskN ks j i))
    rw [if_pos hk]
  · rw [if_neg fun z => e (skey_inj z), h.2 j]
    have e2 : (j ∈ ks.take i ++ [k]) ↔ j ∈ ks.take i := by simp [e]
    have e3 : maskN ks j (i + 1) = maskN ks j i := by
      show (if ks[i]? = some j then _ else _) = _
      rw [if_neg]
      rw [hk]; exact fun z => e (Option.some.inj z).symm
    simp only [Option.toList_some, e2, e3]
/-! ### values as names -/
noncomputable def gv : V → Bool
  | .str s => nameOk s.cps.toList
  | _ => false
theorem gv_sv (l : List Nat) : gv (sv l) = nameOk l := by show nameOk (tx l).cps.toList = _; rw [tx_list]
noncomputable def VOk (K : PySem.W.Frag) (H : Hp) (x : V) : Prop := (∃ l, x = sv l ∧ asc l = true ∧ l.length ≤ 1000) ∨ (∃ n, KindIs K H x n ∧ n ≠ .str ∧ SameK H x)
noncomputable def faultOf : List (V × V) → List V → Option V
  | [], _ => none
  | (n, k) :: r, ah => if gv n = false ∨ n ∈ ah then some n else if gv k = false then some k else faultOf r (ah ++ [n])
end My


set_option Elab.async false
set_option linter.all false
set_option maxRecDepth 100000
set_option maxHeartbeats 4000000
namespace My
open PySem PySem.Spec PyProof.Rows L2 GM
noncomputable def sp_P_is_name (K : PySem.W.Frag) : Sp := fun vs H Q _ => ∃ x, vs = [x] ∧ ((∃ l, x = sv l ∧ asc l = true ∧ l.length ≤ 1000 ∧ ∀ H', Same H H' → Q (.bl (nameOk l)) H') ∨ (∃ n, KindIs K H x n ∧ n ≠ .str ∧ Q (.bl false) H))
noncomputable def sp_M_NoName___init__ (_K : PySem.W.Frag) (c : Addr) : Sp := spExc c "name"
/-- rows of names and kinds -/
noncomputable def RowsAre (_K : PySem.W.Frag) (H : Hp) (r : Addr) (ns ks : List (List Nat)) : Prop := ∃ ps : List Addr, H r = some (.lst (ps.map V.ref)) ∧ ps.length = ns.length ∧ ks.length = ns.length ∧ ∀ (i : Nat) (p : Addr), ps[i]? = some p → ∃ n k, ns[i]? = some n ∧ ks[i]? = some k ∧ H p = some (.tup [sv n, sv k])
noncomputable def Good (ns ks : List (List Nat)) : Prop := ns.length ≤ 6 ∧ (∀ n ∈ ns, nameOk n = true) ∧ ns.Nodup ∧ (∀ k ∈ ks, nameOk k = true)
noncomputable def fsStock (d1 d2 : Addr) : List (Str × V) := putF "kinds" (.ref d2) (putF "numbers" (.ref d1) [])
noncomputable def IsStock (c : Addr) (H : Hp) (a : Addr) (ns ks : List (List Nat)) : Prop := ∃ dx d1 d2 kk, H a = some (.ins c dx (fsStock d1 d2)) ∧ H d1 = some (.dK (numsOf ns)) ∧ H d2 = some (.dK kk) ∧ KindsAre kk ks ks.length ∧ ks.length = ns.length ∧ Good ns ks
noncomputable def But (a : Addr) (H H' : Hp) : Prop := ∀ b o, b ≠ a → H b = some o → H' b = some o
noncomputable def sp_M_Stock___init__ (K : PySem.W.Frag) (c : Addr) : Sp := fun vs H Q _ => ∃ (a dx r : Addr) (ns ks : List (List Nat)), vs = [.ref a, .ref r] ∧ H a = some (.ins c dx []) ∧ RowsAre K H r ns ks ∧ Good ns ks ∧ ∀ H', But a H H' → IsStock c H' a ns ks → Q .non H'
noncomputable def sp_M_TooMany___init__ (_K : PySem.W.Frag) (c : Addr) : Sp := spExc c "number"
noncomputable def sp_M_Stock_names (_K : PySem.W.Frag) (c : Addr) : Sp := fun vs H Q _ => ∃ a ns ks, vs = [.ref a] ∧ IsStock c H a ns ks ∧ ∀ l, H l = none → Q (.ref l) (upd H l (.lst (ns.map sv)))
noncomputable def ThrowsB (f : Str) (x : V) (b : Addr) (H : Hp) (E : XK) : Prop := ∀ H' a dx, But b H H' → H' a = none → H' dx = none → dx ≠ a → E (.ref a) (some dx) (upd H' dx (.xd [(f, x)]))
/-- rows of any values -/
noncomputable def RowsV (H : Hp) (r : Addr) (rs : List (V × V)) : Prop := ∃ ps : List Addr, H r = some (.lst (ps.map V.ref)) ∧ ps.length = rs.length ∧ ∀ (i : Nat) (p : Addr), ps[i]? = some p → ∃ n k, rs[i]? = some (n, k) ∧ H p = some (.tup [n, k])
noncomputable def spN_init (K : PySem.W.Frag) (c : Addr) : Sp := fun vs H Q E => ∃ (a dx r : Addr) (rs : List (V × V)) (x : V), vs = [.ref a, .ref r] ∧ H a = some (.ins c dx []) ∧ RowsV H r rs ∧ rs.length ≤ 6 ∧ (∀ y ∈ rs, VOk K H y.1 ∧ VOk K H y.2) ∧ faultOf rs [] = some x ∧ ThrowsB "name" x a H E
noncomputable def spT_init (_K : PySem.W.Frag) (c : Addr) : Sp := fun vs H Q E => ∃ (a dx r : Addr) (rs : List (V × V)), vs = [.ref a, .ref r] ∧ H a = some (.ins c dx []) ∧ RowsV H r rs ∧ 6 < rs.length ∧ ThrowsB "number" (.int (rs.length : Nat)) a H E
section
variable {P : Program} {w : World} {K : PySem.W.Frag} {mg : Str → Option Value} {base : Heap}
variable {c_Stock c_NoName c_TooMany DH : Addr}
theorem len_le {l : List Nat} (h : l.length ≤ 1000) : (tx l).length ≤ sizeLine := by rw [tx_len, sizeLine_eq]; omega
theorem ok_P_is_name {f : Addr} {fd : FuncData} (F : Fun K "is_name" "is_name" s_P_is_name f fd) (m_self : mg "is_name" = some (.ref f)) (m_all : mg "all" = none) (m_isinstance : mg "isinstance" = none) (m_str : mg "str" = none) (m_len : mg "len" = none) : DefOk P w K mg base 1 "is_name" ["thing"] [] (sp_P_is_name K) := by
  refine F.def_okQ m_self (bnd1 F fun _ _ _ _ _ _ _ => rfl) sc_P_is_name (fun vs H Q E h => ?_) (fun cdv A outer s H vs Q E hr h => ?_)
  · obtain ⟨x, rfl, _⟩ := h; rfl
  obtain ⟨x, rfl, h⟩ := h
  refine ⟨_, (R.pss_cons (R.ps_if (R.pt (R.pw_or (R.pt_not (R.pt_val (R.pe_isi .str rfl m_isinstance rfl m_str (R.pv 0)))) (R.pw_or1 (R.pt_not (R.pt_chain op_le op_le R.pe_int (R.pe_cB call_len_str rfl m_len PySem.boot_len (R.pa_c (R.pv 0) R.pa_nil)) R.pe_int))))) (R.pss_one (R.ps_ret R.pe_bl)) R.pss_nil)
    (R.pss_one (R.ps_ret (R.pe_cB (call_allL rfl) rfl m_all (boot_all) (R.pa_c (R.pe_comp (defScope s_P_is_name) ["thing"] ["sign"] [] [] rfl rfl rfl ⟨s.heap.objs.size + 1, rfl⟩ rfl rfl (by decide +kernel) (R.pi_str (R.pv 0)) (fun C s2 H2 fp => (R.pg_name (i := 0) (show List.Nodup (["sign"] : List Str) from by decide +kernel) rfl (Or.inl rfl))) (fun C s2 H2 fp => R.pf_nil) (fun C s2 H2 fp => (R.pe_chain op_le_str op_le_str R.pe_str (R.pv 0) R.pe_str))) R.pa_nil))))), ?_⟩
  rcases h with ⟨l, rfl, hA, hz, q⟩ | ⟨n, hk, hn, q⟩
  · have e0 : ((tx l).length : Int) = (l.length : Int) := by rw [tx_len]
    refine ⟨_, rfl, sv l, .str, rfl, .str _, _, rfl, iteF ⟨_, rfl, tx l, rfl, len_le hz, 1, _, rfl, rfl, _, rfl, ite2 (fun c => ?_) (fun c => ?_)⟩⟩
    · have c1 : (1 : Int) ≤ ((tx l).length : Int) := of_decide_eq_true c
      refine ⟨_, _, rfl, rfl, _, rfl, ite2 (fun c2 => ?_) (fun c2 => ?_)⟩
      · have c3 : ¬ ((tx l).length : Int) ≤ 8 := by simpa using c2
        have z := q H (Same.refl _)
        have e : nameOk l = false := by unfold nameOk; rw [decide_eq_false (show ¬ l.length ≤ 8 by omega), Bool.and_false, Bool.false_and]
        rw [e] at z; exact z
      · have c3 : ((tx l).length : Int) ≤ 8 := by simpa using c2
        refine ⟨_, rfl, l, rfl, hA, fun p hp => ?_⟩
        refine comp_str_map l (fun _ => true) (fun c => .bl (decide (97 ≤ c) && decide (c ≤ 122))) (by omega) hp (fun x hx H2 s2 C k => k H2 (Same.refl _)) (fun x hx _ H2 s2 C k => ?_) (fun H2 s2 e2 => ?_)
        · have ea : (Str.ofString "a").cps.toList = [97] := by decide
          have ez : (Str.ofString "z").cps.toList = [122] := by decide
          refine ⟨_, rfl, _, _, rfl, rfl, _, rfl, ?_⟩
          rw [tx_list, ea, one_lt]
          by_cases h1 : x < 97
          · rw [decide_eq_true h1]
            refine iteF ?_
            have z := k H2 (Same.refl _)
            rw [decide_eq_false (show ¬ 97 ≤ x by omega), Bool.false_and] at z
            exact z
          · rw [decide_eq_false h1]
            refine iteT ⟨_, _, rfl, rfl, ?_⟩
            have z := k H2 (Same.refl _)
            rw [decide_eq_true (show 97 ≤ x by omega), Bool.true_and] at z
            rw [tx_list, ez, one_lt]
            have e3 : (!decide (122 < x)) = decide (x ≤ 122) := by
              by_cases h2 : x ≤ 122
              · rw [decide_eq_true h2, decide_eq_false (by omega)]; rfl
              · rw [decide_eq_false h2, decide_eq_true (by omega)]; rfl
            rw [e3]
            exact z
        · have e3 : H2 p = some (.lst ((l.map fun c => decide (97 ≤ c) && decide (c ≤ 122)).map V.bl)) := by
            rw [e2, List.filter_eq_self.mpr (fun _ _ => rfl), List.map_map]; rfl
          refine ⟨p, _, rfl, SqL.of e3, ?_⟩
          have z := q H2 s2
          unfold nameOk at z
          rw [decide_eq_true (show 1 ≤ l.length by omega), decide_eq_true (show l.length ≤ 8 by omega), Bool.true_and, Bool.true_and] at z
          rw [List.all_map]
          exact z
    · have c1 : ¬ (1 : Int) ≤ ((tx l).length : Int) := by simpa using c
      refine ⟨_, rfl, iteT ?_⟩
      have z := q H (Same.refl _)
      have e : nameOk l = false := by unfold nameOk; rw [decide_eq_false (show ¬ 1 ≤ l.length by omega), Bool.false_and, Bool.false_and]
      rw [e] at z; exact z
  · have e : isN n .str = false := by cases n <;> first | rfl | exact absurd rfl hn
    refine ⟨_, rfl, x, n, rfl, hk, _, rfl, ?_⟩
    rw [e]
    exact iteT q
theorem ok_M_NoName___init__ {f : Addr} {fd : FuncData} (F : Fun K "__init__" "NoName.__init__" s_M_NoName___init__ f fd)
    (O_Stock : Own K mg "Stock" c_Stock ["numbers", "kinds"]) (ZI : InitB K DH) (OI : OwnI c_NoName veM "ValueError.__new__" base) (C_HallError : mg "HallError" = some (.ref DH)) (ZS : SetB K c_NoName "name") : FnOk P w K mg base CX0 1 f fd ["self", "name"] (sp_M_NoName___init__ K c_NoName) := by
  refine F.okQ sc_M_NoName___init__ (fun vs H Q E h => ?_) (fun cdv A outer s H vs Q E hr h => ?_)
  · obtain ⟨a, v, rfl, _⟩ := h; rfl
  obtain ⟨a, v, rfl, ha, q⟩ := h
  refine ⟨_, (R.pss_cons (R.ps_expr (R.pe_baseI ZI OI rfl C_HallError (R.pa_c (R.pv 0) (R.pa_c R.pe_str R.pa_nil))))
    (R.pss_one (R.ps_fldE ZS (R.pv 0) (R.pv 1)))), ?_⟩
  exact ⟨_, rfl, a, _, rfl, ha, _, rfl, _, rfl, a, rfl, ha, q⟩
theorem ok_M_TooMany___init__ {f : Addr} {fd : FuncData} (F : Fun K "__init__" "TooMany.__init__" s_M_TooMany___init__ f fd)
    (O_Stock : Own K mg "Stock" c_Stock ["numbers", "kinds"]) (ZI : InitB K DH) (OI : OwnI c_TooMany veM "ValueError.__new__" base) (C_HallError : mg "HallError" = some (.ref DH)) (ZS : SetB K c_TooMany "number") : FnOk P w K mg base CX0 1 f fd ["self", "number"] (sp_M_TooMany___init__ K c_TooMany) := by
  refine F.okQ sc_M_TooMany___init__ (fun vs H Q E h => ?_) (fun cdv A outer s H vs Q E hr h => ?_)
  · obtain ⟨a, v, rfl, _⟩ := h; rfl
  obtain ⟨a, v, rfl, ha, q⟩ := h
  refine ⟨_, (R.pss_cons (R.ps_expr (R.pe_baseI ZI OI rfl C_HallError (R.pa_c (R.pv 0) (R.pa_c R.pe_str R.pa_nil))))
    (R.pss_one (R.ps_fldE ZS (R.pv 0) (R.pv 1)))), ?_⟩
  exact ⟨_, rfl, a, _, rfl, ha, _, rfl, _, rfl, a, rfl, ha, q⟩
theorem fs_numbers (d1 d2 : Addr) : (fsStock d1 d2).lookup ("numbers" : Str) = some (V.ref d1) := by
  unfold fsStock
  rw [lookup_putF, if_neg (by decide), lookup_putF, if_pos rfl]
theorem fs_kinds (d1 d2 : Addr) : (fsStock d1 d2).lookup ("kinds" : Str) = some (V.ref d2) := by
  unfold fsStock
  rw [lookup_putF, if_pos rfl]
theorem ok_M_Stock_names {f : Addr} {fd : FuncData} (F : Fun K "names" "Stock.names" s_M_Stock_names f fd) (m_list : mg "list" = none)
    (O_Stock : Own K mg "Stock" c_Stock ["numbers", "kinds"]) : FnOk P w K mg base CX0 1 f fd ["self"] (sp_M_Stock_names K c_Stock) := by
  refine F.okQ sc_M_Stock_names (fun vs H Q E h => ?_) (fun cdv A outer s H vs Q E hr h => ?_)
  · obtain ⟨a, ns, ks, rfl, _⟩ := h; rfl
  obtain ⟨a, ns, ks, rfl, ⟨dx, d1, d2, kk, h1, h2, h3, hk, hl, hg⟩, q⟩ := h
  refine ⟨_, (R.pss_one (R.ps_ret (R.pe_cTy (call_list_dk rfl) rfl m_list (boot_list) (R.pa_c (R.pe_fld K (R.pv 0)) R.pa_nil)))), ?_⟩
  refine ⟨_, rfl, a, c_Stock, dx, _, .ref d1, rfl, h1, O_Stock.cls, O_Stock.no _ (by simp), fs_numbers d1 d2, ⟨d1, _, rfl, h2, fun l hl => ?_⟩⟩
  have e : ((numsOf ns).map fun q => kV q.1) = ns.map sv := by
    unfold numsOf
    rw [List.map_map]
    have e2 : ((fun q : Key × V => kV q.1) ∘ fun q : List Nat × Nat => (skey q.1, V.int (q.2 : Nat))) = sv ∘ Prod.fst := rfl
    rw [e2, ← List.map_map, List.zipIdx_map_fst]
  rw [e]; exact q l hl
theorem But.same {a : Addr} {H H' H2 : Hp} (h : But a H H') (S : Same H' H2) : But a H H2 := fun b o n e => S _ _ (h b o n e)
theorem But.put {a b : Addr} {o : HO} {H H' : Hp} (h : But a H H') (n : H b = none) : But a H (upd H' b o) := fun c u e1 e2 => by
  rw [upd_ne (ne_of_none e2 n)]; exact h c u e1 e2
theorem But.self {a : Addr} {o : HO} {H H' : Hp} (h : But a H H') : But a H (upd H' a o) := fun c u e1 e2 => by rw [upd_ne e1]; exact h c u e1 e2
theorem put1 (f : Str) (y : V) : (putF f y []).length < 1000 := by
  have h := length_putF f y []
  rw [List.length_nil] at h; omega
theorem small_dict {n : Nat} (h : n ≤ 6) : n < sizeLine := by rw [sizeLine_eq]; omega
/-- where the loop over the rows stands -/
noncomputable def RowP (H : Hp) (c a r dx d1 d2 : Addr) (ns ks : List (List Nat)) (i : Nat) (σ : L2.St) (Hc : Hp) : Prop :=
  (∃ x y z u, σ = [some (.ref a), some (.ref r), x, y, z, u]) ∧ But a H Hc ∧ Hc a = some (.ins c dx (fsStock d1 d2)) ∧ Hc d1 = some (.dK (numsOf (ns.take i))) ∧ ∃ kk, Hc d2 = some (.dK kk) ∧ KindsAre kk ks i
theorem RowP.same {H : Hp} {c a r dx d1 d2 : Addr} {ns ks : List (List Nat)} {i : Nat} {σ : L2.St} {Hc Hd : Hp} (S : Same Hc Hd) (h : RowP H c a r dx d1 d2 ns ks i σ Hc) : RowP H c a r dx d1 d2 ns ks i σ Hd := by
  obtain ⟨h0, h1, h2, h3, kk, h4, h5⟩ := h
  exact ⟨h0, h1.same S, S _ _ h2, S _ _ h3, kk, S _ _ h4, h5⟩
theorem ok_M_Stock___init__ {f : Addr} {fd : FuncData} (F : Fun K "__init__" "Stock.__init__" s_M_Stock___init__ f fd) (m_enumerate : mg "enumerate" = none) (m_len : mg "len" = none)
    (D_P_is_name : DefOk P w K mg base 1 "is_name" ["thing"] [] (sp_P_is_name K))
    (O_Stock : Own K mg "Stock" c_Stock ["numbers", "kinds"]) : FnOk P w K mg base CX0 4 f fd ["self", "rows"] (sp_M_Stock___init__ K c_Stock) := by
  refine F.okQ sc_M_Stock___init__ (fun vs H Q E h => ?_) (fun cdv A outer s H vs Q E hr h => ?_)
  · obtain ⟨a, dx, r, ns, ks, rfl, _⟩ := h; rfl
  obtain ⟨a, dx, r, ns, ks, rfl, ha, RW, G, q⟩ := h
  refine ⟨_, (R.pss_cons (R.ps_if (R.pt_cmpR op_gt (R.pe_cB call_len_seq rfl m_len PySem.boot_len (R.pa_c (R.pv 1) R.pa_nil)) R.pe_int (nomark _)) (R.pss_one R.ps_never) R.pss_nil)
    (R.pss_cons (R.ps_fld (R.pv 0) R.pe_dnewK)
    (R.pss_cons (R.ps_fld (R.pv 0) R.pe_dnewK)
    (R.pss_one (R.ps_for PassesOwn.never rfl (R.pi_enum rfl m_enumerate (R.pa_c (R.pv 1) R.pa_nil)) (R.pg_tup K 2 rfl (R.pgs_cons (R.pg_name (i := 2) sc_M_Stock___init__.nd rfl (Or.inl rfl)) (R.pgs_cons (R.pg_name (i := 3) sc_M_Stock___init__.nd rfl (Or.inl rfl)) R.pgs_nil))) (R.pss_cons (R.ps_set (i := 4) sc_M_Stock___init__.nd rfl (Or.inl rfl) (R.pe_ix (R.ixT K) (R.pv 3) R.pe_int (fun _ _ => rfl)))
      (R.pss_cons (R.ps_set (i := 5) sc_M_Stock___init__.nd rfl (Or.inl rfl) (R.pe_ix (R.ixT K) (R.pv 3) R.pe_int (fun _ _ => rfl)))
      (R.pss_cons (R.ps_if (R.pt (R.pw_or (R.pt_not (R.pt_val (R.pe_callD D_P_is_name hr (by decide) rfl (R.pa_c (R.pv 4) R.pa_nil)))) (R.pw_or1 (R.pt_cmpR (op_din hr.units) (R.pv 4) (R.pe_fld K (R.pv 0)) (by with_unfolding_all rfl))))) (R.pss_one R.ps_never) R.pss_nil)
      (R.pss_cons (R.ps_if (R.pt_not (R.pt_val (R.pe_callD D_P_is_name hr (by decide) rfl (R.pa_c (R.pv 5) R.pa_nil)))) (R.pss_one R.ps_never) R.pss_nil)
      (R.pss_cons (R.ps_dput hr.units (R.pe_fld K (R.pv 0)) (R.pv 4) (R.pv 2))
      (R.pss_one (R.ps_dput hr.units (R.pe_fld K (R.pv 0)) (R.pv 5) (R.pe_op op_orN (R.pe_dget2 hr.units (R.pe_fld K (R.pv 0)) (R.pv 5) R.pe_int) (R.pe_op op_shlN R.pe_int (R.pv 2))))))))))))))), ?_⟩
  obtain ⟨ps, hS, hl1, hl2, hrow⟩ := id RW
  refine ⟨_, rfl, r, _, rfl, .inl (SqL.of hS), _, _, rfl, rfl, _, rfl, ite2 (fun c => ?_) (fun _ => ?_)⟩
  · have c2 : (6 : Int) < (((ps.map V.ref).length : Nat) : Int) := of_decide_eq_true c
    rw [List.length_map, hl1] at c2
    have := G.1
    omega
  refine fun d1 hd1 => ⟨_, rfl, a, c_Stock, dx, [], rfl, same_new hd1 _ _ _ ha, O_Stock.cls, O_Stock.no _ (by simp), by decide, fun d2 hd2 => ⟨_, rfl, a, c_Stock, dx, _, rfl, ?_, O_Stock.cls, O_Stock.no _ (by simp), put1 "numbers" (.ref d1), ?_⟩⟩
  · rw [upd_ne (ne_of_none upd_same hd2)]; exact upd_same
  have n1 : d1 ≠ a := fun z => by subst z; rw [ha] at hd1; cases hd1
  have n2 : d2 ≠ a := fun z => by subst z; rw [upd_same] at hd2; cases hd2
  have n12 : d2 ≠ d1 := fun z => by subst z; rw [upd_ne n1, upd_same] at hd2; cases hd2
  have e2 : H d2 = none := by rw [upd_ne n2, upd_ne n12] at hd2; exact hd2
  have base : RowP H c_Stock a r dx d1 d2 ns ks 0 [some (.ref a), some (.ref r), none, none, none, none] (upd (upd (upd (upd H d1 (.dK [])) a (.ins c_Stock dx (putF "numbers" (.ref d1) []))) d2 (.dK [])) a (.ins c_Stock dx (putF "kinds" (.ref d2) (putF "numbers" (.ref d1) [])))) := by
    refine ⟨⟨_, _, _, _, rfl⟩, ?_, upd_same, ?_, [], ?_, kinds0 ks⟩
    · refine But.self (But.put (But.self (But.put (fun b o _ e => e) hd1)) e2)
    · rw [upd_ne n1, upd_ne (Ne.symm n12), upd_ne n1, upd_same]; rfl
    · rw [upd_ne n2, upd_same]
  have hr0 : upd (upd (upd (upd H d1 (.dK [])) a (.ins c_Stock dx (putF "numbers" (.ref d1) []))) d2 (.dK [])) a (.ins c_Stock dx (putF "kinds" (.ref d2) (putF "numbers" (.ref d1) []))) r = some (.lst (ps.map V.ref)) := base.2.1 _ _ (fun z => by subst z; rw [ha] at hS; cases hS) hS
  refine ⟨_, rfl, r, rfl, ⟨_, SqL.of hr0⟩, for_enum (xs := ps.map V.ref) (RowP H c_Stock a r dx d1 d2 ns ks) base (fun i σ Hc _ h => SqL.of (h.2.1 _ _ (fun z => by subst z; rw [ha] at hS; cases hS) hS)) (fun i x p σ Hc hx hP hp => ?_) (fun σ Hc h => ?_)⟩
  · rw [List.getElem?_map] at hx
    obtain ⟨qd, hqd, rfl⟩ := Option.map_eq_some_iff.mp hx
    obtain ⟨n, k, hn, hk, hrw⟩ := hrow i qd hqd
    have hi : i < ns.length := (List.getElem?_eq_some_iff.mp hn).1
    have hno : nameOk n = true := G.2.1 n (List.mem_of_getElem? hn)
    have hko : nameOk k = true := G.2.2.2 k (List.mem_of_getElem? hk)
    have hout : n ∉ ns.take i := fun z => by
      obtain ⟨j, hj, e⟩ := List.getElem_of_mem z
      have hj2 : j < i := by rw [List.length_take] at hj; omega
      rw [List.getElem_take] at e
      have := (List.getElem?_eq_some_iff.mp hn).2
      exact absurd ((List.getElem_inj G.2.2.1).mp (e.trans this.symm)) (by omega)
    have hv : valV (numsOf (ns.take i)) (skey n) = none := nums_none _ n (G.2.2.1.sublist (List.take_sublist _ _)) hout
    have nq : qd ≠ a := fun z => by subst z; rw [ha] at hrw; cases hrw
    have hP' := hP.same (same_new hp (.tup [.int (i : Nat), .ref qd]))
    obtain ⟨⟨x, y, z, u, rfl⟩, hB, h1, h2, kk, h3, h4⟩ := hP'
    have hpp : upd Hc p (.tup [.int (i : Nat), .ref qd]) p = some (.tup [.int (i : Nat), .ref qd]) := upd_same
    generalize upd Hc p (.tup [.int (i : Nat), .ref qd]) = Hd at hB h1 h2 h3 hpp ⊢
    have hq : Hd qd = some (.tup [sv n, sv k]) := hB _ _ nq hrw
    refine ⟨p, _, rfl, SqT.of hpp, rfl, _, _, rfl, _, _, rfl, rfl, ?_⟩
    refine ⟨_, rfl, qd, [sv n, sv k], 0, sv n, rfl, rfl, SqT.of hq, rfl, ?_⟩
    refine ⟨_, rfl, qd, [sv n, sv k], 1, sv k, rfl, rfl, SqT.of hq, rfl, ?_⟩
    refine ⟨_, rfl, _, rfl, .inl ⟨n, rfl, ok_asc hno, by have := (ok_len hno).2; omega, fun H1 s1 => ?_⟩⟩
    rw [hno]
    refine ⟨_, rfl, iteF ⟨_, rfl, _, rfl, a, c_Stock, dx, _, .ref d1, rfl, s1 _ _ h1, O_Stock.cls, O_Stock.no _ (by simp), fs_numbers d1 d2, d1, _, rfl, DGet.k (k := skey n) (s1 _ _ h2), ?_⟩⟩
    rw [hv]
    refine ⟨_, rfl, iteF ?_⟩
    refine ⟨_, rfl, _, rfl, .inl ⟨k, rfl, ok_asc hko, by have := (ok_len hko).2; omega, fun H2 s2 => ?_⟩⟩
    rw [hko]
    refine ⟨_, rfl, iteF ?_⟩
    have s12 := s1.trans s2
    have g1 := s12 _ _ h1
    have g2 := s12 _ _ h2
    have g3 := s12 _ _ h3
    have gB := hB.same s12
    refine ⟨_, rfl, _, rfl, a, c_Stock, dx, _, .ref d1, rfl, g1, O_Stock.cls, O_Stock.no _ (by simp), fs_numbers d1 d2, _, rfl, d1, _, rfl, DPut.k (k := skey n) g2 (by rw [numsOf_len, List.length_take]; exact small_dict (by have := G.1; omega)), ?_⟩
    rw [putK_new _ hv]
    have e1 : numsOf (ns.take i) ++ [(skey n, V.int (i : Nat))] = numsOf (ns.take (i + 1)) := by
      rw [List.take_add_one, hn]
      show _ = numsOf (ns.take i ++ [n])
      rw [numsOf_snoc, List.length_take, Nat.min_eq_left (Nat.le_of_lt hi)]
    rw [e1]
    have k1 : upd H2 d1 (.dK (numsOf (ns.take (i + 1)))) a = some (.ins c_Stock dx (fsStock d1 d2)) := by rw [upd_ne (Ne.symm n1)]; exact g1
    have k3 : upd H2 d1 (.dK (numsOf (ns.take (i + 1)))) d2 = some (.dK kk) := by rw [upd_ne n12]; exact g3
    refine ⟨_, rfl, a, c_Stock, dx, _, .ref d2, rfl, k1, O_Stock.cls, O_Stock.no _ (by simp), fs_kinds d1 d2, d2, rfl, .inl ⟨_, .inl k3⟩, _, rfl, _, DGet.k (k := skey k) k3, ?_⟩
    have eo : ((valV kk (skey k)).getD (.int 0)) = nv (maskN ks k i) := by
      rw [h4.2 k]
      by_cases hm : k ∈ ks.take i
      · rw [if_pos hm]; rfl
      · rw [if_neg hm, mask_out hm]; rfl
    rw [eo]
    refine ⟨_, rfl, i, rfl, rfl, by have := G.1; omega, _, _, rfl, rfl, ?_⟩
    refine ⟨_, rfl, a, c_Stock, dx, _, .ref d2, rfl, k1, O_Stock.cls, O_Stock.no _ (by simp), fs_kinds d1 d2, _, rfl, d2, _, rfl, DPut.k (k := skey k) k3 (small_dict (by have := h4.1; have := G.1; omega)), ?_⟩
    refine ⟨⟨_, _, _, _, rfl⟩, (gB.put hd1).put e2, ?_, ?_, _, upd_same, kinds_put h4 hk⟩
    · rw [upd_ne (Ne.symm n2)]; exact k1
    · rw [upd_ne (Ne.symm n12), upd_same]
  · obtain ⟨_, hB, h1, h2, kk, h3, h4⟩ := h
    rw [List.length_map, hl1] at h2 h4
    refine q Hc hB ⟨dx, d1, d2, kk, h1, ?_, h3, by rw [hl2]; exact h4, hl2, G⟩
    rw [List.take_length] at h2; exact h2
theorem okT_M_Stock___init__ {f : Addr} {fd : FuncData} (F : Fun K "__init__" "Stock.__init__" s_M_Stock___init__ f fd) (m_enumerate : mg "enumerate" = none) (m_len : mg "len" = none)
    (D_P_is_name : DefOk P w K mg base 1 "is_name" ["thing"] [] (sp_P_is_name K))
    (O_Stock : Own K mg "Stock" c_Stock ["numbers", "kinds"]) (EX_TooMany : ExcF P w K mg base 1 "TooMany" c_TooMany "number") : FnOk P w K mg base (CXD P w c_TooMany) 4 f fd ["self", "rows"] (spT_init K c_Stock) := by
  refine F.ok_D sc_M_Stock___init__ (fun vs H Q E h => ?_) (fun cdv A outer s H vs Q E hr h => ?_)
  · obtain ⟨a, dx, r, rs, rfl, _⟩ := h; rfl
  obtain ⟨a, dx, r, rs, rfl, ha, ⟨ps, hS, hl1, hrow⟩, hm, q⟩ := h
  refine ⟨_, (R.pss_cons (R.ps_if (R.pt_cmpR op_gt (R.pe_cB call_len_seq rfl m_len PySem.boot_len (R.pa_c (R.pv 1) R.pa_nil)) R.pe_int (nomark _)) (R.pss_one (R.ps_raiseD (E := E) EX_TooMany hr (by decide) rfl rfl (R.pa_c (R.pe_cB call_len_seq rfl m_len PySem.boot_len (R.pa_c (R.pv 1) R.pa_nil)) R.pa_nil) rfl rfl rfl (fun _ _ z => z))) R.pss_nil)
    (R.pss_cons (R.ps_fld (R.pv 0) R.pe_dnewK)
    (R.pss_cons (R.ps_fld (R.pv 0) R.pe_dnewK)
    (R.pss_one (R.ps_for passes_forD rfl (R.pi_enum rfl m_enumerate (R.pa_c (R.pv 1) R.pa_nil)) (R.pg_tup K 2 rfl (R.pgs_cons (R.pg_name (i := 2) sc_M_Stock___init__.nd rfl (Or.inl rfl)) (R.pgs_cons (R.pg_name (i := 3) sc_M_Stock___init__.nd rfl (Or.inl rfl)) R.pgs_nil))) (R.pss_cons (R.ps_set (i := 4) sc_M_Stock___init__.nd rfl (Or.inl rfl) (R.pe_ix (R.ixT K) (R.pv 3) R.pe_int (fun _ _ => rfl)))
      (R.pss_cons (R.ps_set (i := 5) sc_M_Stock___init__.nd rfl (Or.inl rfl) (R.pe_ix (R.ixT K) (R.pv 3) R.pe_int (fun _ _ => rfl)))
      (R.pss_cons (R.ps_if (R.pt (R.pw_or (R.pt_not (R.pt_val (R.pe_callD D_P_is_name hr (by decide) rfl (R.pa_c (R.pv 4) R.pa_nil)))) (R.pw_or1 (R.pt_cmpR (op_din hr.units) (R.pv 4) (R.pe_fld K (R.pv 0)) (by with_unfolding_all rfl))))) (R.pss_one R.ps_never) R.pss_nil)
      (R.pss_cons (R.ps_if (R.pt_not (R.pt_val (R.pe_callD D_P_is_name hr (by decide) rfl (R.pa_c (R.pv 5) R.pa_nil)))) (R.pss_one R.ps_never) R.pss_nil)
      (R.pss_cons (R.ps_dput hr.units (R.pe_fld K (R.pv 0)) (R.pv 4) (R.pv 2))
      (R.pss_one (R.ps_dput hr.units (R.pe_fld K (R.pv 0)) (R.pv 5) (R.pe_op op_orN (R.pe_dget2 hr.units (R.pe_fld K (R.pv 0)) (R.pv 5) R.pe_int) (R.pe_op op_shlN R.pe_int (R.pv 2))))))))))))))), ?_⟩
  refine ⟨_, rfl, r, _, rfl, .inl (SqL.of hS), _, _, rfl, rfl, _, rfl, ite2 (fun _ => ?_) (fun c => ?_)⟩
  · refine ⟨_, rfl, r, _, rfl, .inl (SqL.of hS), _, rfl, fun e d n1 n2 n3 => ?_⟩
    have z := q H e d (fun b o _ h => h) n1 n2 n3
    have el : (((ps.map V.ref).length : Nat) : Int) = ((rs.length : Nat) : Int) := by rw [List.length_map, hl1]
    rw [el]
    exact z
  · have c2 : ¬ (6 : Int) < (((ps.map V.ref).length : Nat) : Int) := by simpa using c
    rw [List.length_map, hl1] at c2
    omega
theorem kind_str {K : PySem.W.Frag} {H : Hp} {x : V} {n : Nm} (h : KindIs K H x n) (hn : n ≠ .str) : gv x = false := by
  cases x with
  | str s =>
    have h : TyOf K H (.str s) (.type (Nm.s n)) := h
    generalize hu : Value.type (Nm.s n) = u at h
    cases h
    have : Nm.s n = "str" := Value.type.inj hu
    cases n <;> first | exact absurd rfl hn | (exact absurd this (by decide))
  | _ => rfl
theorem kind_but {K : PySem.W.Frag} {H H' : Hp} {a c dx : Addr} {fs : List (Str × V)} {v : V} {n : Nm} (ha : H a = some (.ins c dx fs)) (B : But a H H') (h : KindIs K H v n) : KindIs K H' v n := by
  unfold KindIs at *
  have ne : ∀ b o, H b = some o → (∀ c d f, o ≠ .ins c d f) → b ≠ a := fun b o e hn z => by subst z; rw [ha] at e; cases e; exact hn _ _ _ rfl
  generalize hu : Value.type (Nm.s n) = u at h ⊢
  cases h with
  | non => exact .non
  | bl x => exact .bl x
  | int i => exact .int i
  | str x => exact .str x
  | flt x => exact .flt x
  | lst e => exact .lst (B _ _ (ne _ _ e fun _ _ _ z => nomatch z) e)
  | frz e => exact .frz (B _ _ (ne _ _ e fun _ _ _ z => nomatch z) e)
  | tup e => exact .tup (B _ _ (ne _ _ e fun _ _ _ z => nomatch z) e)
  | dK e => exact .dK (B _ _ (ne _ _ e fun _ _ _ z => nomatch z) e)
  | dT e => exact .dT (B _ _ (ne _ _ e fun _ _ _ z => nomatch z) e)
  | ins => cases hu
noncomputable def NatV (kk : List (Key × V)) : Prop := ∀ k v, valV kk k = some v → ∃ m : Nat, v = nv m
theorem NatV.put {kk : List (Key × V)} (h : NatV kk) (k : Key) (m : Nat) : NatV (putK kk k (nv m)) := fun j v e => by
  rw [valV_put] at e
  split at e
  · cases e; exact ⟨m, rfl⟩
  · exact h j v e
/-- where the loop over the rows stands, ahead of the first fault -/
noncomputable def RowN (H : Hp) (c a r dx d1 d2 : Addr) (rs : List (V × V)) (x : V) (i : Nat) (σ : L2.St) (Hc : Hp) : Prop :=
  (∃ x y z u, σ = [some (.ref a), some (.ref r), x, y, z, u]) ∧ But a H Hc ∧ Hc a = some (.ins c dx (fsStock d1 d2)) ∧ ∃ (nl : List (List Nat)) (kk : List (Key × V)), nl.length = i ∧ nl.Nodup ∧ Hc d1 = some (.dK (numsOf nl)) ∧ Hc d2 = some (.dK kk) ∧ NatV kk ∧ kk.length ≤ i ∧ faultOf (rs.drop i) (nl.map sv) = some x
theorem RowN.same {H : Hp} {c a r dx d1 d2 : Addr} {rs : List (V × V)} {x : V} {i : Nat} {σ : L2.St} {Hc Hd : Hp} (S : Same Hc Hd) (h : RowN H c a r dx d1 d2 rs x i σ Hc) : RowN H c a r dx d1 d2 rs x i σ Hd := by
  obtain ⟨h0, h1, h2, nl, kk, h3, h4, h5, h6, h7⟩ := h
  exact ⟨h0, h1.same S, S _ _ h2, nl, kk, h3, h4, S _ _ h5, S _ _ h6, h7⟩
theorem okN_M_Stock___init__ {f : Addr} {fd : FuncData} (F : Fun K "__init__" "Stock.__init__" s_M_Stock___init__ f fd) (m_enumerate : mg "enumerate" = none) (m_len : mg "len" = none)
    (D_P_is_name : DefOk P w K mg base 1 "is_name" ["thing"] [] (sp_P_is_name K))
    (O_Stock : Own K mg "Stock" c_Stock ["numbers", "kinds"]) (EX_NoName : ExcF P w K mg base 1 "NoName" c_NoName "name") : FnOk P w K mg base (CXD P w c_NoName) 4 f fd ["self", "rows"] (spN_init K c_Stock) := by
  refine F.ok_D sc_M_Stock___init__ (fun vs H Q E h => ?_) (fun cdv A outer s H vs Q E hr h => ?_)
  · obtain ⟨a, dx, r, rs, x, rfl, _⟩ := h; rfl
  obtain ⟨a, dx, r, rs, x, rfl, ha, ⟨ps, hS, hl1, hrow⟩, hm, hv, hx, q⟩ := h
  refine ⟨_, (R.pss_cons (R.ps_if (R.pt_cmpR op_gt (R.pe_cB call_len_seq rfl m_len PySem.boot_len (R.pa_c (R.pv 1) R.pa_nil)) R.pe_int (nomark _)) (R.pss_one R.ps_never) R.pss_nil)
    (R.pss_cons (R.ps_fld (R.pv 0) R.pe_dnewK)
    (R.pss_cons (R.ps_fld (R.pv 0) R.pe_dnewK)
    (R.pss_one (R.ps_for passes_forD rfl (R.pi_enum rfl m_enumerate (R.pa_c (R.pv 1) R.pa_nil)) (R.pg_tup K 2 rfl (R.pgs_cons (R.pg_name (i := 2) sc_M_Stock___init__.nd rfl (Or.inl rfl)) (R.pgs_cons (R.pg_name (i := 3) sc_M_Stock___init__.nd rfl (Or.inl rfl)) R.pgs_nil))) (R.pss_cons (R.ps_set (i := 4) sc_M_Stock___init__.nd rfl (Or.inl rfl) (R.pe_ix (R.ixT K) (R.pv 3) R.pe_int (fun _ _ => rfl)))
      (R.pss_cons (R.ps_set (i := 5) sc_M_Stock___init__.nd rfl (Or.inl rfl) (R.pe_ix (R.ixT K) (R.pv 3) R.pe_int (fun _ _ => rfl)))
      (R.pss_cons (R.ps_if (R.pt (R.pw_or (R.pt_not (R.pt_val (R.pe_callD D_P_is_name hr (by decide) rfl (R.pa_c (R.pv 4) R.pa_nil)))) (R.pw_or1 (R.pt_cmpR (op_din hr.units) (R.pv 4) (R.pe_fld K (R.pv 0)) (by with_unfolding_all rfl))))) (R.pss_one (R.ps_raiseD (E := E) EX_NoName hr (by decide) rfl rfl (R.pa_c (R.pv 4) R.pa_nil) rfl rfl rfl (fun _ _ z => z))) R.pss_nil)
      (R.pss_cons (R.ps_if (R.pt_not (R.pt_val (R.pe_callD D_P_is_name hr (by decide) rfl (R.pa_c (R.pv 5) R.pa_nil)))) (R.pss_one (R.ps_raiseD (E := E) EX_NoName hr (by decide) rfl rfl (R.pa_c (R.pv 5) R.pa_nil) rfl rfl rfl (fun _ _ z => z))) R.pss_nil)
      (R.pss_cons (R.ps_dput hr.units (R.pe_fld K (R.pv 0)) (R.pv 4) (R.pv 2))
      (R.pss_one (R.ps_dput hr.units (R.pe_fld K (R.pv 0)) (R.pv 5) (R.pe_op op_orN (R.pe_dget2 hr.units (R.pe_fld K (R.pv 0)) (R.pv 5) R.pe_int) (R.pe_op op_shlN R.pe_int (R.pv 2))))))))))))))), ?_⟩
  refine ⟨_, rfl, r, _, rfl, .inl (SqL.of hS), _, _, rfl, rfl, _, rfl, ite2 (fun c => ?_) (fun _ => ?_)⟩
  · have c2 : (6 : Int) < (((ps.map V.ref).length : Nat) : Int) := of_decide_eq_true c
    rw [List.length_map, hl1] at c2
    omega
  refine fun d1 hd1 => ⟨_, rfl, a, c_Stock, dx, [], rfl, same_new hd1 _ _ _ ha, O_Stock.cls, O_Stock.no _ (by simp), by decide, fun d2 hd2 => ⟨_, rfl, a, c_Stock, dx, _, rfl, ?_, O_Stock.cls, O_Stock.no _ (by simp), put1 "numbers" (.ref d1), ?_⟩⟩
  · rw [upd_ne (ne_of_none upd_same hd2)]; exact upd_same
  have n1 : d1 ≠ a := fun z => by subst z; rw [ha] at hd1; cases hd1
  have n2 : d2 ≠ a := fun z => by subst z; rw [upd_same] at hd2; cases hd2
  have n12 : d2 ≠ d1 := fun z => by subst z; rw [upd_ne n1, upd_same] at hd2; cases hd2
  have e2 : H d2 = none := by rw [upd_ne n2, upd_ne n12] at hd2; exact hd2
  have base : RowN H c_Stock a r dx d1 d2 rs x 0 [some (.ref a), some (.ref r), none, none, none, none] (upd (upd (upd (upd H d1 (.dK [])) a (.ins c_Stock dx (putF "numbers" (.ref d1) []))) d2 (.dK [])) a (.ins c_Stock dx (putF "kinds" (.ref d2) (putF "numbers" (.ref d1) [])))) := by
    refine ⟨⟨_, _, _, _, rfl⟩, ?_, upd_same, [], [], rfl, List.nodup_nil, ?_, ?_, fun k v e => (by cases e), Nat.le_refl _, hx⟩
    · refine But.self (But.put (But.self (But.put (fun b o _ e => e) hd1)) e2)
    · rw [upd_ne n1, upd_ne (Ne.symm n12), upd_ne n1, upd_same]; rfl
    · rw [upd_ne n2, upd_same]
  have nra : r ≠ a := fun z => by subst z; rw [ha] at hS; cases hS
  have hr0 : upd (upd (upd (upd H d1 (.dK [])) a (.ins c_Stock dx (putF "numbers" (.ref d1) []))) d2 (.dK [])) a (.ins c_Stock dx (putF "kinds" (.ref d2) (putF "numbers" (.ref d1) []))) r = some (.lst (ps.map V.ref)) := base.2.1 _ _ nra hS
  refine ⟨_, rfl, r, rfl, ⟨_, SqL.of hr0⟩, for_enum (xs := ps.map V.ref) (RowN H c_Stock a r dx d1 d2 rs x) base (fun i σ Hc _ h => SqL.of (h.2.1 _ _ nra hS)) (fun i y p σ Hc hy hP hp => ?_) (fun σ Hc h => ?_)⟩
  · rw [List.getElem?_map] at hy
    obtain ⟨qd, hqd, rfl⟩ := Option.map_eq_some_iff.mp hy
    obtain ⟨n, k, hnk, hrw⟩ := hrow i qd hqd
    have hi : i < rs.length := (List.getElem?_eq_some_iff.mp hnk).1
    have nq : qd ≠ a := fun z => by subst z; rw [ha] at hrw; cases hrw
    have hP' := hP.same (same_new hp (.tup [.int (i : Nat), .ref qd]))
    obtain ⟨⟨x1, y1, z1, u1, rfl⟩, hB, h1, nl, kk, hnl, hnd, h2, h3, hN, hkl, hf⟩ := hP'
    have hpp : upd Hc p (.tup [.int (i : Nat), .ref qd]) p = some (.tup [.int (i : Nat), .ref qd]) := upd_same
    generalize upd Hc p (.tup [.int (i : Nat), .ref qd]) = Hd at hB h1 h2 h3 hpp ⊢
    have hq : Hd qd = some (.tup [n, k]) := hB _ _ nq hrw
    have hd : rs.drop i = (n, k) :: rs.drop (i + 1) := by
      rw [List.drop_eq_getElem_cons hi]
      have := (List.getElem?_eq_some_iff.mp hnk).2
      rw [this]
    rw [hd] at hf
    have hvn := hv (n, k) (List.mem_of_getElem? hnk)
    unfold faultOf at hf
    refine ⟨p, _, rfl, SqT.of hpp, rfl, _, _, rfl, _, _, rfl, rfl, ?_⟩
    refine ⟨_, rfl, qd, [n, k], 0, n, rfl, rfl, SqT.of hq, rfl, ?_⟩
    refine ⟨_, rfl, qd, [n, k], 1, k, rfl, rfl, SqT.of hq, rfl, ?_⟩
    have go : ∀ (H1 : Hp) (j : Nat) (σ : L2.St) (D : Ends), But a H H1 → σ[j]? = some (some x) → tRaiseD E "name" (tCons (tVar j) tNil) D σ H1 := fun H1 j σ _ b1 e1 => ⟨_, e1, x, rfl, fun e d m1 m2 m3 => q H1 e d b1 m1 m2 m3⟩
    rcases hvn.1 with ⟨l, rfl, hA, hz⟩ | ⟨m, hk, hn, _⟩
    case inr =>
      have hgn := kind_str hk hn
      rw [if_pos (.inl hgn)] at hf
      cases hf
      exact ⟨_, rfl, _, rfl, .inr ⟨m, kind_but ha hB hk, hn, _, rfl, iteT (go Hd 4 _ { nx := fun _ _ => False, rt := fun _ _ => False } hB rfl)⟩⟩
    refine ⟨_, rfl, _, rfl, .inl ⟨l, rfl, hA, hz, fun H1 s1 => ?_⟩⟩
    have b1 := hB.same s1
    cases hlo : nameOk l with
    | false =>
      rw [if_pos (.inl (by rw [gv_sv]; exact hlo))] at hf
      cases hf
      exact ⟨_, rfl, iteT (go H1 4 _ { nx := fun _ _ => False, rt := fun _ _ => False } b1 rfl)⟩
    | true =>
      have hgn : gv (sv l) = true := by rw [gv_sv]; exact hlo
      have g1 := s1 _ _ h1
      have g2 := s1 _ _ h2
      refine ⟨_, rfl, iteF ⟨_, rfl, _, rfl, a, c_Stock, dx, _, .ref d1, rfl, g1, O_Stock.cls, O_Stock.no _ (by simp), fs_numbers d1 d2, d1, _, rfl, DGet.k (k := skey l) g2, ?_⟩⟩
      by_cases hin : l ∈ nl
      · have hm2 : sv l ∈ nl.map sv := List.mem_map_of_mem hin
        rw [if_pos (.inr hm2)] at hf
        cases hf
        obtain ⟨j, hj, e⟩ := List.getElem_of_mem hin
        have hvj := nums_at nl l j hnd (by rw [List.getElem?_eq_getElem hj, e])
        rw [hvj]
        exact ⟨_, rfl, iteT (go H1 4 _ { nx := fun _ _ => False, rt := fun _ _ => False } b1 rfl)⟩
      · have hm2 : ¬ (gv (sv l) = false ∨ sv l ∈ nl.map sv) := by
          rintro (z | z)
          · rw [hgn] at z; cases z
          · obtain ⟨m, hm, e⟩ := List.mem_map.mp z
            exact hin (tx_inj (V.str.inj e) ▸ hm)
        rw [if_neg hm2] at hf
        have hvn2 := nums_none nl l hnd hin
        rw [hvn2]
        refine ⟨_, rfl, iteF ?_⟩
        rcases hvn.2 with ⟨kl, rfl, hAk, hzk⟩ | ⟨m, hk, hn, _⟩
        case inr =>
          have hgk := kind_str hk hn
          rw [if_pos hgk] at hf
          cases hf
          exact ⟨_, rfl, _, rfl, .inr ⟨m, kind_but ha b1 hk, hn, _, rfl, iteT (go H1 5 _ { nx := fun _ _ => False, rt := fun _ _ => False } b1 rfl)⟩⟩
        refine ⟨_, rfl, _, rfl, .inl ⟨kl, rfl, hAk, hzk, fun H2 s2 => ?_⟩⟩
        have b2 := b1.same s2
        cases hko : nameOk kl with
        | false =>
          rw [if_pos (by rw [gv_sv]; exact hko)] at hf
          cases hf
          exact ⟨_, rfl, iteT (go H2 5 _ { nx := fun _ _ => False, rt := fun _ _ => False } b2 rfl)⟩
        | true =>
          rw [if_neg (by rw [gv_sv, hko]; decide)] at hf
          refine ⟨_, rfl, iteF ?_⟩
          have f1 := s2 _ _ g1
          have f2 := s2 _ _ g2
          have f3 := (s1.trans s2) _ _ h3
          refine ⟨_, rfl, _, rfl, a, c_Stock, dx, _, .ref d1, rfl, f1, O_Stock.cls, O_Stock.no _ (by simp), fs_numbers d1 d2, _, rfl, d1, _, rfl, DPut.k (k := skey l) f2 (by rw [numsOf_len]; exact small_dict (by omega)), ?_⟩
          rw [putK_new _ hvn2]
          have e1 : numsOf nl ++ [(skey l, V.int (i : Nat))] = numsOf (nl ++ [l]) := by rw [numsOf_snoc, hnl]
          rw [e1]
          have k1 : upd H2 d1 (.dK (numsOf (nl ++ [l]))) a = some (.ins c_Stock dx (fsStock d1 d2)) := by rw [upd_ne (Ne.symm n1)]; exact f1
          have k3 : upd H2 d1 (.dK (numsOf (nl ++ [l]))) d2 = some (.dK kk) := by rw [upd_ne n12]; exact f3
          refine ⟨_, rfl, a, c_Stock, dx, _, .ref d2, rfl, k1, O_Stock.cls, O_Stock.no _ (by simp), fs_kinds d1 d2, d2, rfl, .inl ⟨_, .inl k3⟩, _, rfl, _, DGet.k (k := skey kl) k3, ?_⟩
          obtain ⟨mk, emk⟩ : ∃ m : Nat, ((valV kk (skey kl)).getD (.int 0)) = nv m := by
            cases ev : valV kk (skey kl) with
            | none => exact ⟨0, rfl⟩
            | some v => obtain ⟨m, rfl⟩ := hN _ _ ev; exact ⟨m, rfl⟩
          rw [emk]
          refine ⟨_, rfl, i, rfl, rfl, by omega, _, _, rfl, rfl, ?_⟩
          refine ⟨_, rfl, a, c_Stock, dx, _, .ref d2, rfl, k1, O_Stock.cls, O_Stock.no _ (by simp), fs_kinds d1 d2, _, rfl, d2, _, rfl, DPut.k (k := skey kl) k3 (small_dict (by omega)), ?_⟩
          refine ⟨⟨_, _, _, _, rfl⟩, (b2.put hd1).put e2, ?_, nl ++ [l], _, by rw [List.length_append, hnl]; rfl, ?_, ?_, upd_same, hN.put _ _, Nat.le_trans (length_putK _ _ _) (by omega), ?_⟩
          · rw [upd_ne (Ne.symm n2)]; exact k1
          · rw [List.nodup_append]
            refine ⟨hnd, by simp, fun u hu v hv2 e => ?_⟩
            have : v = l := by simpa using hv2
            exact hin (by rw [← this, ← e]; exact hu)
          · rw [upd_ne (Ne.symm n12), upd_same]
          · rw [List.map_append]; exact hf
  · obtain ⟨_, _, _, nl, kk, _, _, _, _, _, _, hf⟩ := h
    rw [List.length_map, hl1, List.drop_length] at hf
    cases hf
end
end My


set_option Elab.async false
set_option linter.all false
set_option maxRecDepth 100000
set_option maxHeartbeats 4000000
namespace My
open PySem PySem.Spec PyProof.Rows L2 GM
noncomputable def cellN (ns : List Int) (k : Nat) : Int := if k < ns.length then ns.getD k 0 % 10 ^ 60 else if ns = [] then 7919 * (k : Int) + 5 else (ns.getD (k % ns.length) 0 % 1000003 + 613 * (k : Int)) * (48271 + 2 * (k : Int)) % 2147483647
theorem cellN_nonneg (ns : List Int) (k : Nat) : 0 ≤ cellN ns k := by
  unfold cellN
  split
  · exact Int.emod_nonneg _ (by decide)
  · split
    · omega
    · exact Int.emod_nonneg _ (by decide)
noncomputable def sp_L_cell (K : PySem.W.Frag) : Sp := fun vs H Q _ => ∃ (a : Addr) (ns : List Int) (k : Nat), vs = [.ref a, .int k] ∧ SqL K H a (ns.map V.int) ∧ k ≤ 1000 ∧ ∀ H', Same H H' → Q (.int (cellN ns k)) H'
noncomputable def low (l : List Nat) : Bool := l.all fun c => decide (97 ≤ c) && decide (c ≤ 122)
theorem nameOk_of {l : List Nat} (h1 : 1 ≤ l.length) (h2 : l.length ≤ 8) (h : low l = true) : nameOk l = true := by
  unfold nameOk
  rw [decide_eq_true h1, decide_eq_true h2]
  exact h
theorem low_app {l m : List Nat} (h : low l = true) (h2 : low m = true) : low (l ++ m) = true := by unfold low at *; rw [List.all_append, h, h2]; rfl
theorem low_sub {l m : List Nat} (h : low l = true) (hs : ∀ c ∈ m, c ∈ l) : low m = true := by
  unfold low at *
  rw [List.all_eq_true] at *
  exact fun c hc => h c (hs c hc)
noncomputable def itc (c : Int) : Nat → Int
  | 0 => c
  | k + 1 => itc c k / 26
noncomputable def dig (c : Int) (k : Nat) : Nat := 97 + (itc c k % 26).toNat
noncomputable def wordL (c : Int) (n : Nat) : List Nat := (List.range n).map (dig c)
theorem wordL_len (c : Int) (n : Nat) : (wordL c n).length = n := by simp [wordL]
theorem dig_low (c : Int) (k : Nat) : 97 ≤ dig c k ∧ dig c k ≤ 122 := by
  unfold dig
  have h1 := Int.emod_nonneg (itc c k) (show (26 : Int) ≠ 0 by decide)
  have h2 := Int.emod_lt_of_pos (itc c k) (show (0 : Int) < 26 by decide)
  omega
theorem wordL_low (c : Int) (n : Nat) : low (wordL c n) = true := by
  unfold low wordL
  rw [List.all_eq_true]
  intro x hx
  obtain ⟨k, _, rfl⟩ := List.mem_map.mp hx
  have := dig_low c k
  simp only [Bool.and_eq_true, decide_eq_true_eq]; exact this
theorem wordL_succ (c : Int) (n : Nat) : wordL c (n + 1) = wordL c n ++ [dig c n] := by simp [wordL, List.range_succ]
theorem wordL_ok {c : Int} {n : Nat} (h1 : 1 ≤ n) (h2 : n ≤ 8) : nameOk (wordL c n) = true := nameOk_of (by rw [wordL_len]; exact h1) (by rw [wordL_len]; exact h2) (wordL_low c n)
noncomputable def GoodN (ns : List (List Nat)) (m : Nat) : Prop := ns.length = m ∧ (∀ n ∈ ns, nameOk n = true) ∧ ns.Nodup
theorem GoodN.reverse {ns : List (List Nat)} {m : Nat} (h : GoodN ns m) : GoodN ns.reverse m := ⟨by rw [List.length_reverse]; exact h.1, fun n hn => h.2.1 n (List.mem_reverse.mp hn), by rw [List.nodup_iff_pairwise_ne, List.pairwise_reverse]; exact (List.nodup_iff_pairwise_ne.mp h.2.2).imp fun h e => h e.symm⟩
theorem good_map {f : Nat → List Nat} {m : Nat} (h1 : ∀ k, k < m → nameOk (f k) = true) (h2 : ∀ i j, i < m → j < m → f i = f j → i = j) : GoodN ((List.range m).map f) m := by
  refine ⟨by simp, fun n hn => ?_, ?_⟩
  · obtain ⟨k, hk, rfl⟩ := List.mem_map.mp hn
    exact h1 k (List.mem_range.mp hk)
  · rw [List.nodup_iff_pairwise_ne, List.pairwise_map]
    refine List.Pairwise.imp_of_mem (fun {a b} ha hb hne e => hne (h2 a b (List.mem_range.mp ha) (List.mem_range.mp hb) e)) (List.nodup_iff_pairwise_ne.mp List.nodup_range)
theorem good_pre (b : List Nat) (m : Nat) (hm : m ≤ 6) (hb : b.length = 8) (hl : low b = true) : GoodN ((List.range m).map fun k => b.take (k + 1)) m := by
  refine good_map (fun k hk => nameOk_of (by rw [List.length_take]; omega) (by rw [List.length_take]; omega) (low_sub hl fun c hc => List.mem_of_mem_take hc)) fun i j hi hj e => ?_
  have := congrArg List.length e
  rw [List.length_take, List.length_take] at this
  omega
noncomputable def wds : List (List Nat) := ["up", "to", "of", "for", "each", "any", "one", "nothing"].map fun x : String => (Str.ofString x).cps.toList
noncomputable def goodB (ns : List (List Nat)) (m : Nat) : Bool := decide (ns.length = m) && (ns.all nameOk && decide ns.Nodup)
theorem goodB_ok {ns : List (List Nat)} {m : Nat} (h : goodB ns m = true) : GoodN ns m := by
  unfold goodB at h
  simp only [Bool.and_eq_true, decide_eq_true_eq] at h
  exact ⟨h.1, List.all_eq_true.mp h.2.1, h.2.2⟩
theorem good_wds : ∀ a, a < 8 → ∀ m, m < 7 → goodB (((wds ++ wds).drop a).take m) m = true := by decide +kernel
noncomputable def third (b : List Nat) (size at_ : Nat) (x m : Int) (k : Nat) : List Nat := (b.take at_ ++ wordL (x + (k : Int) * m) 1) ++ (b.drop (at_ + 1)).take (size - (at_ + 1))
theorem good_third {b : List Nat} {size at_ m : Nat} {x st : Int} (hb : b.length = 8) (hl : low b = true) (h1 : 1 ≤ size) (h2 : size ≤ 8) (h3 : at_ < size) (hm : m ≤ 6) (hx : 0 ≤ x ∧ x < 26) (hs : 1 ≤ st ∧ st ≤ 4) :
    GoodN ((List.range m).map (third b size at_ x st)) m := by
  have hlen : ∀ k, (third b size at_ x st k).length = size := fun k => by
    unfold third
    simp only [List.length_append, List.length_take, List.length_drop, wordL_len]
    omega
  refine good_map (fun k hk => nameOk_of (by rw [hlen]; exact h1) (by rw [hlen]; exact h2) ?_) fun i j hi hj e => ?_
  · exact low_app (low_app (low_sub hl fun c hc => List.mem_of_mem_take hc) (wordL_low _ _)) (low_sub hl fun c hc => List.mem_of_mem_drop (List.mem_of_mem_take hc))
  · unfold third at e
    have e1 := (List.append_inj e (by simp [wordL_len])).1
    have e2 := (List.append_inj e1 rfl).2
    have e3 : dig (x + (i : Int) * st) 0 = dig (x + (j : Int) * st) 0 := by
      have : [dig (x + (i : Int) * st) 0] = [dig (x + (j : Int) * st) 0] := e2
      simpa using this
    unfold dig itc at e3
    have b1 := Int.emod_nonneg (x + (i : Int) * st) (show (26 : Int) ≠ 0 by decide)
    have b2 := Int.emod_nonneg (x + (j : Int) * st) (show (26 : Int) ≠ 0 by decide)
    obtain ⟨s1, s2⟩ := hs
    have hst : st = 1 ∨ st = 2 ∨ st = 3 ∨ st = 4 := by omega
    rcases hst with rfl | rfl | rfl | rfl <;> omega
theorem cut_take (l : List Nat) (k : Nat) : cutL l none (some (k : Int)) = l.take k := by
  unfold cutL
  rw [HT.sIx_nat, HT.sIx_none, List.drop_zero, Nat.sub_zero]
  by_cases h : k ≤ l.length
  · rw [Nat.min_eq_left h]
  · rw [Nat.min_eq_right (by omega), List.take_of_length_le (Nat.le_refl _), List.take_of_length_le (by omega)]
theorem cut_mid (l : List Nat) (a b : Nat) (ha : a ≤ l.length) (hb : b ≤ l.length) : cutL l (some (a : Int)) (some (b : Int)) = (l.drop a).take (b - a) := by
  unfold cutL
  rw [HT.sIx_nat, HT.sIx_nat, Nat.min_eq_left ha, Nat.min_eq_left hb]
noncomputable def sp_L_word (_K : PySem.W.Frag) : Sp := fun vs H Q _ => ∃ (c : Int) (n : Nat), vs = [.int c, .int (n : Int)] ∧ n ≤ 8 ∧ ∀ H', Same H H' → Q (sv (wordL c n)) H'
noncomputable def sp_L_names (K : PySem.W.Frag) : Sp := fun vs H Q _ => ∃ (a : Addr) (sc : List Int) (m : Nat), vs = [.ref a, .int (m : Int)] ∧ SqL K H a (sc.map V.int) ∧ m ≤ 6 ∧ ∀ l H' ns, Same H H' → H l = none → H' l = some (.lst (ns.map sv)) → GoodN ns m → Q (.ref l) H'
noncomputable def sp_L_kinds (K : PySem.W.Frag) : Sp := fun vs H Q _ => ∃ (a l : Addr) (sc : List Int) (ns : List (List Nat)), vs = [.ref a, .ref l] ∧ SqL K H a (sc.map V.int) ∧ H l = some (.lst (ns.map sv)) ∧ ns.length ≤ 6 ∧ (∀ n ∈ ns, nameOk n = true) ∧
  ∀ (p : Addr) (H' : Hp) (ks : List (List Nat)), Same H H' → H p = none → H' p = some (.lst (ks.map sv)) → ks.length = ns.length → (∀ k ∈ ks, nameOk k = true) → Q (.ref p) H'
section
variable {P : Program} {w : World} {K : PySem.W.Frag} {mg : Str → Option Value} {base : Heap}
variable {c_Stock c_NoName c_TooMany DH : Addr}
theorem ok_L_cell {f : Addr} {fd : FuncData} (F : Fun K "_law_cell" "_law_cell" s_L_cell f fd) (m_self : mg "_law_cell" = some (.ref f)) (m_len : mg "len" = none) : DefOk P w K mg base 1 "_law_cell" ["_law_script", "_law_k"] [] (sp_L_cell K) := by
  refine F.def_okQ m_self (bnd2 F fun _ _ _ _ _ _ _ _ => rfl) sc_L_cell (fun vs H Q E h => ?_) (fun cdv A outer s H vs Q E hr h => ?_)
  · obtain ⟨a, ns, k, rfl, _⟩ := h; rfl
  obtain ⟨a, ns, k, rfl, hS, hk, q⟩ := h
  have hl : (ns.map V.int).length = ns.length := List.length_map _
  refine ⟨_, (R.pss_cons (R.ps_if (R.pt_cmpR op_lt (R.pv 1) (R.pe_cB call_len_seq rfl m_len PySem.boot_len (R.pa_c (R.pv 0) R.pa_nil)) (nomark _)) (R.pss_one (R.ps_ret (R.pe_op op_mod (R.pe_ix (R.ixL K) (R.pv 0) (R.pv 1) (fun _ _ => rfl)) (R.pe_op op_pow R.pe_int R.pe_int)))) R.pss_nil)
    (R.pss_cons (R.ps_if (R.pt_cmpR (op_eqI hr.units0) (R.pv 0) (R.pe_lst R.pa_nil) (nomark _)) (R.pss_one (R.ps_ret (R.pe_op op_add (R.pe_op op_mulB R.pe_int (R.pv 1)) R.pe_int))) R.pss_nil)
    (R.pss_one (R.ps_ret (R.pe_op op_mod (R.pe_op op_mulB (R.pe_op op_add (R.pe_op op_mod (R.pe_ix (R.ixL K) (R.pv 0) (R.pe_op (opE op_mod) (R.pv 1) (R.pe_cB call_len_seq rfl m_len PySem.boot_len (R.pa_c (R.pv 0) R.pa_nil))) (fun _ _ => rfl)) R.pe_int) (R.pe_op op_mulB R.pe_int (R.pv 1))) (R.pe_op op_add R.pe_int (R.pe_op op_mulB R.pe_int (R.pv 1)))) R.pe_int))))), ?_⟩
  refine ⟨_, rfl, _, rfl, a, _, rfl, .inl hS, _, _, rfl, rfl, _, rfl, ?_⟩
  refine ite2 (fun c => ?_) (fun c => ?_)
  · have c' : (k : Int) < (((ns.map V.int).length : Nat) : Int) := of_decide_eq_true c
    have c2 : k < ns.length := by omega
    have q' : Q (.int (ns.getD k 0 % 10 ^ 60)) H := by
      have z := q H (Same.refl _)
      unfold cellN at z; rw [if_pos c2] at z; exact z
    refine ⟨_, rfl, _, rfl, a, _, _, V.int (ns.getD k 0), rfl, rfl, hS, at_nat (by rw [List.getElem?_map, List.getElem?_eq_getElem c2, List.getD_eq_getElem?_getD, List.getElem?_eq_getElem c2]; rfl), ?_⟩
    refine ⟨_, _, rfl, rfl, ⟨by decide, by decide, by decide⟩, _, _, rfl, rfl, ?_, q'⟩
    show (0 : Int) < 10 ^ 60
    decide
  · have c' : ¬ (k : Int) < (((ns.map V.int).length : Nat) : Int) := of_decide_eq_false (Bool.eq_false_iff.mpr c)
    have c2 : ¬ k < ns.length := by omega
    refine ⟨_, rfl, (by show 0 ≤ sizeLine; decide), fun p hp => ?_⟩
    have s1 := same_new hp (.lst [])
    have hS1 := s1.seq hS
    refine ⟨a, p, ns, [], rfl, rfl, hS1, SqL.of upd_same, _, rfl, ?_⟩
    have q' := q _ s1
    unfold cellN at q'
    rw [if_neg c2] at q'
    by_cases e : ns = []
    · rw [if_pos e] at q'
      show (if (decide (ns = []) : Bool) = true then _ else _)
      rw [decide_eq_true e]
      exact iteT ⟨_, rfl, _, _, rfl, rfl, mulOk_left (by decide), _, _, rfl, rfl, q'⟩
    · rw [if_neg e] at q'
      show (if (decide (ns = []) : Bool) = true then _ else _)
      rw [decide_eq_false e]
      refine iteF ?_
      have hpos : 0 < ns.length := List.length_pos_iff.mpr e
      have hlt : k % ns.length < ns.length := Nat.mod_lt _ hpos
      refine ⟨_, rfl, _, rfl, _, rfl, a, _, rfl, .inl hS1, _, _, nv (k % ns.length), rfl, rfl, (by show (0 : Int) < _; omega), ?_, a, _, _, V.int (ns.getD (k % ns.length) 0), rfl, rfl, hS1, at_nat (by rw [List.getElem?_map, List.getElem?_eq_getElem hlt, List.getD_eq_getElem?_getD, List.getElem?_eq_getElem hlt]; rfl), ?_⟩
      · show V.int ((k : Int) % (((ns.map V.int).length : Nat) : Int)) = V.int ((k % ns.length : Nat) : Int)
        rw [hl]; rfl
      refine ⟨_, _, rfl, rfl, (by show (0 : Int) < 1000003; decide), _, rfl, _, _, rfl, rfl, mulOk_left (by decide), _, _, rfl, rfl, _, rfl, _, _, rfl, rfl, mulOk_left (by decide), _, _, rfl, rfl, _, _, rfl, rfl, mulOk_small (by omega), _, _, rfl, rfl, (by show (0 : Int) < 2147483647; decide), q'⟩
theorem lett_at (i : Nat) (h : i < 26) : atI (Str.ofString "abcdefghijklmnopqrstuvwxyz").cps.toList (i : Int) = some (97 + i) := by
  have z : ∀ i, i < 26 → (Str.ofString "abcdefghijklmnopqrstuvwxyz").cps.toList[i]? = some (97 + i) := by decide +kernel
  exact atI_nat (z i h)
theorem ok_L_word {f : Addr} {fd : FuncData} (F : Fun K "_law_word" "_law_word" s_L_word f fd) (m_self : mg "_law_word" = some (.ref f)) (m_range : mg "range" = none) (m_divmod : mg "divmod" = none) : DefOk P w K mg base 1 "_law_word" ["_law_cell_here", "_law_size"] [] (sp_L_word K) := by
  refine F.def_okQ m_self (bnd2 F fun _ _ _ _ _ _ _ _ => rfl) sc_L_word (fun vs H Q E h => ?_) (fun cdv A outer s H vs Q E hr h => ?_)
  · obtain ⟨c, n, rfl, _⟩ := h; rfl
  obtain ⟨c, n, rfl, hn, q⟩ := h
  refine ⟨_, (R.pss_cons (R.ps_set (i := 2) sc_L_word.nd rfl (Or.inl rfl) R.pe_str)
    (R.pss_cons (R.ps_set (i := 3) sc_L_word.nd rfl (Or.inl rfl) R.pe_str)
    (R.pss_cons (R.ps_for PassesOwn.never rfl (R.pi_range1 rfl m_range (R.pa_c (R.pv 1) R.pa_nil)) (R.pg_name (i := 4) sc_L_word.nd rfl (Or.inl rfl)) (R.pss_cons (R.ps_asg (R.pe_cB call_divmod rfl m_divmod (boot_divmod) (R.pa_c (R.pv 0) (R.pa_c R.pe_int R.pa_nil))) (R.pg_tup K 2 rfl (R.pgs_cons (R.pg_name (i := 0) sc_L_word.nd rfl (Or.inl rfl)) (R.pgs_cons (R.pg_name (i := 5) sc_L_word.nd rfl (Or.inl rfl)) R.pgs_nil))))
      (R.pss_one (R.ps_set (i := 3) sc_L_word.nd rfl (Or.inl rfl) (R.pe_op op_add_str (R.pv 3) (R.pe_ix ix_str (R.pv 2) (R.pv 5) (fun _ _ => rfl)))))))
    (R.pss_one (R.ps_ret (R.pv 3)))))), ?_⟩
  refine ⟨_, rfl, _, rfl, by omega, by omega, ?_⟩
  refine for_range (fun i σ H2 => (∃ x y, σ = [some (.int (itc c i)), some (.int (n : Int)), some (.str "abcdefghijklmnopqrstuvwxyz"), some (sv (wordL c i)), x, y]) ∧ Same H H2) ⟨⟨_, _, rfl⟩, Same.refl _⟩ (fun i σ H2 hi hP => ?_) (fun σ H2 hP => ?_)
  · obtain ⟨⟨x, y, rfl⟩, s2⟩ := hP
    have hi : i < n := by simpa using hi
    refine ⟨_, rfl, _, _, rfl, ⟨by decide, by decide⟩, fun p hp => ⟨p, _, rfl, SqT.of upd_same, rfl, _, _, rfl, _, _, rfl, rfl, ?_⟩⟩
    have b1 := Int.emod_nonneg (itc c i) (show (26 : Int) ≠ 0 by decide)
    have b2 := Int.emod_lt_of_pos (itc c i) (show (0 : Int) < 26 by decide)
    have e : itc c i % 26 = (((itc c i % 26).toNat : Nat) : Int) := by omega
    refine ⟨_, rfl, _, rfl, _, rfl, _, _, dig c i, rfl, rfl, by decide, ?_, _, _, rfl, rfl, ?_, ?_⟩
    · rw [e]; exact lett_at _ (by omega)
    · show (tx (wordL c i)).length + 1 ≤ sizeLine
      rw [tx_len, wordL_len, sizeLine_eq]; omega
    · have e5 : sv (wordL c (i + 1)) = V.str (tx (wordL c i) ++ ⟨#[dig c i]⟩) := by
        show V.str (tx (wordL c (i + 1))) = _
        rw [wordL_succ, ← tx_app]; rfl
      rw [e5]
      exact ⟨⟨_, _, rfl⟩, s2.trans (same_new hp _)⟩
  · obtain ⟨⟨x, y, rfl⟩, s2⟩ := hP
    have e : (((n : Int)).toNat) = n := by simp
    rw [e]
    exact ⟨_, rfl, q H2 s2⟩
theorem len8 {l : List Nat} (h : l.length ≤ 8) : l.length ≤ sizeLine := by rw [sizeLine_eq]; omega
theorem sback {H H' : Hp} {l : Addr} (S : Same H H') (h : H' l = none) : H l = none := by
  cases e : H l with
  | none => rfl
  | some o => rw [S _ _ e] at h; cases h
theorem cutV_nat (xs : List V) (a m : Nat) (h : a + m ≤ xs.length) : cutV xs (some (a : Int)) (some ((a + m : Nat) : Int)) = (xs.drop a).take m := by
  unfold cutV
  rw [HT.sIx_nat, HT.sIx_nat, Nat.min_eq_left (show a ≤ xs.length by omega), Nat.min_eq_left h, Nat.add_sub_cancel_left]
theorem wds_sv : [V.str "up", V.str "to", V.str "of", V.str "for", V.str "each", V.str "any", V.str "one", V.str "nothing"] = wds.map sv := by
  have z : ∀ x : String, sv (Str.ofString x).cps.toList = V.str (Str.ofString x) := fun x => congrArg V.str (tx_of _).symm
  unfold wds
  simp only [List.map_cons, List.map_nil, z]
theorem modn (c : Int) (m : Nat) (h : 0 < m) : ∃ u : Nat, c % (m : Int) = (u : Int) ∧ u < m := by
  have h1 := Int.emod_nonneg c (show (m : Int) ≠ 0 by omega)
  have h2 := Int.emod_lt_of_pos c (show (0 : Int) < (m : Int) by omega)
  exact ⟨(c % (m : Int)).toNat, by omega, by omega⟩
theorem ok_L_names {f : Addr} {fd : FuncData} (F : Fun K "_law_names" "_law_names" s_L_names f fd) (m_self : mg "_law_names" = some (.ref f)) (m_range : mg "range" = none) (m_list : mg "list" = none) (m_reversed : mg "reversed" = none)
    (D_L_cell : DefOk P w K mg base 1 "_law_cell" ["_law_script", "_law_k"] [] (sp_L_cell K))
    (D_L_word : DefOk P w K mg base 1 "_law_word" ["_law_cell_here", "_law_size"] [] (sp_L_word K)) : DefOk P w K mg base 2 "_law_names" ["_law_script", "_law_many"] [] (sp_L_names K) := by
  refine F.def_okQ m_self (bnd2 F fun _ _ _ _ _ _ _ _ => rfl) sc_L_names (fun vs H Q E h => ?_) (fun cdv A outer s H vs Q E hr h => ?_)
  · obtain ⟨a, sc, m, rfl, _⟩ := h; rfl
  obtain ⟨a, sc, m, rfl, hS, hm, q⟩ := h
  refine ⟨_, (R.pss_cons (R.ps_set (i := 2) sc_L_names.nd rfl (Or.inl rfl) (R.pe_op op_mod (R.pe_callD D_L_cell hr (by decide) rfl (R.pa_c (R.pv 0) (R.pa_c R.pe_int R.pa_nil))) R.pe_int))
    (R.pss_cons (R.ps_set (i := 3) sc_L_names.nd rfl (Or.inl rfl) (R.pe_callD D_L_cell hr (by decide) rfl (R.pa_c (R.pv 0) (R.pa_c R.pe_int R.pa_nil))))
    (R.pss_cons (R.ps_set (i := 4) sc_L_names.nd rfl (Or.inr rfl) (R.pe_callD D_L_word hr (by decide) rfl (R.pa_c (R.pe_callD D_L_cell hr (by decide) rfl (R.pa_c (R.pv 0) (R.pa_c R.pe_int R.pa_nil))) (R.pa_c R.pe_int R.pa_nil))))
    (R.pss_cons (R.ps_if (R.pt_cmpR op_eq (R.pv 2) R.pe_int (nomark _)) (R.pss_cons (R.ps_compE (i := 5) (defScope s_L_names) ["_law_script", "_law_many", "_law_way", "_law_cell_here", "_law_base", "_law_found", "_law_some", "_law_size", "_law_at", "_law_k", "_law_letter"] ["_law_k"] ["_law_base"] [4] sc_L_names.nd rfl (Or.inl rfl) rfl rfl rfl rfl rfl ⟨s.heap.objs.size + 1, rfl⟩ rfl rfl (by decide +kernel) (R.pi_range1 rfl m_range (R.pa_c (R.pv 1) R.pa_nil)) (fun C s2 H2 fp => (R.pg_name (i := 0) (show List.Nodup (["_law_k", "_law_base"] : List Str) from by decide +kernel) rfl (Or.inl rfl))) (fun C s2 H2 fp => R.pf_nil) (fun C s2 H2 fp => (R.pe_slice sl_str (R.pv 1) R.po_none (R.po_some (R.pe_op op_add (R.pv 0) R.pe_int)))))
      (R.pss_cons (R.ps_if (R.pt_cmpR op_eq (R.pe_op op_mod (R.pv 3) R.pe_int) R.pe_int (nomark _)) (R.pss_one (R.ps_set (i := 5) sc_L_names.nd rfl (Or.inl rfl) (R.pe_listrev rfl rfl m_list rfl m_reversed (R.pv 5)))) R.pss_nil)
      (R.pss_one (R.ps_ret (R.pv 5))))) R.pss_nil)
    (R.pss_cons (R.ps_if (R.pt_cmpR op_eq (R.pv 2) R.pe_int (nomark _)) (R.pss_cons (R.ps_set (i := 6) sc_L_names.nd rfl (Or.inl rfl) (R.pe_op op_rep (R.pe_lst (R.pa_c R.pe_str (R.pa_c R.pe_str (R.pa_c R.pe_str (R.pa_c R.pe_str (R.pa_c R.pe_str (R.pa_c R.pe_str (R.pa_c R.pe_str (R.pa_c R.pe_str R.pa_nil))))))))) R.pe_int))
      (R.pss_one (R.ps_ret (R.pe_slice sl_list (R.pv 6) (R.po_some (R.pe_op (opE op_mod) (R.pv 3) R.pe_int)) (R.po_some (R.pe_op (opE0 op_add) (R.pe_op (opE op_mod) (R.pv 3) R.pe_int) (R.pv 1))))))) R.pss_nil)
    (R.pss_cons (R.ps_set (i := 7) sc_L_names.nd rfl (Or.inl rfl) (R.pe_op (opE0 op_add) R.pe_int (R.pe_op (opE op_mod) (R.pv 3) R.pe_int)))
    (R.pss_cons (R.ps_set (i := 8) sc_L_names.nd rfl (Or.inl rfl) (R.pe_op (opE op_mod) (R.pe_op op_fdiv (R.pv 3) R.pe_int) (R.pv 7)))
    (R.pss_cons (R.ps_set (i := 5) sc_L_names.nd rfl (Or.inl rfl) (R.pe_lst R.pa_nil))
    (R.pss_cons (R.ps_for PassesOwn.never rfl (R.pi_range1 rfl m_range (R.pa_c (R.pv 1) R.pa_nil)) (R.pg_name (i := 9) sc_L_names.nd rfl (Or.inl rfl)) (R.pss_cons (R.ps_set (i := 10) sc_L_names.nd rfl (Or.inl rfl) (R.pe_callD D_L_word hr (by decide) rfl (R.pa_c (R.pe_op op_add (R.pe_op op_mod (R.pe_op op_fdiv (R.pv 3) R.pe_int) R.pe_int) (R.pe_op op_mulB (R.pv 9) (R.pe_op op_add R.pe_int (R.pe_op op_mod (R.pe_op op_fdiv (R.pv 3) R.pe_int) R.pe_int)))) (R.pa_c R.pe_int R.pa_nil))))
      (R.pss_one (R.ps_expr (R.pe_append (R.pv 5) (R.pa_c (R.pe_op op_add_str (R.pe_op op_add_str (R.pe_slice sl_str (R.pv 4) R.po_none (R.po_some (R.pv 8))) (R.pv 10)) (R.pe_slice sl_str (R.pv 4) (R.po_some (R.pe_op op_add (R.pv 8) R.pe_int)) (R.po_some (R.pv 7)))) R.pa_nil))))))
    (R.pss_one (R.ps_ret (R.pv 5)))))))))))), ?_⟩
  refine ⟨_, rfl, a, sc, 1, rfl, hS, by decide, fun H1 s1 => ⟨_, _, rfl, rfl, (by show (0 : Int) < 4; decide), ?_⟩⟩
  refine ⟨_, rfl, a, sc, 3, rfl, s1.seq hS, by decide, fun H2 s2 => ?_⟩
  have s12 := s1.trans s2
  refine ⟨_, rfl, a, sc, 2, rfl, s12.seq hS, by decide, fun H3 s3 => ⟨_, 8, rfl, by decide, fun H4 s4 => ?_⟩⟩
  have s14 := s12.trans (s3.trans s4)
  have hb := wordL_len (cellN sc 2) 8
  have hlb := wordL_low (cellN sc 2) 8
  have c0 := cellN_nonneg sc 3
  generalize wordL (cellN sc 2) 8 = b at hb hlb ⊢
  generalize cellN sc 1 % 4 = way
  generalize cellN sc 3 = c at c0 ⊢
  have em : ((m : Int)).toNat = m := by simp
  obtain ⟨u, hu, hu8⟩ := modn c 8 (by decide)
  refine ⟨_, rfl, rfl, _, rfl, ite2 (fun _ => ?_) (fun _ => ?_)⟩
  · refine ⟨_, rfl, (m : Int), rfl, by omega, by omega, fun l hl => ?_⟩
    rw [em]
    refine comp_rng_map (fun _ => true) (fun k => sv (b.take (k + 1))) (by omega) hl (fun k H5 hk s5 C kk => kk H5 (Same.refl _)) (fun k H5 hk _ s5 C kk => ?_) (fun H5 s5 e5 => ?_)
    · refine ⟨_, rfl, _, rfl, _, _, rfl, rfl, _, rfl, b, rfl, len8 (by omega), ?_⟩
      have e : (0 + (k : Int) + 1) = ((k + 1 : Nat) : Int) := by push_cast; omega
      rw [e, cut_take]
      exact kk H5 (Same.refl _)
    · have e6 : H5 l = some (.lst (((List.range m).map fun k => b.take (k + 1)).map sv)) := by
        rw [e5, List.filter_eq_self.mpr (fun _ _ => rfl), List.map_map]; rfl
      have hl0 : H l = none := sback s14 hl
      have hg := good_pre b m hm hb hlb
      refine ⟨_, rfl, _, _, rfl, rfl, (by show (0 : Int) < 2; decide), rfl, _, rfl, ite2 (fun _ => ?_) (fun _ => ?_)⟩
      · refine ⟨_, rfl, l, _, rfl, e6, fun p hp => ?_⟩
        have e7 : upd H5 p (.lst (((List.range m).map fun k => b.take (k + 1)).map sv).reverse) p = some (.lst ((((List.range m).map fun k => b.take (k + 1)).reverse).map sv)) := by rw [upd_same, List.map_reverse]
        exact ⟨_, rfl, q p _ _ ((s14.trans s5).trans (same_new hp _)) (sback (s14.trans s5) hp) e7 hg.reverse⟩
      · exact ⟨_, rfl, q l H5 _ (s14.trans s5) hl0 e6 hg⟩
  · refine ⟨_, rfl, rfl, _, rfl, ite2 (fun _ => ?_) (fun _ => ?_)⟩
    · refine ⟨(by show 8 ≤ sizeLine; decide), fun p1 hp1 => ⟨p1, 2, _, rfl, rfl, upd_same, by decide, by decide, (by show 8 * 2 ≤ sizeLine; decide), fun p2 hp2 => ?_⟩⟩
      have e8 : (c % 8 : Int) = ((u : Nat) : Int) := hu
      refine ⟨_, rfl, _, rfl, _, _, nv u, rfl, rfl, (by show (0 : Int) < 8; decide), congrArg V.int e8, _, rfl, _, rfl, _, _, nv u, rfl, rfl, (by show (0 : Int) < 8; decide), congrArg V.int e8, _, rfl, _, _, nv (u + m), rfl, rfl, ?_, _, rfl, p2, _, rfl, SqL.of upd_same, fun p3 hp3 => ?_⟩
      · show V.int ((u : Int) + (m : Int)) = V.int ((u + m : Nat) : Int)
        push_cast; rfl
      have e9 : (List.replicate (Int.toNat 2) [V.str "up", V.str "to", V.str "of", V.str "for", V.str "each", V.str "any", V.str "one", V.str "nothing"]).flatten = (wds ++ wds).map sv := by
        rw [wds_sv, List.map_append]
        show (List.replicate 2 (wds.map sv)).flatten = _
        simp [List.replicate]
      have hlw : (wds ++ wds).length = 16 := by decide
      rw [e9, cutV_nat _ u m (by rw [List.length_map, hlw]; omega), ← List.map_drop, ← List.map_take]
      refine q p3 _ (((wds ++ wds).drop u).take m) (((s14.trans (same_new hp1 _)).trans (same_new hp2 _)).trans (same_new hp3 _)) (sback ((s14.trans (same_new hp1 _)).trans (same_new hp2 _)) hp3) upd_same (goodB_ok (good_wds u hu8 m (by omega)))
    · obtain ⟨v, hv, hv8⟩ := modn (c / 8) (1 + u) (by omega)
      have hx1 := Int.emod_nonneg (c / 64) (show (26 : Int) ≠ 0 by decide)
      have hx2 := Int.emod_lt_of_pos (c / 64) (show (0 : Int) < 26 by decide)
      have hy1 := Int.emod_nonneg (c / 1664) (show (4 : Int) ≠ 0 by decide)
      have hy2 := Int.emod_lt_of_pos (c / 1664) (show (0 : Int) < 4 by decide)
      have hg := good_third (m := m) (x := c / 64 % 26) (st := 1 + c / 1664 % 4) hb hlb (size := 1 + u) (at_ := v) (by omega) (by omega) hv8 hm ⟨hx1, hx2⟩ (by omega)
      refine ⟨_, rfl, _, _, nv u, rfl, rfl, (by show (0 : Int) < 8; decide), congrArg V.int hu, _, _, nv (1 + u), rfl, rfl, ?_, ?_⟩
      · show V.int ((1 : Int) + (u : Int)) = V.int ((1 + u : Nat) : Int)
        push_cast; rfl
      refine ⟨_, rfl, _, _, rfl, rfl, ⟨by decide, by decide⟩, _, rfl, _, _, nv v, rfl, rfl, ?_, congrArg V.int hv, ?_⟩
      · show (0 : Int) < ((1 + u : Nat) : Int)
        omega
      refine ⟨(by show 0 ≤ sizeLine; decide), fun l hl => ?_⟩
      have hl0 := sback s14 hl
      refine ⟨_, rfl, (m : Int), rfl, by omega, by omega, ?_⟩
      rw [em]
      refine for_range (fun i σ H5 => (∃ z x y, σ = [some (.ref a), some (.int (m : Int)), z, some (.int c), some (sv b), some (.ref l), none, some (nv (1 + u)), some (nv v), x, y]) ∧ Same H H5 ∧ H5 l = some (.lst (((List.range i).map (third b (1 + u) v (c / 64 % 26) (1 + c / 1664 % 4))).map sv))) ⟨⟨_, _, _, rfl⟩, s14.trans (same_new hl _), upd_same⟩ (fun i σ H5 hi hP => ?_) (fun σ H5 hP => ?_)
      · obtain ⟨⟨z, x, y, rfl⟩, s5, e5⟩ := hP
        refine ⟨_, rfl, _, _, rfl, rfl, ⟨by decide, by decide⟩, _, _, rfl, rfl, (by show (0 : Int) < 26; decide), _, rfl, _, rfl, _, _, rfl, rfl, ⟨by decide, by decide⟩, _, _, rfl, rfl, (by show (0 : Int) < 4; decide), _, _, rfl, rfl, _, _, rfl, rfl, mulOk_small (by omega), _, _, rfl, rfl, _, 1, rfl, by decide, fun H6 s6 => ?_⟩
        have e0 : (0 + (i : Int)) = (i : Int) := by omega
        have e6 := s6 _ _ e5
        have lb : (tx (cutL b none (some (v : Int)))).length ≤ 8 := by rw [tx_len]; exact Nat.le_trans (cutL_len _ _ _) (by omega)
        have lc : (tx (cutL b (some ((v : Int) + 1)) (some ((1 + u : Nat) : Int)))).length ≤ 8 := by rw [tx_len]; exact Nat.le_trans (cutL_len _ _ _) (by omega)
        have lw : (tx (wordL (c / 64 % 26 + (0 + (i : Int)) * (1 + c / 1664 % 4)) 1)).length = 1 := by rw [tx_len, wordL_len]
        refine ⟨_, rfl, .inl ⟨rfl, _, SqL.of e6⟩, _, rfl, _, rfl, _, rfl, b, rfl, len8 (by omega), _, rfl, _, _, rfl, rfl, (by rw [sizeLine_eq]; omega), _, rfl, _, rfl, _, _, rfl, rfl, _, rfl, _, rfl, _, rfl, b, rfl, len8 (by omega), _, _, rfl, rfl, ?_, l, _, _, rfl, rfl, e6, ?_, ?_⟩
        · rw [tx_app, tx_len, List.length_append, wordL_len, sizeLine_eq]
          rw [tx_len] at lb
          omega
        · rw [List.length_map, List.length_map, List.length_range, sizeLine_eq]
          omega
        · refine ⟨⟨_, _, _, rfl⟩, (s5.trans s6).upd hl0 _, ?_⟩
          rw [upd_same, tx_app, tx_app, List.range_succ, List.map_append, List.map_append]
          have e7 : cutL b none (some (v : Int)) = b.take v := cut_take b v
          have e8 : cutL b (some ((v : Int) + 1)) (some ((1 + u : Nat) : Int)) = (b.drop (v + 1)).take (1 + u - (v + 1)) := by
            have := cut_mid b (v + 1) (1 + u) (by omega) (by omega)
            push_cast at this ⊢
            exact this
          rw [e7, e8, e0]
          rfl
      · obtain ⟨⟨z, x, y, rfl⟩, s5, e5⟩ := hP
        exact ⟨_, rfl, q l H5 _ s5 hl0 e5 hg⟩
theorem ok_L_kinds {f : Addr} {fd : FuncData} (F : Fun K "_law_kinds" "_law_kinds" s_L_kinds f fd) (m_self : mg "_law_kinds" = some (.ref f)) (m_range : mg "range" = none) (m_len : mg "len" = none)
    (D_L_word : DefOk P w K mg base 1 "_law_word" ["_law_cell_here", "_law_size"] [] (sp_L_word K))
    (D_L_cell : DefOk P w K mg base 1 "_law_cell" ["_law_script", "_law_k"] [] (sp_L_cell K)) : DefOk P w K mg base 2 "_law_kinds" ["_law_script", "_law_names_here"] [] (sp_L_kinds K) := by
  refine F.def_okQ m_self (bnd2 F fun _ _ _ _ _ _ _ _ => rfl) sc_L_kinds (fun vs H Q E h => ?_) (fun cdv A outer s H vs Q E hr h => ?_)
  · obtain ⟨a, l, sc, ns, rfl, _⟩ := h; rfl
  obtain ⟨a, l, sc, ns, rfl, hS, hl, hm, hok, q⟩ := h
  refine ⟨_, (R.pss_cons (R.ps_set (i := 2) sc_L_kinds.nd rfl (Or.inr rfl) (R.pe_lst (R.pa_c (R.pe_callD D_L_word hr (by decide) rfl (R.pa_c (R.pe_callD D_L_cell hr (by decide) rfl (R.pa_c (R.pv 0) (R.pa_c R.pe_int R.pa_nil))) (R.pa_c (R.pe_op (opE0 op_add) R.pe_int (R.pe_op op_mod (R.pe_callD D_L_cell hr (by decide) rfl (R.pa_c (R.pv 0) (R.pa_c R.pe_int R.pa_nil))) R.pe_int)) R.pa_nil))) (R.pa_c (R.pe_ix (R.ixL K) (R.pe_op op_cat (R.pv 1) (R.pe_lst (R.pa_c R.pe_str R.pa_nil))) R.pe_int (fun _ _ => rfl)) (R.pa_c R.pe_str R.pa_nil)))))
    (R.pss_one (R.ps_ret (R.pe_comp (defScope s_L_kinds) ["_law_script", "_law_names_here", "_law_pool"] ["_law_k"] ["_law_pool", "_law_script"] [2, 0] rfl rfl rfl ⟨s.heap.objs.size + 1, rfl⟩ rfl rfl (by decide +kernel) (R.pi_range1 rfl m_range (R.pa_c (R.pe_cB call_len_seq rfl m_len PySem.boot_len (R.pa_c (R.pv 1) R.pa_nil)) R.pa_nil)) (fun C s2 H2 fp => (R.pg_name (i := 0) (show List.Nodup (["_law_k", "_law_pool", "_law_script"] : List Str) from by decide +kernel) rfl (Or.inl rfl))) (fun C s2 H2 fp => R.pf_nil) (fun C s2 H2 fp => (R.pe_ix (R.ixL K) (R.pv 1) (R.pe_op (opE op_mod) (R.pe_op op_fdiv (R.pe_callD D_L_cell hr (by decide) rfl (R.pa_c (R.pv 2) (R.pa_c R.pe_int R.pa_nil))) (R.pe_op op_add R.pe_int (R.pe_op op_mulB (R.pv 0) (R.pv 0)))) R.pe_int) (fun _ _ => rfl))))))), ?_⟩
  obtain ⟨u, hu, hu8⟩ := modn (cellN sc 4) 8 (by decide)
  refine ⟨_, rfl, a, sc, 4, rfl, hS, by decide, fun H1 s1 => ⟨_, rfl, a, sc, 4, rfl, s1.seq hS, by decide, fun H2 s2 => ?_⟩⟩
  refine ⟨_, _, rfl, rfl, (by show (0 : Int) < 8; decide), _, _, nv (1 + u), rfl, rfl, ?_, ?_⟩
  · show V.int ((1 : Int) + cellN sc 4 % 8) = V.int ((1 + u : Nat) : Int)
    have : cellN sc 4 % 8 = (u : Int) := hu
    rw [this]; push_cast; rfl
  refine ⟨_, 1 + u, rfl, by omega, fun H3 s3 => ?_⟩
  have hw : nameOk (wordL (cellN sc 4) (1 + u)) = true := wordL_ok (by omega) (by omega)
  generalize wordL (cellN sc 4) (1 + u) = wd at hw ⊢
  have s13 := (s1.trans s2).trans s3
  refine ⟨_, rfl, (by show 1 ≤ sizeLine; decide), fun p1 hp1 => ⟨l, p1, _, _, rfl, rfl, same_new hp1 _ _ _ (s13 _ _ hl), upd_same, ?_, fun p2 hp2 => ?_⟩⟩
  · rw [List.length_map, sizeLine_eq]
    show ns.length + 1 ≤ _
    omega
  obtain ⟨n0, hn0, e0⟩ : ∃ n0, nameOk n0 = true ∧ (ns.map sv ++ [V.str "any"])[0]? = some (sv n0) := by
    cases ns with
    | nil => exact ⟨(Str.ofString "any").cps.toList, by decide, by show some (V.str (Str.ofString "any")) = _; rw [tx_of (Str.ofString "any")]; simp [tx_list]⟩
    | cons n ns => exact ⟨n, hok n (by simp), rfl⟩
  refine ⟨p2, _, 0, sv n0, rfl, rfl, SqL.of upd_same, atI_nat (j := 0) e0, (by show 3 ≤ sizeLine; decide), fun p3 hp3 => ?_⟩
  have s4 := ((s13.trans (same_new hp1 _)).trans (same_new hp2 _)).trans (same_new hp3 (.lst [sv wd, sv n0, V.str "one"]))
  have e3 : upd (upd (upd H3 p1 (.lst [V.str "any"])) p2 (.lst (ns.map sv ++ [V.str "any"]))) p3 (.lst [sv wd, sv n0, V.str "one"]) p3 = some (.lst [sv wd, sv n0, V.str "one"]) := upd_same
  generalize upd (upd (upd H3 p1 (.lst [V.str "any"])) p2 (.lst (ns.map sv ++ [V.str "any"]))) p3 (.lst [sv wd, sv n0, V.str "one"]) = H4 at s4 e3 ⊢
  have eone : V.str "one" = sv (Str.ofString "one").cps.toList := congrArg V.str (tx_of _)
  rw [eone] at e3
  have hone : nameOk (Str.ofString "one").cps.toList = true := by decide
  generalize (Str.ofString "one").cps.toList = one at e3 hone
  refine ⟨_, rfl, l, _, rfl, .inl (SqL.of (s4 _ _ hl)), _, rfl, by rw [List.length_map]; omega, by rw [List.length_map]; omega, fun p hp => ?_⟩
  have en : (((ns.map sv).length : Nat) : Int).toNat = ns.length := by rw [List.length_map]; simp
  rw [en]
  have pick : ∀ k : Nat, ∃ v : Nat, cellN sc 5 / (1 + (0 + (k : Int)) * (0 + (k : Int))) % 3 = (v : Int) ∧ v < 3 := fun k => modn _ 3 (by decide)
  refine comp_rng_map (fun _ => true) (fun k => sv ([wd, n0, one].getD (cellN sc 5 / (1 + (0 + (k : Int)) * (0 + (k : Int))) % 3).toNat wd)) (by omega) hp (fun k H5 hk s5 C kk => kk H5 (Same.refl _)) (fun k H5 hk _ s5 C kk => ?_) (fun H5 s5 e5 => ?_)
  · obtain ⟨v, hv, hv3⟩ := pick k
    have hk2 : k ≤ 5 := by omega
    have hkk : (0 + (k : Int)) * (0 + (k : Int)) ≤ 25 := by
      have : k * k ≤ 5 * 5 := Nat.mul_le_mul hk2 hk2
      rw [Int.zero_add]
      exact_mod_cast this
    have hk0 : 0 ≤ (0 + (k : Int)) * (0 + (k : Int)) := Int.mul_nonneg (by omega) (by omega)
    refine ⟨_, rfl, _, rfl, a, sc, 5, rfl, (s4.trans s5).seq hS, by decide, fun H6 s6 => ?_⟩
    refine ⟨_, rfl, _, rfl, _, _, rfl, rfl, mulOk_small (by omega), _, _, rfl, rfl, _, _, rfl, rfl, ⟨by omega, by omega⟩, _, _, nv v, rfl, rfl, (by show (0 : Int) < 3; decide), congrArg V.int hv, p3, _, _, sv ([wd, n0, one].getD v wd), rfl, rfl, SqL.of ((s5.trans s6) _ _ e3), atI_nat ?_, ?_⟩
    · have : ∀ v, v < 3 → [sv wd, sv n0, sv one][v]? = some (sv ([wd, n0, one].getD v wd)) := fun v h => by
        match v, h with
        | 0, _ => rfl
        | 1, _ => rfl
        | 2, _ => rfl
      exact this v hv3
    · have z := kk H6 s6
      rw [hv, Int.toNat_natCast] at z
      exact z
  · refine q p H5 ((List.range ns.length).map fun k : Nat => [wd, n0, one].getD (cellN sc 5 / (1 + (0 + (k : Int)) * (0 + (k : Int))) % 3).toNat wd) (s4.trans s5) (sback s4 hp) ?_ (by simp) fun k hk => ?_
    · rw [e5, List.filter_eq_self.mpr (fun _ _ => rfl), List.map_map]; rfl
    · obtain ⟨j, _, rfl⟩ := List.mem_map.mp hk
      obtain ⟨v, hv, hv3⟩ := pick j
      rw [hv, Int.toNat_natCast]
      have : ∀ v, v < 3 → nameOk ([wd, n0, one].getD v wd) = true := fun v h => by
        match v, h with
        | 0, _ => exact hw
        | 1, _ => exact hn0
        | 2, _ => exact hone
      exact this v hv3
end
end My


set_option Elab.async false
set_option linter.all false
set_option maxRecDepth 100000
set_option maxHeartbeats 4000000
namespace My
open PySem PySem.Spec PyProof.Rows L2 GM
theorem boot_ValueError : bootBuiltins "ValueError" = some (.type "ValueError") := PyProof.Rows.Boot.«ValueError»
/-- the classes of the text: of one that is raised -/
structure ClX (K : PySem.W.Frag) (mg : Str → Option Value) (C DH : Addr) (nm fld oth : Str) : Prop where
  self : mg nm = some (.ref C)
  exk : ExK K C
  val : PySem.W.kitOne K (.ref C) (.type "ValueError") = some true
  hall : mg "HallError" = some (.ref DH)
  halk : PySem.W.kitOne K (.ref C) (.ref DH) = some true
  hexd : ExD K DH
  hmro : PySem.W.mroIn K C (.ref DH) = some true
  exd : ExD K C
  slf : PySem.W.mroIn K C (.ref C) = some true
  rd : RdF K C fld
  noth : ∃ D, mg oth = some (.ref D) ∧ PySem.W.kitOne K (.ref C) (.ref D) = some false
  nNoBid : ∃ D, mg "NoBid" = some (.ref D) ∧ PySem.W.kitOne K (.ref C) (.ref D) = some false
  nNoBundle : ∃ D, mg "NoBundle" = some (.ref D) ∧ PySem.W.kitOne K (.ref C) (.ref D) = some false
  nNoNumber : ∃ D, mg "NoNumber" = some (.ref D) ∧ PySem.W.kitOne K (.ref C) (.ref D) = some false
  nNoPaper : ∃ D, mg "NoPaper" = some (.ref D) ∧ PySem.W.kitOne K (.ref C) (.ref D) = some false
  nNoRow : ∃ D, mg "NoRow" = some (.ref D) ∧ PySem.W.kitOne K (.ref C) (.ref D) = some false
  nBadStep : ∃ D, mg "BadStep" = some (.ref D) ∧ PySem.W.kitOne K (.ref C) (.ref D) = some false
  nNoText : ∃ D, mg "NoText" = some (.ref D) ∧ PySem.W.kitOne K (.ref C) (.ref D) = some false
  nTooLate : ∃ D, mg "TooLate" = some (.ref D) ∧ PySem.W.kitOne K (.ref C) (.ref D) = some false
theorem ty_same {K : PySem.W.Frag} {H H' : Hp} {v : V} {n : Nm} (S : Same H H') (h : KindIs K H v n) : KindIs K H' v n := by
  unfold KindIs at *
  generalize hu : Value.type (Nm.s n) = u at h ⊢
  cases h with
  | non => exact .non
  | bl x => exact .bl x
  | int i => exact .int i
  | str x => exact .str x
  | flt x => exact .flt x
  | lst e => exact .lst (S _ _ e)
  | frz e => exact .frz (S _ _ e)
  | tup e => exact .tup (S _ _ e)
  | dK e => exact .dK (S _ _ e)
  | dT e => exact .dT (S _ _ e)
  | ins e a b c d f => exact .ins (S _ _ e) a b c d f
noncomputable def sp_L_other (_K : PySem.W.Frag) (C : Addr) : Sp := fun vs H Q _ => ∃ a dx, vs = [.ref a] ∧ H a = some (excDO a C dx) ∧ ∀ H', Same H H' → Q (.bl false) H'
noncomputable def sp_L_same (K : PySem.W.Frag) : Sp := fun vs H Q _ => ∃ x n, vs = [x, x] ∧ KindIs K H x n ∧ SameK H x ∧ Q (.bl true) H
theorem sameK_same {H H' : Hp} (S : Same H H') : ∀ {x : V}, SameK H x → SameK H' x
  | .non, _ => trivial
  | .bl _, _ => trivial
  | .int _, _ => trivial
  | .str _, _ => trivial
  | .ref a, h => by
    rcases h with ⟨xs, e⟩ | ⟨xs, e⟩ | e
    · exact .inl ⟨xs, S _ _ e⟩
    · exact .inr (.inl ⟨xs, S _ _ e⟩)
    · exact .inr (.inr (S _ _ e))
theorem VOk.kind {K : PySem.W.Frag} {H : Hp} {x : V} (h : VOk K H x) : ∃ n, KindIs K H x n ∧ SameK H x := by
  rcases h with ⟨l, rfl, _⟩ | ⟨n, h1, _, h2⟩
  · exact ⟨.str, .str _, trivial⟩
  · exact ⟨n, h1, h2⟩
theorem VOk.same {K : PySem.W.Frag} {H H' : Hp} {x : V} (S : Same H H') (h : VOk K H x) : VOk K H' x := by
  rcases h with h | ⟨n, h1, h2, h3⟩
  · exact .inl h
  · exact .inr ⟨n, ty_same S h1, h2, sameK_same S h3⟩
theorem RowsV.same {H H' : Hp} {r : Addr} {rs : List (V × V)} (S : Same H H') (h : RowsV H r rs) : RowsV H' r rs := by
  obtain ⟨ps, h1, h2, h3⟩ := h
  refine ⟨ps, S _ _ h1, h2, fun i p e => ?_⟩
  obtain ⟨n, k, e1, e2⟩ := h3 i p e
  exact ⟨n, k, e1, S _ _ e2⟩
theorem fault_mem : ∀ {rs : List (V × V)} {ah : List V} {x : V}, faultOf rs ah = some x → ∃ y ∈ rs, x = y.1 ∨ x = y.2
  | [], _, _, h => by cases h
  | (n, k) :: r, ah, x, h => by
    unfold faultOf at h
    split at h
    · cases h; exact ⟨(n, k), by simp, .inl rfl⟩
    · split at h
      · cases h; exact ⟨(n, k), by simp, .inr rfl⟩
      · obtain ⟨y, hy, z⟩ := fault_mem h
        exact ⟨y, by simp [hy], z⟩
noncomputable def Faulty (K : PySem.W.Frag) (H : Hp) (r : Addr) (x : V) : Prop := ∃ rs, RowsV H r rs ∧ rs.length ≤ 6 ∧ (∀ y ∈ rs, VOk K H y.1 ∧ VOk K H y.2) ∧ faultOf rs [] = some x
noncomputable def Long (H : Hp) (r : Addr) (n : Nat) : Prop := ∃ rs, RowsV H r rs ∧ rs.length = n ∧ 6 < n
theorem made_same {c a dx : Addr} {H H' : Hp} (h1 : H a = none) (h2 : H dx = none) (hB : But a (L2.upd (L2.upd H dx (.own a)) a (.ins c dx [])) H') : Same H H' := fun b o e => by
  have n1 := ne_of_none e h1
  have n2 := ne_of_none e h2
  exact hB b o n1 (by rw [upd_ne n1, upd_ne n2]; exact e)
theorem made_up {c a dx : Addr} {H : Hp} (h1 : H a = none) (h2 : H dx = none) : Same H (L2.upd (L2.upd H dx (.own a)) a (.ins c dx [])) := fun b o e => by rw [upd_ne (ne_of_none e h1), upd_ne (ne_of_none e h2)]; exact e
theorem kind_at {K : PySem.W.Frag} {H H' : Hp} {l : Addr} {v : V} {n : Nm} (hx : ∀ b, v = .ref b → b ≠ l) (B : But l H H') (h : KindIs K H v n) : KindIs K H' v n := by
  unfold KindIs at *
  generalize hu : Value.type (Nm.s n) = u at h ⊢
  cases h with
  | non => exact .non
  | bl x => exact .bl x
  | int i => exact .int i
  | str x => exact .str x
  | flt x => exact .flt x
  | lst e => exact .lst (B _ _ (hx _ rfl) e)
  | frz e => exact .frz (B _ _ (hx _ rfl) e)
  | tup e => exact .tup (B _ _ (hx _ rfl) e)
  | dK e => exact .dK (B _ _ (hx _ rfl) e)
  | dT e => exact .dT (B _ _ (hx _ rfl) e)
  | ins => cases hu
theorem VOk.at {K : PySem.W.Frag} {H H' : Hp} {l : Addr} {x : V} (hx : ∀ b, x = .ref b → b ≠ l) (B : But l H H') (h : VOk K H x) : VOk K H' x := by
  rcases h with h | ⟨n, h1, h2, h3⟩
  · exact .inl h
  · refine .inr ⟨n, kind_at hx B h1, h2, ?_⟩
    cases x with
    | ref a =>
      have na := hx a rfl
      rcases h3 with ⟨xs, e⟩ | ⟨xs, e⟩ | e
      · exact .inl ⟨xs, B _ _ na e⟩
      · exact .inr (.inl ⟨xs, B _ _ na e⟩)
      · exact .inr (.inr (B _ _ na e))
    | _ => exact h3
theorem VOk.ne {K : PySem.W.Frag} {H : Hp} {l : Addr} {x : V} (h : VOk K H x) (hl : H l = none) : ∀ b, x = .ref b → b ≠ l := fun b e z => by
  subst e; subst z
  rcases h with ⟨s, e, _⟩ | ⟨n, _, _, h3⟩
  · cases e
  · rcases h3 with ⟨xs, e⟩ | ⟨xs, e⟩ | e <;> (rw [hl] at e; cases e)
noncomputable def sp_L_refused (K : PySem.W.Frag) : Sp := fun vs H Q _ => ∃ r x, vs = [.ref r, x] ∧ Faulty K H r x ∧ ∀ H', Same H H' → Q (.bl true) H'
noncomputable def sp_L_too_many (_K : PySem.W.Frag) : Sp := fun vs H Q _ => ∃ r n, vs = [.ref r] ∧ Long H r n ∧ ∀ H', Same H H' → Q (.bl true) H'
noncomputable def sp_L_by_base (K : PySem.W.Frag) : Sp := fun vs H Q _ => ∃ r, vs = [.ref r] ∧ ((∃ x, Faulty K H r x) ∨ ∃ n, Long H r n) ∧ ∀ H', Same H H' → Q (.bl true) H'
noncomputable def sp_L_odd (K : PySem.W.Frag) : Sp := fun vs H Q _ => ∃ c : Int, vs = [.int c] ∧ ∀ v H', Same H H' → VOk K H' v → gv v = false → (∀ b, v = .ref b → H b = none) → Q v H'
noncomputable def sp_L_good (K : PySem.W.Frag) : Sp := fun vs H Q _ => ∃ x, vs = [x] ∧ VOk K H x ∧ ∀ H', Same H H' → Q (.bl (gv x)) H'
section
variable {P : Program} {w : World} {K : PySem.W.Frag} {mg : Str → Option Value} {base : Heap}
variable {c_Stock c_NoName c_TooMany DH : Addr}
theorem hunits {k : Nat} {A : Around} (r : RoomH k A) : A.units < cLine := by have := r.un; omega
theorem fs_none {d1 d2 : Addr} {f : Str} (h1 : f ≠ "numbers") (h2 : f ≠ "kinds") : (fsStock d1 d2).lookup f = none := by
  unfold fsStock
  rw [lookup_putF, if_neg h2, lookup_putF, if_neg h1]; rfl
theorem ok_L_other {C : Addr} {nm fld oth : Str} {f : Addr} {fd : FuncData} (F : Fun K "_law_other" "_law_other" s_L_other f fd) (m_self : mg "_law_other" = some (.ref f)) (m_isinstance : mg "isinstance" = none) (Z : ClX K mg C DH nm fld oth) : DefH P w K mg base 1 "_law_other" ["_law_e"] (sp_L_other K C) := by
  obtain ⟨d_NoBid, C_NoBid, k_NoBid⟩ := Z.nNoBid
  obtain ⟨d_NoBundle, C_NoBundle, k_NoBundle⟩ := Z.nNoBundle
  obtain ⟨d_NoNumber, C_NoNumber, k_NoNumber⟩ := Z.nNoNumber
  obtain ⟨d_NoPaper, C_NoPaper, k_NoPaper⟩ := Z.nNoPaper
  obtain ⟨d_NoRow, C_NoRow, k_NoRow⟩ := Z.nNoRow
  obtain ⟨d_BadStep, C_BadStep, k_BadStep⟩ := Z.nBadStep
  obtain ⟨d_NoText, C_NoText, k_NoText⟩ := Z.nNoText
  obtain ⟨d_TooLate, C_TooLate, k_TooLate⟩ := Z.nTooLate
  refine F.def_H m_self (F.binds (ps := ["_law_e"]) fun _ _ _ _ _ _ us hl => match us, hl with | [_], _ => rfl) sc_L_other (fun vs H Q E h => ?_) (fun cdv A outer s H vs Q E hr h => ?_)
  · obtain ⟨a, dx, rfl, _⟩ := h; rfl
  obtain ⟨a, dx, rfl, ha, q⟩ := h
  have kA : PySem.W.kitAny K (.ref C) ([d_NoBid, d_NoBundle, d_NoNumber, d_NoPaper, d_NoRow].map Value.ref) = some false := by simp only [List.map, PySem.W.kitAny, k_NoBid, k_NoBundle, k_NoNumber, k_NoPaper, k_NoRow]
  have kB : PySem.W.kitAny K (.ref C) ([d_BadStep, d_NoText, d_TooLate].map Value.ref) = some false := by simp only [List.map, PySem.W.kitAny, k_BadStep, k_NoText, k_TooLate]
  refine ⟨_, (R.pss_cons (R.ps_if (R.pt_val (R.pe_isOTD rfl m_isinstance (R.pv 0) (R.pe_tup (R.pa_c (R.pe_cls rfl C_NoBid) (R.pa_c (R.pe_cls rfl C_NoBundle) (R.pa_c (R.pe_cls rfl C_NoNumber) (R.pa_c (R.pe_cls rfl C_NoPaper) (R.pa_c (R.pe_cls rfl C_NoRow) R.pa_nil)))))))) (R.pss_one (R.ps_ret R.pe_bl)) R.pss_nil)
    (R.pss_one (R.ps_ret (R.pe_isOTD rfl m_isinstance (R.pv 0) (R.pe_tup (R.pa_c (R.pe_cls rfl C_BadStep) (R.pa_c (R.pe_cls rfl C_NoText) (R.pa_c (R.pe_cls rfl C_TooLate) R.pa_nil)))))))), ?_⟩
  refine ⟨_, rfl, (by show 5 ≤ sizeLine; decide), fun p hp => ⟨a, p, C, dx, [d_NoBid, d_NoBundle, d_NoNumber, d_NoPaper, d_NoRow], false, rfl, same_new hp _ _ _ ha, upd_same, Z.exk, kA, _, rfl, iteF ?_⟩⟩
  have s1 := same_new hp (.tup ([d_NoBid, d_NoBundle, d_NoNumber, d_NoPaper, d_NoRow].map V.ref))
  exact ⟨_, rfl, (by show 3 ≤ sizeLine; decide), fun p2 hp2 => ⟨a, p2, C, dx, [d_BadStep, d_NoText, d_TooLate], false, rfl, same_new hp2 _ _ _ (s1 _ _ ha), upd_same, Z.exk, kB, q _ (s1.trans (same_new hp2 _))⟩⟩
theorem ok_L_same {f : Addr} {fd : FuncData} (F : Fun K "_law_same" "_law_same" s_L_same f fd) (m_self : mg "_law_same" = some (.ref f)) (m_isinstance : mg "isinstance" = none) (m_bool : mg "bool" = none) : DefH P w K mg base 1 "_law_same" ["_law_one", "_law_other_here"] (sp_L_same K) := by
  refine F.def_H m_self (F.binds (ps := ["_law_one", "_law_other_here"]) fun _ _ _ _ _ _ us hl => match us, hl with | [_, _], _ => rfl) sc_L_same (fun vs H Q E h => ?_) (fun cdv A outer s H vs Q E hr h => ?_)
  · obtain ⟨x, n, rfl, _⟩ := h; rfl
  obtain ⟨x, n, rfl, hk, hs, q⟩ := h
  refine ⟨_, (R.pss_one (R.ps_ret (R.pe_and (R.pe_cmpR op_eq (R.pe_isi .bl rfl m_isinstance rfl m_bool (R.pv 0)) (R.pe_isi .bl rfl m_isinstance rfl m_bool (R.pv 1)) (nomark _)) (R.pe_one (R.pe_cmpR (op_eqSame (hunits hr)) (R.pv 0) (R.pv 1) (nomark _)))))), ?_⟩
  refine ⟨_, rfl, x, n, rfl, hk, _, rfl, x, n, rfl, hk, rfl, _, rfl, ?_⟩
  rw [decide_eq_true rfl]
  exact iteT ⟨_, rfl, _, rfl, rfl, hs, q⟩
theorem ok_L_refused {f : Addr} {fd : FuncData} (F : Fun K "_law_refused" "_law_refused" s_L_refused f fd) (m_self : mg "_law_refused" = some (.ref f)) (m_isinstance : mg "isinstance" = none) (m_ValueError : mg "ValueError" = none)
    (D_L_other : DefH P w K mg base 1 "_law_other" ["_law_e"] (sp_L_other K c_NoName)) (D_L_same : DefH P w K mg base 1 "_law_same" ["_law_one", "_law_other_here"] (sp_L_same K))
    (MX_Stock : MakeX P w K mg base 4 "Stock" c_Stock c_NoName ["self", "rows"] (spN_init K c_Stock)) (Z : ClX K mg c_NoName DH "NoName" "name" "TooMany") :
    DefOk P w K mg base 6 "_law_refused" ["_law_rows", "_law_fault_here"] [] (sp_L_refused K) := by
  have C_HallError := Z.hall
  have C_NoName := Z.self
  have Z_NoName := Z.exd
  obtain ⟨d_oth, C_oth, k_oth⟩ := Z.noth
  refine F.def_okQ m_self (bnd2 F fun _ _ _ _ _ _ _ _ => rfl) sc_L_refused (fun vs H Q E h => ?_) (fun cdv A outer s H vs Q E hr h => ?_)
  · obtain ⟨r, x, rfl, _⟩ := h; rfl
  obtain ⟨r, x, rfl, ⟨rs, hR, hm, hv, hx⟩, q⟩ := h
  refine ⟨_, (R.pss_cons (R.ps_tryD (i := 2) (R.pb_expr (R.px_make MX_Stock hr (by decide) rfl (R.pa_c (R.pv 0) R.pa_nil))) rfl C_NoName Z_NoName sc_L_refused.nd rfl rfl rfl rfl (fun v => (R.pss_cons (R.ps_set (i := 3) sc_L_refused.nd rfl (Or.inl rfl) (R.pe_and (R.pe_isOD rfl m_isinstance rfl C_HallError (R.pv 2)) (R.pe_and (R.pe_isTD rfl m_isinstance rfl m_ValueError boot_ValueError (R.pv 2)) (R.pe_one (R.pe_not (R.pe_callH D_L_other (markH hr (by decide)) rfl (R.pa_c (R.pv 2) R.pa_nil)))))))
      (R.pss_one (R.ps_ret (R.pe_and (R.pv 3) (R.pe_and (R.pe_not (R.pe_isOD rfl m_isinstance rfl C_oth (R.pv 2))) (R.pe_one (R.pe_callH D_L_same (markH hr (by decide)) rfl (R.pa_c (R.pe_fldE K (R.pv 2)) (R.pa_c (R.pv 1) R.pa_nil)))))))))))
    (R.pss_one (R.ps_ret R.pe_bl))), ?_⟩
  obtain ⟨n, hk, hs⟩ : ∃ n, KindIs K H x n ∧ SameK H x := by
    obtain ⟨y, hy, rfl | rfl⟩ := fault_mem hx
    · exact (hv y hy).1.kind
    · exact (hv y hy).2.kind
  refine ⟨_, rfl, fun st dx0 hst hdx hne => ⟨st, dx0, r, rs, x, rfl, upd_same, hR.same (made_up hst hdx), hm, fun y hy => ⟨(hv y hy).1.same (made_up hst hdx), (hv y hy).2.same (made_up hst hdx)⟩, hx, fun H1 a dx hB n1 n2 n3 => ⟨a, dx, rfl, rfl, Z.slf, ?_⟩⟩⟩
  have s1 := made_same hst hdx hB
  have e : upd (upd H1 dx (.xd [("name", x)])) a (excDO a c_NoName dx) a = some (excDO a c_NoName dx) := upd_same
  have ed : upd (upd H1 dx (.xd [("name", x)])) a (excDO a c_NoName dx) dx = some (.xd [("name", x)]) := by rw [upd_ne n3, upd_same]
  have s2 : Same H (upd (upd H1 dx (.xd [("name", x)])) a (excDO a c_NoName dx)) := (s1.trans (same_new n2 _)).trans (same_new (by rw [upd_ne (Ne.symm n3)]; exact n1) _)
  refine ⟨_, rfl, a, _, dx, true, rfl, e, Z.exk, Z.halk, _, rfl, iteT ⟨_, rfl, a, _, dx, true, rfl, e, Z.exk, Z.val, _, rfl, iteT ⟨_, rfl, a, dx, rfl, e, fun H3 s3 => ⟨_, rfl, ?_⟩⟩⟩⟩
  refine ⟨_, rfl, _, rfl, iteT ⟨_, rfl, a, _, dx, false, rfl, s3 _ _ e, Z.exk, k_oth, _, rfl, _, rfl, iteT ?_⟩⟩
  exact ⟨_, rfl, a, _, dx, _, x, rfl, s3 _ _ e, s3 _ _ ed, Z.rd, rfl, _, rfl, x, n, rfl, ty_same (s2.trans s3) hk, sameK_same (s2.trans s3) hs, q _ (s2.trans s3)⟩
theorem ok_L_too_many {f : Addr} {fd : FuncData} (F : Fun K "_law_too_many" "_law_too_many" s_L_too_many f fd) (m_self : mg "_law_too_many" = some (.ref f)) (m_isinstance : mg "isinstance" = none) (m_ValueError : mg "ValueError" = none) (m_len : mg "len" = none)
    (D_L_other : DefH P w K mg base 1 "_law_other" ["_law_e"] (sp_L_other K c_TooMany)) (D_L_same : DefH P w K mg base 1 "_law_same" ["_law_one", "_law_other_here"] (sp_L_same K))
    (MX_Stock : MakeX P w K mg base 4 "Stock" c_Stock c_TooMany ["self", "rows"] (spT_init K c_Stock)) (Z : ClX K mg c_TooMany DH "TooMany" "number" "NoName") :
    DefOk P w K mg base 6 "_law_too_many" ["_law_rows"] [] (sp_L_too_many K) := by
  have C_HallError := Z.hall
  have C_TooMany := Z.self
  have Z_TooMany := Z.exd
  obtain ⟨d_oth, C_oth, k_oth⟩ := Z.noth
  refine F.def_okQ m_self (bnd1 F fun _ _ _ _ _ _ _ => rfl) sc_L_too_many (fun vs H Q E h => ?_) (fun cdv A outer s H vs Q E hr h => ?_)
  · obtain ⟨r, n, rfl, _⟩ := h; rfl
  obtain ⟨r, n, rfl, ⟨rs, hR, hn, hm⟩, q⟩ := h
  refine ⟨_, (R.pss_cons (R.ps_tryD (i := 1) (R.pb_expr (R.px_make MX_Stock hr (by decide) rfl (R.pa_c (R.pv 0) R.pa_nil))) rfl C_TooMany Z_TooMany sc_L_too_many.nd rfl rfl rfl rfl (fun v => (R.pss_cons (R.ps_set (i := 2) sc_L_too_many.nd rfl (Or.inl rfl) (R.pe_and (R.pe_isOD rfl m_isinstance rfl C_HallError (R.pv 1)) (R.pe_and (R.pe_isTD rfl m_isinstance rfl m_ValueError boot_ValueError (R.pv 1)) (R.pe_one (R.pe_not (R.pe_callH D_L_other (markH hr (by decide)) rfl (R.pa_c (R.pv 1) R.pa_nil)))))))
      (R.pss_one (R.ps_ret (R.pe_and (R.pv 2) (R.pe_and (R.pe_not (R.pe_isOD rfl m_isinstance rfl C_oth (R.pv 1))) (R.pe_one (R.pe_callH D_L_same (markH hr (by decide)) rfl (R.pa_c (R.pe_fldE K (R.pv 1)) (R.pa_c (R.pe_cB call_len_seq rfl m_len PySem.boot_len (R.pa_c (R.pv 0) R.pa_nil)) R.pa_nil)))))))))))
    (R.pss_one (R.ps_ret R.pe_bl))), ?_⟩
  obtain ⟨ps, hr0, hps, _⟩ := id hR
  refine ⟨_, rfl, fun st dx0 hst hdx hne => ⟨st, dx0, r, rs, rfl, upd_same, hR.same (made_up hst hdx), by omega, fun H1 a dx hB n1 n2 n3 => ⟨a, dx, rfl, rfl, Z.slf, ?_⟩⟩⟩
  have s1 := made_same hst hdx hB
  have e : upd (upd H1 dx (.xd [("number", .int (rs.length : Nat))])) a (excDO a c_TooMany dx) a = some (excDO a c_TooMany dx) := upd_same
  have ed : upd (upd H1 dx (.xd [("number", .int (rs.length : Nat))])) a (excDO a c_TooMany dx) dx = some (.xd [("number", .int (rs.length : Nat))]) := by rw [upd_ne n3, upd_same]
  have s2 : Same H (upd (upd H1 dx (.xd [("number", .int (rs.length : Nat))])) a (excDO a c_TooMany dx)) := (s1.trans (same_new n2 _)).trans (same_new (by rw [upd_ne (Ne.symm n3)]; exact n1) _)
  refine ⟨_, rfl, a, _, dx, true, rfl, e, Z.exk, Z.halk, _, rfl, iteT ⟨_, rfl, a, _, dx, true, rfl, e, Z.exk, Z.val, _, rfl, iteT ⟨_, rfl, a, dx, rfl, e, fun H3 s3 => ⟨_, rfl, ?_⟩⟩⟩⟩
  refine ⟨_, rfl, _, rfl, iteT ⟨_, rfl, a, _, dx, false, rfl, s3 _ _ e, Z.exk, k_oth, _, rfl, _, rfl, iteT ?_⟩⟩
  refine ⟨_, rfl, a, _, dx, _, .int (rs.length : Nat), rfl, s3 _ _ e, s3 _ _ ed, Z.rd, rfl, _, rfl, r, _, rfl, .inl (SqL.of ((s2.trans s3) _ _ hr0)), .int (rs.length : Nat), .int, ?_, .int _, trivial, q _ (s2.trans s3)⟩
  rw [List.length_map, hps]; rfl
theorem ok_L_by_base {f : Addr} {fd : FuncData} (F : Fun K "_law_by_base" "_law_by_base" s_L_by_base f fd) (m_self : mg "_law_by_base" = some (.ref f))
    (MXN : MakeX P w K mg base 4 "Stock" c_Stock c_NoName ["self", "rows"] (spN_init K c_Stock)) (MXT : MakeX P w K mg base 4 "Stock" c_Stock c_TooMany ["self", "rows"] (spT_init K c_Stock))
    (ZN : ClX K mg c_NoName DH "NoName" "name" "TooMany") (ZT : ClX K mg c_TooMany DH "TooMany" "number" "NoName") : DefOk P w K mg base 6 "_law_by_base" ["_law_rows"] [] (sp_L_by_base K) := by
  have C_HallError := ZN.hall
  have Z_HallError := ZN.hexd
  refine F.def_okQ m_self (bnd1 F fun _ _ _ _ _ _ _ => rfl) sc_L_by_base (fun vs H Q E h => ?_) (fun cdv A outer s H vs Q E hr h => ?_)
  · obtain ⟨r, rfl, _⟩ := h; rfl
  obtain ⟨r, rfl, h, q⟩ := h
  rcases h with ⟨x, rs, hR, hm, hv, hx⟩ | ⟨n, rs, hR, hn, hm⟩
  · have MX_Stock := MXN
    refine ⟨_, (R.pss_cons (R.ps_tryD0 (R.pb_expr (R.px_make MX_Stock hr (by decide) rfl (R.pa_c (R.pv 0) R.pa_nil))) rfl C_HallError Z_HallError rfl rfl (fun v => (R.pss_one (R.ps_ret R.pe_bl))))
    (R.pss_one (R.ps_ret R.pe_bl))), ?_⟩
    refine ⟨_, rfl, fun st dx0 hst hdx hne => ⟨st, dx0, r, rs, x, rfl, upd_same, hR.same (made_up hst hdx), hm, fun y hy => ⟨(hv y hy).1.same (made_up hst hdx), (hv y hy).2.same (made_up hst hdx)⟩, hx, fun H1 a dx hB n1 n2 n3 => ⟨a, dx, rfl, rfl, ZN.hmro, ?_⟩⟩⟩
    exact q _ (((made_same hst hdx hB).trans (same_new n2 _)).trans (same_new (by rw [upd_ne (Ne.symm n3)]; exact n1) _))
  · have MX_Stock := MXT
    refine ⟨_, (R.pss_cons (R.ps_tryD0 (R.pb_expr (R.px_make MX_Stock hr (by decide) rfl (R.pa_c (R.pv 0) R.pa_nil))) rfl C_HallError Z_HallError rfl rfl (fun v => (R.pss_one (R.ps_ret R.pe_bl))))
    (R.pss_one (R.ps_ret R.pe_bl))), ?_⟩
    refine ⟨_, rfl, fun st dx0 hst hdx hne => ⟨st, dx0, r, rs, rfl, upd_same, hR.same (made_up hst hdx), by omega, fun H1 a dx hB n1 n2 n3 => ⟨a, dx, rfl, rfl, ZT.hmro, ?_⟩⟩⟩
    exact q _ (((made_same hst hdx hB).trans (same_new n2 _)).trans (same_new (by rw [upd_ne (Ne.symm n3)]; exact n1) _))
end
end My


set_option Elab.async false
set_option linter.all false
set_option maxRecDepth 100000
set_option maxHeartbeats 4000000
namespace My
open PySem PySem.Spec PyProof.Rows L2 GM
section
variable {P : Program} {w : World} {K : PySem.W.Frag} {mg : Str → Option Value} {base : Heap}
variable {c_Stock c_NoName c_TooMany DH : Addr}
theorem let_in : ∀ c, c < 128 → (Builtin.Str.occurrences (Str.ofString "abcdefghijklmnopqrstuvwxyz") (tx [c]) 0 26 1).isEmpty = !(decide (97 ≤ c) && decide (c ≤ 122)) := by decide +kernel
theorem bad_lit {K : PySem.W.Frag} {H : Hp} (x : Str) (h1 : asc x.cps.toList = true) (h2 : nameOk x.cps.toList = false) (h3 : x.cps.toList.length ≤ 1000) : VOk K H (.str x) ∧ gv (.str x) = false := ⟨.inl ⟨x.cps.toList, congrArg V.str (tx_of x), h1, h3⟩, h2⟩
theorem ok_L_odd {f : Addr} {fd : FuncData} (F : Fun K "_law_odd" "_law_odd" s_L_odd f fd) (m_self : mg "_law_odd" = some (.ref f)) : DefOk P w K mg base 1 "_law_odd" ["_law_cell_here"] [] (sp_L_odd K) := by
  refine F.def_okQ m_self (bnd1 F fun _ _ _ _ _ _ _ => rfl) sc_L_odd (fun vs H Q E h => ?_) (fun cdv A outer s H vs Q E hr h => ?_)
  · obtain ⟨c, rfl, _⟩ := h; rfl
  obtain ⟨c, rfl, q⟩ := h
  refine ⟨_, (R.pss_cons (R.ps_set (i := 1) sc_L_odd.nd rfl (Or.inl rfl) (R.pe_lst (R.pa_c R.pe_str (R.pa_c R.pe_str (R.pa_c R.pe_str (R.pa_c R.pe_str (R.pa_c R.pe_str (R.pa_c R.pe_str (R.pa_c R.pe_str (R.pa_c R.pe_str (R.pa_c R.pe_str (R.pa_c R.pe_str (R.pa_c R.pe_str (R.pa_c R.pe_str (R.pa_c R.pe_str (R.pa_c (R.pe_op op_mul_str R.pe_str R.pe_int) R.pa_nil))))))))))))))))
    (R.pss_cons (R.ps_set (i := 1) sc_L_odd.nd rfl (Or.inl rfl) (R.pe_op op_cat (R.pv 1) (R.pe_lst (R.pa_c R.pe_non (R.pa_c R.pe_int (R.pa_c R.pe_bl (R.pa_c (R.pe_lst (R.pa_c R.pe_str R.pa_nil)) (R.pa_c (R.pe_tup (R.pa_c R.pe_str R.pa_nil)) (R.pa_c R.pe_dnewK (R.pa_c R.pe_int (R.pa_c R.pe_bl R.pa_nil)))))))))))
    (R.pss_one (R.ps_ret (R.pe_ix (R.ixL K) (R.pv 1) (R.pe_op (opE op_mod) (R.pv 0) R.pe_int) (fun _ _ => rfl)))))), ?_⟩
  refine ⟨Str.ofString "a", 60, rfl, rfl, by decide, by decide, by decide, by decide, (by show 14 ≤ sizeLine; decide), fun p1 hp1 => ?_⟩
  refine ⟨_, rfl, (by show 1 ≤ sizeLine; decide), fun p2 hp2 => ⟨(by show 1 ≤ sizeLine; decide), fun p3 hp3 p4 hp4 => ⟨(by show 8 ≤ sizeLine; decide), fun p5 hp5 => ?_⟩⟩⟩
  have s2 := same_new hp2 (.lst [V.str "a"])
  have s3 := same_new hp3 (.tup [V.str "a"])
  have s4 := same_new hp4 (.dK [])
  have s5 := same_new hp5 (.lst [V.non, V.int 5, V.bl true, V.ref p2, V.ref p3, V.ref p4, V.int 0, V.bl false])
  refine ⟨p1, p5, _, _, rfl, rfl, (((s2.trans s3).trans s4).trans s5) _ _ upd_same, upd_same, (by show 14 + 8 ≤ sizeLine; decide), fun p6 hp6 => ?_⟩
  have s6 := same_new hp6 (.lst ([V.str "", V.str "abcdefghi", V.str "A", V.str "aB", V.str "a b", V.str "a1", V.str "a+b", V.str "=a", V.str "a
", V.str " ", V.str "1", V.str "abcdefgh ", V.str "a-", V.str ⟨(List.replicate (Int.toNat 60) (Str.ofString "a").cps).foldl (· ++ ·) #[]⟩] ++ [V.non, V.int 5, V.bl true, V.ref p2, V.ref p3, V.ref p4, V.int 0, V.bl false]))
  have g2 := (((s3.trans s4).trans s5).trans s6) _ _ upd_same
  have g3 := ((s4.trans s5).trans s6) _ _ upd_same
  have g4 := (s5.trans s6) _ _ upd_same
  have sAll := (((((same_new hp1 (.lst [V.str "", V.str "abcdefghi", V.str "A", V.str "aB", V.str "a b", V.str "a1", V.str "a+b", V.str "=a", V.str "a
", V.str " ", V.str "1", V.str "abcdefgh ", V.str "a-", V.str ⟨(List.replicate (Int.toNat 60) (Str.ofString "a").cps).foldl (· ++ ·) #[]⟩])).trans s2).trans s3).trans s4).trans s5).trans s6
  obtain ⟨v, hv, hv22⟩ := modn c 22 (by decide)
  have t1 := same_new hp1 (.lst [V.str "", V.str "abcdefghi", V.str "A", V.str "aB", V.str "a b", V.str "a1", V.str "a+b", V.str "=a", V.str "a\n", V.str " ", V.str "1", V.str "abcdefgh ", V.str "a-", V.str ⟨(List.replicate (Int.toNat 60) (Str.ofString "a").cps).foldl (· ++ ·) #[]⟩])
  obtain ⟨y, hy, hok, hg, hfr⟩ : ∃ y, ([V.str "", V.str "abcdefghi", V.str "A", V.str "aB", V.str "a b", V.str "a1", V.str "a+b", V.str "=a", V.str "a
", V.str " ", V.str "1", V.str "abcdefgh ", V.str "a-", V.str ⟨(List.replicate (Int.toNat 60) (Str.ofString "a").cps).foldl (· ++ ·) #[]⟩] ++ [V.non, V.int 5, V.bl true, V.ref p2, V.ref p3, V.ref p4, V.int 0, V.bl false])[v]? = some y ∧ (∀ Hf : Hp, Hf p2 = some (.lst [V.str "a"]) → Hf p3 = some (.tup [V.str "a"]) → Hf p4 = some (.dK []) → VOk K Hf y) ∧ gv y = false ∧ (∀ b, y = .ref b → H b = none) := by
    match v, hv22 with
    | 0, _ => exact ⟨_, rfl, fun Hf _ _ _ => (bad_lit "" (by decide) (by decide) (by decide)).1, by decide, fun b e => nomatch e⟩
    | 1, _ => exact ⟨_, rfl, fun Hf _ _ _ => (bad_lit "abcdefghi" (by decide) (by decide) (by decide)).1, by decide, fun b e => nomatch e⟩
    | 2, _ => exact ⟨_, rfl, fun Hf _ _ _ => (bad_lit "A" (by decide) (by decide) (by decide)).1, by decide, fun b e => nomatch e⟩
    | 3, _ => exact ⟨_, rfl, fun Hf _ _ _ => (bad_lit "aB" (by decide) (by decide) (by decide)).1, by decide, fun b e => nomatch e⟩
    | 4, _ => exact ⟨_, rfl, fun Hf _ _ _ => (bad_lit "a b" (by decide) (by decide) (by decide)).1, by decide, fun b e => nomatch e⟩
    | 5, _ => exact ⟨_, rfl, fun Hf _ _ _ => (bad_lit "a1" (by decide) (by decide) (by decide)).1, by decide, fun b e => nomatch e⟩
    | 6, _ => exact ⟨_, rfl, fun Hf _ _ _ => (bad_lit "a+b" (by decide) (by decide) (by decide)).1, by decide, fun b e => nomatch e⟩
    | 7, _ => exact ⟨_, rfl, fun Hf _ _ _ => (bad_lit "=a" (by decide) (by decide) (by decide)).1, by decide, fun b e => nomatch e⟩
    | 8, _ => exact ⟨_, rfl, fun Hf _ _ _ => (bad_lit "a\n" (by decide) (by decide) (by decide)).1, by decide, fun b e => nomatch e⟩
    | 9, _ => exact ⟨_, rfl, fun Hf _ _ _ => (bad_lit " " (by decide) (by decide) (by decide)).1, by decide, fun b e => nomatch e⟩
    | 10, _ => exact ⟨_, rfl, fun Hf _ _ _ => (bad_lit "1" (by decide) (by decide) (by decide)).1, by decide, fun b e => nomatch e⟩
    | 11, _ => exact ⟨_, rfl, fun Hf _ _ _ => (bad_lit "abcdefgh " (by decide) (by decide) (by decide)).1, by decide, fun b e => nomatch e⟩
    | 12, _ => exact ⟨_, rfl, fun Hf _ _ _ => (bad_lit "a-" (by decide) (by decide) (by decide)).1, by decide, fun b e => nomatch e⟩
    | 13, _ => exact ⟨_, rfl, fun Hf _ _ _ => (bad_lit _ (by decide +kernel) (by decide +kernel) (by decide +kernel)).1, by decide +kernel, fun b e => nomatch e⟩
    | 14, _ => exact ⟨_, rfl, fun Hf _ _ _ => .inr ⟨.non, .non, by decide, trivial⟩, rfl, fun b e => nomatch e⟩
    | 15, _ => exact ⟨_, rfl, fun Hf _ _ _ => .inr ⟨.int, .int _, by decide, trivial⟩, rfl, fun b e => nomatch e⟩
    | 16, _ => exact ⟨_, rfl, fun Hf _ _ _ => .inr ⟨.bl, .bl _, by decide, trivial⟩, rfl, fun b e => nomatch e⟩
    | 17, _ => exact ⟨_, rfl, fun Hf g2 _ _ => .inr ⟨.lst, .lst g2, by decide, .inl ⟨_, g2⟩⟩, rfl, fun b e => by cases e; exact sback t1 hp2⟩
    | 18, _ => exact ⟨_, rfl, fun Hf _ g3 _ => .inr ⟨.tup, .tup g3, by decide, .inr (.inl ⟨_, g3⟩)⟩, rfl, fun b e => by cases e; exact sback (t1.trans s2) hp3⟩
    | 19, _ => exact ⟨_, rfl, fun Hf _ _ g4 => .inr ⟨.dct, .dK g4, by decide, .inr (.inr g4)⟩, rfl, fun b e => by cases e; exact sback ((t1.trans s2).trans s3) hp4⟩
    | 20, _ => exact ⟨_, rfl, fun Hf _ _ _ => .inr ⟨.int, .int _, by decide, trivial⟩, rfl, fun b e => nomatch e⟩
    | 21, _ => exact ⟨_, rfl, fun Hf _ _ _ => .inr ⟨.bl, .bl _, by decide, trivial⟩, rfl, fun b e => nomatch e⟩
    | v + 22, h => exact absurd h (by omega)
  exact ⟨_, rfl, _, rfl, _, _, nv v, rfl, rfl, (by show (0 : Int) < 22; decide), congrArg V.int hv, p6, _, _, y, rfl, rfl, SqL.of upd_same, atI_nat hy, q y _ sAll (hok _ g2 g3 g4) hg hfr⟩
theorem ok_L_good {f : Addr} {fd : FuncData} (F : Fun K "_law_good" "_law_good" s_L_good f fd) (m_self : mg "_law_good" = some (.ref f)) (m_isinstance : mg "isinstance" = none) (m_str : mg "str" = none) (m_len : mg "len" = none) : DefOk P w K mg base 1 "_law_good" ["_law_thing"] [] (sp_L_good K) := by
  refine F.def_okQ m_self (bnd1 F fun _ _ _ _ _ _ _ => rfl) sc_L_good (fun vs H Q E h => ?_) (fun cdv A outer s H vs Q E hr h => ?_)
  · obtain ⟨x, rfl, _⟩ := h; rfl
  obtain ⟨x, rfl, hv, q⟩ := h
  refine ⟨_, (R.pss_cons (R.ps_if (R.pt (R.pw_or (R.pt_not (R.pt_val (R.pe_isi .str rfl m_isinstance rfl m_str (R.pv 0)))) (R.pw_or (R.pt_cmpR op_eq (R.pe_cB call_len_str rfl m_len PySem.boot_len (R.pa_c (R.pv 0) R.pa_nil)) R.pe_int (nomark _)) (R.pw_or1 (R.pt_cmpR op_gt (R.pe_cB call_len_str rfl m_len PySem.boot_len (R.pa_c (R.pv 0) R.pa_nil)) R.pe_int (nomark _)))))) (R.pss_one (R.ps_ret R.pe_bl)) R.pss_nil)
    (R.pss_one (R.ps_ret (R.pe_cmpR (op_eqS hr.units0) (R.pe_comp (defScope s_L_good) ["_law_thing"] ["_law_sign"] [] [] rfl rfl rfl ⟨s.heap.objs.size + 1, rfl⟩ rfl rfl (by decide +kernel) (R.pi_str (R.pv 0)) (fun C s2 H2 fp => (R.pg_name (i := 0) (show List.Nodup (["_law_sign"] : List Str) from by decide +kernel) rfl (Or.inl rfl))) (fun C s2 H2 fp => (R.pf_one (R.pt_cmpR op_notin_str (R.pv 0) R.pe_str (by with_unfolding_all rfl)))) (fun C s2 H2 fp => (R.pv 0))) (R.pe_lst R.pa_nil) (nomark _))))), ?_⟩
  rcases hv with ⟨l, rfl, hA, hz⟩ | ⟨n, hk, hn, _⟩
  · have e0 : ((tx l).length : Int) = (l.length : Int) := by rw [tx_len]
    have eg := gv_sv l
    refine ⟨_, rfl, sv l, .str, rfl, .str _, _, rfl, iteF ⟨_, rfl, tx l, rfl, len_le hz, rfl, _, rfl, ite2 (fun c => ?_) (fun c => ?_)⟩⟩
    · have c1 : V.int ((tx l).length : Int) = V.int 0 := of_decide_eq_true c
      have c2 : ((tx l).length : Int) = 0 := V.int.inj c1
      have z := q H (Same.refl _)
      have e : nameOk l = false := by unfold nameOk; rw [decide_eq_false (show ¬ 1 ≤ l.length by omega), Bool.false_and, Bool.false_and]
      rw [eg, e] at z; exact iteT z
    · have c1 : ¬ ((tx l).length : Int) = 0 := fun z => c (decide_eq_true (by rw [z]))
      refine ⟨_, rfl, tx l, rfl, len_le hz, _, _, rfl, rfl, _, rfl, ite2 (fun d => ?_) (fun d => ?_)⟩
      · have d1 : (8 : Int) < ((tx l).length : Int) := of_decide_eq_true d
        have z := q H (Same.refl _)
        have e : nameOk l = false := by unfold nameOk; rw [decide_eq_false (show ¬ l.length ≤ 8 by omega), Bool.and_false, Bool.false_and]
        rw [eg, e] at z; exact z
      · have d1 : ¬ (8 : Int) < ((tx l).length : Int) := fun z => d (decide_eq_true z)
        refine ⟨_, rfl, l, rfl, hA, fun p hp => ?_⟩
        refine comp_str_map l (fun c => !(decide (97 ≤ c) && decide (c ≤ 122))) (fun c => sv [c]) (by omega) hp (fun c hc H2 s2 C k => ?_) (fun c hc _ H2 s2 C k => ⟨_, rfl, k H2 (Same.refl _)⟩) (fun H2 s2 e2 => ?_)
        · have hc2 : c < 128 := by
            have := List.all_eq_true.mp hA c hc
            simpa using this
          refine ⟨_, rfl, _, _, rfl, rfl, _, rfl, ?_⟩
          have z := k H2 (Same.refl _)
          have e := let_in c hc2
          show C (!(!(Builtin.Str.occurrences (Str.ofString "abcdefghijklmnopqrstuvwxyz") (tx [c]) 0 26 1).isEmpty)) H2
          rw [Bool.not_not, e]
          exact z
        · refine ⟨(by show 0 ≤ sizeLine; decide), fun p2 hp2 => ?_⟩
          have t2 := same_new hp2 (.lst [])
          refine ⟨p, p2, (l.filter fun c => !(decide (97 ≤ c) && decide (c ≤ 122))).map fun c => tx [c], [], rfl, rfl, SqL.of (by rw [t2 _ _ e2, List.map_map]; rfl), SqL.of upd_same, ?_⟩
          have z := q _ (s2.trans t2)
          rw [eg] at z
          have e : nameOk l = decide (((l.filter fun c => !(decide (97 ≤ c) && decide (c ≤ 122))).map fun c => tx [c]) = []) := by
            unfold nameOk
            rw [decide_eq_true (show 1 ≤ l.length by omega), decide_eq_true (show l.length ≤ 8 by omega), Bool.true_and, Bool.true_and]
            cases ha : l.all fun c => decide (97 ≤ c) && decide (c ≤ 122) with
            | true =>
              rw [decide_eq_true]
              rw [List.map_eq_nil_iff, List.filter_eq_nil_iff]
              intro c hc
              rw [List.all_eq_true.mp ha c hc]; decide
            | false =>
              rw [decide_eq_false]
              intro z
              rw [List.map_eq_nil_iff, List.filter_eq_nil_iff] at z
              rw [← Bool.not_eq_true] at ha
              refine ha (List.all_eq_true.mpr fun c hc => ?_)
              have := z c hc
              simpa using this
          rw [e] at z
          exact z
  · have e : isN n .str = false := by cases n <;> first | rfl | exact absurd rfl hn
    refine ⟨_, rfl, x, n, rfl, hk, _, rfl, ?_⟩
    rw [e]
    have z := q H (Same.refl _)
    rw [kind_str hk hn] at z
    exact iteT z
end
end My


set_option Elab.async false
set_option linter.all false
set_option maxRecDepth 100000
set_option maxHeartbeats 4000000
namespace My
open PySem PySem.Spec PyProof.Rows L2 GM
theorem inV_sv (x : List Nat) (ls : List (List Nat)) : inV (sv x) (ls.map sv) = decide (x ∈ ls) := by
  unfold inV
  rw [List.any_map]
  by_cases h : x ∈ ls
  · rw [decide_eq_true h, List.any_eq_true]
    exact ⟨x, h, by show (tx x == tx x) = true; exact beq_self_eq_true _⟩
  · rw [decide_eq_false h, List.any_eq_false]
    intro y hy z
    have z : (tx y == tx x) = true := z
    exact h (tx_inj (beq_iff_eq.mp z) ▸ hy)
theorem flat_sv (ls : List (List Nat)) : (ls.map sv).all flatV = true := by
  rw [List.all_map, List.all_eq_true]; exact fun _ _ => rfl
/-- where there is no fault -/
theorem no_fault : ∀ {rs : List (V × V)} {ah : List V}, faultOf rs ah = none → (∀ y ∈ rs, gv y.1 = true ∧ gv y.2 = true ∧ y.1 ∉ ah) ∧ (rs.map Prod.fst).Nodup
  | [], _, _ => ⟨fun y hy => by simp at hy, by simp⟩
  | (n, k) :: r, ah, h => by
    unfold faultOf at h
    split at h
    · cases h
    · rename_i h1
      split at h
      · cases h
      · rename_i h2
        obtain ⟨g1, g2⟩ := no_fault h
        have hn : gv n = true := by cases e : gv n with | true => rfl | false => exact absurd (Or.inl e) h1
        have hk : gv k = true := by cases e : gv k with | true => rfl | false => exact absurd e h2
        have hna : n ∉ ah := fun z => h1 (.inr z)
        refine ⟨fun y hy => ?_, ?_⟩
        · rcases List.mem_cons.mp hy with rfl | hy
          · exact ⟨hn, hk, hna⟩
          · obtain ⟨a, b, c⟩ := g1 y hy
            exact ⟨a, b, fun z => c (by simp [z])⟩
        · rw [List.map_cons, List.nodup_cons]
          refine ⟨fun z => ?_, g2⟩
          obtain ⟨y, hy, e⟩ := List.mem_map.mp z
          exact (g1 y hy).2.2 (by rw [e]; simp)
theorem has_fault {rs : List (V × V)} {i : Nat} {n k : V} (h : rs[i]? = some (n, k)) (hb : gv n = false ∨ gv k = false ∨ ∃ j k', j < i ∧ rs[j]? = some (n, k')) : ∃ x, faultOf rs [] = some x := by
  cases e : faultOf rs [] with
  | some x => exact ⟨x, rfl⟩
  | none =>
    obtain ⟨g1, g2⟩ := no_fault e
    have hm := g1 (n, k) (List.mem_of_getElem? h)
    rcases hb with z | z | ⟨j, k', hj, e2⟩
    · rw [hm.1] at z; cases z
    · rw [hm.2.1] at z; cases z
    · have hi : i < (rs.map Prod.fst).length := by rw [List.length_map]; exact (List.getElem?_eq_some_iff.mp h).1
      have hj2 : j < (rs.map Prod.fst).length := by omega
      have e3 : (rs.map Prod.fst)[i] = (rs.map Prod.fst)[j] := by
        have a1 : (rs.map Prod.fst)[i]? = some n := by rw [List.getElem?_map, h]; rfl
        have a2 : (rs.map Prod.fst)[j]? = some n := by rw [List.getElem?_map, e2]; rfl
        rw [List.getElem?_eq_getElem hi] at a1
        rw [List.getElem?_eq_getElem hj2] at a2
        rw [Option.some.inj a1, Option.some.inj a2]
      exact absurd ((List.getElem_inj g2).mp e3) (by omega)
noncomputable def Cells (K : PySem.W.Frag) (H : Hp) (rs : List (V × V)) : Prop := ∀ y ∈ rs, VOk K H y.1 ∧ VOk K H y.2
theorem Cells.same {K : PySem.W.Frag} {H H' : Hp} {rs : List (V × V)} (S : Same H H') (h : Cells K H rs) : Cells K H' rs := fun y hy => ⟨(h y hy).1.same S, (h y hy).2.same S⟩
noncomputable def sp_L_fault (K : PySem.W.Frag) : Sp := fun vs H Q _ => ∃ r rs, vs = [.ref r] ∧ RowsV H r rs ∧ rs.length ≤ 6 ∧ Cells K H rs ∧ ∀ l H', Same H H' → H l = none → H' l = some (.lst (faultOf rs []).toList) → Q (.ref l) H'
noncomputable def sp_L_spoilt (K : PySem.W.Frag) : Sp := fun vs H Q _ => ∃ (r : Addr) (i : Nat) (c : Int) (rs : List (V × V)), vs = [.ref r, .int (i : Int), .int c] ∧ RowsV H r rs ∧ rs.length ≤ 6 ∧ i < rs.length ∧ Cells K H rs ∧
  ∀ (l : Addr) (H' : Hp) (rs' : List (V × V)), Same H H' → H l = none → RowsV H' l rs' → rs'.length = rs.length → Cells K H' rs' → (∃ x, faultOf rs' [] = some x) → Q (.ref l) H'
noncomputable def sp_L_taken (K : PySem.W.Frag) (c : Addr) : Sp := fun vs H Q _ => ∃ r l ns ks, vs = [.ref r, .ref l] ∧ RowsAre K H r ns ks ∧ Good ns ks ∧ H l = some (.lst (ns.map sv)) ∧ ∀ H', Same H H' → Q (.bl true) H'
noncomputable def sp_law (K : PySem.W.Frag) : Sp := fun vs H Q _ => ∃ (a : Addr) (ns : List Int), vs = [.ref a] ∧ SqL K H a (ns.map V.int) ∧ ns.length ≤ 63 ∧ ∀ H', Q (.bl true) H'
theorem sv_map (ns : List (List Nat)) : ns.map sv = (ns.map tx).map V.str := by rw [List.map_map]; rfl
theorem RowsAre.same {K : PySem.W.Frag} {H H' : Hp} {r : Addr} {ns ks : List (List Nat)} (S : Same H H') (h : RowsAre K H r ns ks) : RowsAre K H' r ns ks := by
  obtain ⟨ps, h1, h2, h3, h4⟩ := h
  exact ⟨ps, S _ _ h1, h2, h3, fun i p e => by obtain ⟨n, k, a, b, c⟩ := h4 i p e; exact ⟨n, k, a, b, S _ _ c⟩⟩
noncomputable def T_names (K : PySem.W.Frag) (c_Stock : Addr) : Addr → Sp → Prop := fun C sp => (C = c_Stock ∧ sp = (sp_M_Stock_names K c_Stock))
section
variable {P : Program} {w : World} {K : PySem.W.Frag} {mg : Str → Option Value} {base : Heap}
variable {c_Stock c_NoName c_TooMany DH : Addr}
theorem ok_L_fault {f : Addr} {fd : FuncData} (F : Fun K "_law_fault" "_law_fault" s_L_fault f fd) (m_self : mg "_law_fault" = some (.ref f))
    (D_L_good : DefOk P w K mg base 1 "_law_good" ["_law_thing"] [] (sp_L_good K)) : DefOk P w K mg base 2 "_law_fault" ["_law_rows"] [] (sp_L_fault K) := by
  refine F.def_okQ m_self (bnd1 F fun _ _ _ _ _ _ _ => rfl) sc_L_fault (fun vs H Q E h => ?_) (fun cdv A outer s H vs Q E hr h => ?_)
  · obtain ⟨r, rs, rfl, _⟩ := h; rfl
  obtain ⟨r, rs, rfl, hR, hm, hv, q⟩ := h
  refine ⟨_, (R.pss_cons (R.ps_set (i := 1) sc_L_fault.nd rfl (Or.inl rfl) (R.pe_lst R.pa_nil))
    (R.pss_cons (R.ps_for PassesOwn.never rfl (R.pi_list (R.pv 0)) (R.pg_tup K 2 rfl (R.pgs_cons (R.pg_name (i := 2) sc_L_fault.nd rfl (Or.inl rfl)) (R.pgs_cons (R.pg_name (i := 3) sc_L_fault.nd rfl (Or.inl rfl)) R.pgs_nil))) (R.pss_cons (R.ps_if (R.pt (R.pw_or (R.pt_not (R.pt_val (R.pe_callD D_L_good hr (by decide) rfl (R.pa_c (R.pv 2) R.pa_nil)))) (R.pw_or1 (R.pt_cmpR op_in_seq (R.pv 2) (R.pv 1) (by with_unfolding_all rfl))))) (R.pss_one (R.ps_ret (R.pe_lst (R.pa_c (R.pv 2) R.pa_nil)))) R.pss_nil)
      (R.pss_cons (R.ps_if (R.pt_not (R.pt_val (R.pe_callD D_L_good hr (by decide) rfl (R.pa_c (R.pv 3) R.pa_nil)))) (R.pss_one (R.ps_ret (R.pe_lst (R.pa_c (R.pv 3) R.pa_nil)))) R.pss_nil)
      (R.pss_one (R.ps_expr (R.pe_append (R.pv 1) (R.pa_c (R.pv 2) R.pa_nil)))))))
    (R.pss_one (R.ps_ret (R.pe_lst R.pa_nil))))), ?_⟩
  obtain ⟨ps, hr0, hps, hrow⟩ := id hR
  obtain ⟨F0, hF0⟩ : ∃ F0, faultOf rs [] = F0 := ⟨_, rfl⟩
  rw [hF0] at q
  refine ⟨(by show 0 ≤ sizeLine; decide), fun l hl => ?_⟩
  have t0 := same_new hl (.lst [])
  refine ⟨_, rfl, r, rfl, ⟨_, SqL.of (t0 _ _ hr0)⟩, for_list (xs := ps.map V.ref) (fun i σ Hc => (∃ x y, σ = [some (.ref r), some (.ref l), x, y]) ∧ Same H Hc ∧ ∃ nl : List (List Nat), Hc l = some (.lst (nl.map sv)) ∧ nl.length = i ∧ faultOf (rs.drop i) (nl.map sv) = F0) ⟨⟨_, _, rfl⟩, t0, [], upd_same, rfl, hF0⟩ (fun i σ Hc _ hP => SqL.of (hP.2.1 _ _ hr0)) (fun i v σ Hc hv2 hP => ?_) (fun σ Hc hP => ?_)⟩
  · rw [List.getElem?_map] at hv2
    obtain ⟨p, hp, rfl⟩ := Option.map_eq_some_iff.mp hv2
    obtain ⟨n, k, hnk, htp⟩ := hrow i p hp
    have hi : i < rs.length := (List.getElem?_eq_some_iff.mp hnk).1
    have hd : rs.drop i = (n, k) :: rs.drop (i + 1) := by
      rw [List.drop_eq_getElem_cons hi, (List.getElem?_eq_some_iff.mp hnk).2]
    have hvn := hv (n, k) (List.mem_of_getElem? hnk)
    obtain ⟨⟨x, y, rfl⟩, sc, nl, hnl, hlen, hf⟩ := hP
    rw [hd] at hf
    unfold faultOf at hf
    refine ⟨p, _, rfl, SqT.of (sc _ _ htp), rfl, _, _, rfl, _, _, rfl, rfl, ?_⟩
    refine ⟨_, rfl, n, rfl, hvn.1.same sc, fun H1 s1 => ?_⟩
    have sc1 := sc.trans s1
    cases hgn : gv n with
    | false =>
      rw [if_pos (.inl hgn)] at hf
      refine ⟨_, rfl, iteT ⟨_, rfl, (by show 1 ≤ sizeLine; decide), fun l2 hl2 => ?_⟩⟩
      exact q l2 _ (sc1.trans (same_new hl2 _)) (sback sc1 hl2) (by rw [upd_same, ← hf]; rfl)
    | true =>
      obtain ⟨nn, rfl, hA, hz⟩ : ∃ l, n = sv l ∧ asc l = true ∧ l.length ≤ 1000 := by
        rcases hvn.1 with z | ⟨m, hk, hn, _⟩
        · exact z
        · rw [kind_str hk hn] at hgn; cases hgn
      refine ⟨_, rfl, iteF ⟨_, rfl, _, rfl, l, _, rfl, .inl (SqL.of (s1 _ _ hnl)), rfl, flat_sv nl, _, rfl, ?_⟩⟩
      show (if inV (sv nn) (nl.map sv) = true then _ else _)
      rw [inV_sv]
      by_cases hin : nn ∈ nl
      · rw [decide_eq_true hin]
        rw [if_pos (.inr (List.mem_map_of_mem hin))] at hf
        refine iteT ⟨_, rfl, (by show 1 ≤ sizeLine; decide), fun l2 hl2 => ?_⟩
        exact q l2 _ (sc1.trans (same_new hl2 _)) (sback sc1 hl2) (by rw [upd_same, ← hf]; rfl)
      · rw [decide_eq_false hin]
        have hm2 : ¬ (gv (sv nn) = false ∨ sv nn ∈ nl.map sv) := by
          rintro (z | z)
          · rw [hgn] at z; cases z
          · obtain ⟨m, hm, e⟩ := List.mem_map.mp z
            exact hin (tx_inj (V.str.inj e) ▸ hm)
        rw [if_neg hm2] at hf
        refine iteF ⟨_, rfl, k, rfl, hvn.2.same sc1, fun H2 s2 => ?_⟩
        have sc2 := sc1.trans s2
        cases hgk : gv k with
        | false =>
          rw [if_pos hgk] at hf
          refine ⟨_, rfl, iteT ⟨_, rfl, (by show 1 ≤ sizeLine; decide), fun l2 hl2 => ?_⟩⟩
          exact q l2 _ (sc2.trans (same_new hl2 _)) (sback sc2 hl2) (by rw [upd_same, ← hf]; rfl)
        | true =>
          rw [if_neg (by rw [hgk]; decide)] at hf
          have e2 := (s1.trans s2) _ _ hnl
          refine ⟨_, rfl, iteF ⟨_, rfl, .inl ⟨rfl, _, SqL.of e2⟩, _, rfl, l, _, _, rfl, rfl, e2, ?_, ⟨_, _, rfl⟩, sc2.upd hl _, nl ++ [nn], ?_, by rw [List.length_append, hlen]; rfl, ?_⟩⟩
          · rw [List.length_map, hlen, sizeLine_eq]; omega
          · rw [upd_same, List.map_append]; rfl
          · rw [List.map_append]; exact hf
  · obtain ⟨⟨x, y, rfl⟩, sc, nl, hnl, hlen, hf⟩ := hP
    rw [List.length_map, hps, List.drop_length] at hf
    refine ⟨(by show 0 ≤ sizeLine; decide), fun l2 hl2 => ?_⟩
    exact q l2 _ (sc.trans (same_new hl2 _)) (sback sc hl2) (by rw [upd_same, ← hf]; rfl)
theorem RowsV.set {H H' : Hp} {r l pn : Addr} {rs : List (V × V)} {ps : List Addr} {i : Nat} {n k : V} (hps : ps.length = rs.length) (hrow : ∀ (j : Nat) (p : Addr), ps[j]? = some p → ∃ n k, rs[j]? = some (n, k) ∧ H' p = some (.tup [n, k])) (hl : H' l = some (.lst ((ps.map V.ref).set i (.ref pn)))) (hp : H' pn = some (.tup [n, k])) : RowsV H' l (rs.set i (n, k)) := by
  refine ⟨ps.set i pn, by rw [hl, List.map_set], by rw [List.length_set, List.length_set]; exact hps, fun j p e => ?_⟩
  rw [List.getElem?_set] at e ⊢
  by_cases hij : i = j
  · rw [if_pos hij] at e ⊢
    split at e
    · rename_i hlt
      cases e
      rw [if_pos (by rw [← hps]; exact hlt)]
      exact ⟨n, k, rfl, hp⟩
    · cases e
  · rw [if_neg hij] at e ⊢
    exact hrow j p e
theorem Cells.set {K : PySem.W.Frag} {H : Hp} {rs : List (V × V)} {i : Nat} {n k : V} (h : Cells K H rs) (h1 : VOk K H n) (h2 : VOk K H k) : Cells K H (rs.set i (n, k)) := fun y hy => by
  rcases List.mem_or_eq_of_mem_set hy with z | rfl
  · exact h y z
  · exact ⟨h1, h2⟩
theorem ok_L_spoilt {f : Addr} {fd : FuncData} (F : Fun K "_law_spoilt" "_law_spoilt" s_L_spoilt f fd) (m_self : mg "_law_spoilt" = some (.ref f)) (m_list : mg "list" = none)
    (D_L_odd : DefOk P w K mg base 1 "_law_odd" ["_law_cell_here"] [] (sp_L_odd K)) : DefOk P w K mg base 2 "_law_spoilt" ["_law_rows", "_law_at", "_law_cell_here"] [] (sp_L_spoilt K) := by
  refine F.def_okQ m_self (bnd3 F fun _ _ _ _ _ _ _ _ _ => rfl) sc_L_spoilt (fun vs H Q E h => ?_) (fun cdv A outer s H vs Q E hr h => ?_)
  · obtain ⟨r, i, c, rs, rfl, _⟩ := h; rfl
  obtain ⟨r, i, c, rs, rfl, hR, hm, hi, hv, q⟩ := h
  refine ⟨_, (R.pss_cons (R.ps_set (i := 3) sc_L_spoilt.nd rfl (Or.inl rfl) (R.pe_cTy call_list_of rfl m_list (boot_list) (R.pa_c (R.pv 0) R.pa_nil)))
    (R.pss_cons (R.ps_asg (R.pe_ix (R.ixL K) (R.pv 3) (R.pv 1) (fun _ _ => rfl)) (R.pg_tup K 2 rfl (R.pgs_cons (R.pg_name (i := 4) sc_L_spoilt.nd rfl (Or.inl rfl)) (R.pgs_cons (R.pg_name (i := 5) sc_L_spoilt.nd rfl (Or.inl rfl)) R.pgs_nil))))
    (R.pss_cons (R.ps_set (i := 6) sc_L_spoilt.nd rfl (Or.inl rfl) (R.pe_op op_mod (R.pv 2) R.pe_int))
    (R.pss_cons (R.ps_if (R.pt_cmpR op_eq (R.pv 6) R.pe_int (nomark _)) (R.pss_one (R.ps_asg (R.pe_tup (R.pa_c (R.pv 4) (R.pa_c (R.pe_callD D_L_odd hr (by decide) rfl (R.pa_c (R.pe_op op_fdiv (R.pv 2) R.pe_int) R.pa_nil)) R.pa_nil))) (R.pg_setL (R.pv 3) (R.pv 1)))) (R.pss_one (R.ps_if (R.pt (R.pw_and (R.pt_cmpR op_eq (R.pv 6) R.pe_int (nomark _)) (R.pw_and1 (R.pt_cmpR op_gt (R.pv 1) R.pe_int (nomark _))))) (R.pss_one (R.ps_asg (R.pe_tup (R.pa_c (R.pe_ix (R.ixT K) (R.pe_ix (R.ixL K) (R.pv 3) (R.pe_op (opE op_mod) (R.pe_op op_fdiv (R.pv 2) R.pe_int) (R.pv 1)) (fun _ _ => rfl)) R.pe_int (fun _ _ => rfl)) (R.pa_c (R.pv 5) R.pa_nil))) (R.pg_setL (R.pv 3) (R.pv 1)))) (R.pss_one (R.ps_asg (R.pe_tup (R.pa_c (R.pe_callD D_L_odd hr (by decide) rfl (R.pa_c (R.pe_op op_fdiv (R.pv 2) R.pe_int) R.pa_nil)) (R.pa_c (R.pv 5) R.pa_nil))) (R.pg_setL (R.pv 3) (R.pv 1)))))))
    (R.pss_one (R.ps_ret (R.pv 3))))))), ?_⟩
  obtain ⟨ps, hr0, hps, hrow⟩ := id hR
  obtain ⟨p, hp⟩ : ∃ p, ps[i]? = some p := ⟨ps[i]'(by omega), List.getElem?_eq_getElem (by omega)⟩
  obtain ⟨n, k, hnk, htp⟩ := hrow i p hp
  have hvn := hv (n, k) (List.mem_of_getElem? hnk)
  have at_i : atI (ps.map V.ref) (i : Int) = some (.ref p) := atI_nat (by rw [List.getElem?_map, hp]; rfl)
  have ixi : ixN (ps.map V.ref).length (i : Int) = some i := by
    unfold ixN
    rw [if_pos (by omega), if_pos (by rw [List.length_map, hps]; omega)]
    rfl
  refine ⟨_, rfl, r, _, rfl, .inl (SqL.of hr0), fun l hl => ?_⟩
  have s0 := same_new hl (.lst (ps.map V.ref))
  have e0 : upd H l (.lst (ps.map V.ref)) l = some (.lst (ps.map V.ref)) := upd_same
  generalize upd H l (.lst (ps.map V.ref)) = H0 at s0 e0 ⊢
  refine ⟨_, rfl, _, rfl, l, _, _, .ref p, rfl, rfl, SqL.of e0, at_i, p, _, rfl, SqT.of (s0 _ _ htp), rfl, _, _, rfl, _, _, rfl, rfl, ?_⟩
  refine ⟨_, rfl, _, _, rfl, rfl, (by show (0 : Int) < 4; decide), ?_⟩
  have hH0 : H0 l = some (.lst (ps.map V.ref)) := e0
  have fin : ∀ (H1 : Hp) (pn : Addr) (n' k' : V), Same H0 H1 → H1 pn = none → (VOk K H1 n' ∧ ∀ b, n' = .ref b → b ≠ l) → (VOk K H1 k' ∧ ∀ b, k' = .ref b → b ≠ l) → (gv n' = false ∨ gv k' = false ∨ ∃ j k'', j < i ∧ rs[j]? = some (n', k'')) → Q (.ref l) (upd (upd H1 pn (.tup [n', k'])) l (.lst ((ps.map V.ref).set i (.ref pn)))) := fun H1 pn n' k' s1 hpn v1 v2 hb => by
    have s2 := same_new hpn (.tup [n', k'])
    have s02 := (s0.trans s1).trans s2
    have nl : pn ≠ l := fun z => by subst z; rw [s1 _ _ e0] at hpn; cases hpn
    have s3 : Same H (upd (upd H1 pn (.tup [n', k'])) l (.lst ((ps.map V.ref).set i (.ref pn)))) := s02.upd hl _
    have B1 : But l H1 (upd (upd H1 pn (.tup [n', k'])) l (.lst ((ps.map V.ref).set i (.ref pn)))) := fun b o hb e => by rw [upd_ne hb]; exact s2 _ _ e
    refine q l _ (rs.set i (n', k')) s3 hl (RowsV.set (H := H) (r := r) hps (fun j b e => ?_) upd_same (by rw [upd_ne nl, upd_same])) (by rw [List.length_set]) (Cells.set (hv.same s3) (v1.1.at v1.2 B1) (v2.1.at v2.2 B1)) (has_fault (i := i) (by rw [List.getElem?_set, if_pos rfl, if_pos hi]) ?_)
    · obtain ⟨a1, a2, a3, a4⟩ := hrow j b e
      exact ⟨a1, a2, a3, s3 _ _ a4⟩
    · rcases hb with z | z | ⟨j, k'', hj, e⟩
      · exact .inl z
      · exact .inr (.inl z)
      · exact .inr (.inr ⟨j, k'', hj, by rw [List.getElem?_set, if_neg (by omega)]; exact e⟩)
  have own : ∀ (H1 : Hp) (y : V), Same H0 H1 → VOk K H y → VOk K H1 y ∧ ∀ b, y = .ref b → b ≠ l := fun H1 y s1 hy => ⟨hy.same (s0.trans s1), hy.ne hl⟩
  have odd : ∀ (H1 : Hp) (y : V), VOk K H1 y → (∀ b, y = .ref b → H0 b = none) → VOk K H1 y ∧ ∀ b, y = .ref b → b ≠ l := fun H1 y hy hf => ⟨hy, fun b e z => by subst z; have := hf b e; rw [e0] at this; cases this⟩
  refine ⟨_, rfl, rfl, _, rfl, ite2 (fun _ => ?_) (fun _ => ?_)⟩
  · refine ⟨_, rfl, _, rfl, _, _, rfl, rfl, ⟨by decide, by decide⟩, _, rfl, fun v H1 s1 hok hg hfr => ⟨(by show 2 ≤ sizeLine; decide), fun pn hpn => ?_⟩⟩
    refine ⟨_, rfl, _, rfl, l, _, _, i, rfl, rfl, same_new hpn _ _ _ (s1 _ _ e0), ixi, ?_⟩
    exact ⟨_, rfl, fin H1 pn n v s1 hpn (own H1 n s1 hvn.1) (odd H1 v hok hfr) (.inr (.inl hg))⟩
  · refine ⟨_, rfl, rfl, _, rfl, ite2 (fun _ => ⟨_, rfl, _, _, rfl, rfl, _, rfl, ite2 (fun hpos => ?_) (fun _ => ?_)⟩) (fun _ => iteF ?_)⟩
    · have hpos : (0 : Int) < (i : Int) := of_decide_eq_true hpos
      obtain ⟨j, ej, hj⟩ := modn (c / 4) i (by omega)
      obtain ⟨pj, hpj⟩ : ∃ p, ps[j]? = some p := ⟨ps[j]'(by omega), List.getElem?_eq_getElem (by omega)⟩
      obtain ⟨nj, kj, hnkj, htj⟩ := hrow j pj hpj
      have hvj := hv (nj, kj) (List.mem_of_getElem? hnkj)
      refine ⟨_, rfl, _, rfl, _, _, rfl, rfl, ⟨by decide, by decide⟩, _, rfl, _, _, _, rfl, rfl, hpos, rfl, l, _, _, .ref pj, rfl, rfl, SqL.of e0, ?_, pj, _, _, nj, rfl, rfl, SqT.of (s0 _ _ htj), rfl, _, rfl, (by show 2 ≤ sizeLine; decide), fun pn hpn => ?_⟩
      · show atI (ps.map V.ref) (c / 4 % (i : Int)) = some (.ref pj)
        rw [ej]
        exact atI_nat (by rw [List.getElem?_map, hpj]; rfl)
      refine ⟨_, rfl, _, rfl, l, _, _, i, rfl, rfl, same_new hpn _ _ _ e0, ixi, ?_⟩
      exact ⟨_, rfl, fin H0 pn nj k (Same.refl _) hpn (own H0 nj (Same.refl _) hvj.1) (own H0 k (Same.refl _) hvn.2) (.inr (.inr ⟨j, kj, hj, hnkj⟩))⟩
    all_goals
      refine ⟨_, rfl, _, _, rfl, rfl, ⟨by decide, by decide⟩, _, rfl, fun v H1 s1 hok hg hfr => ⟨_, rfl, (by show 2 ≤ sizeLine; decide), fun pn hpn => ?_⟩⟩
      refine ⟨_, rfl, _, rfl, l, _, _, i, rfl, rfl, same_new hpn _ _ _ (s1 _ _ e0), ixi, ?_⟩
      exact ⟨_, rfl, fin H1 pn v k s1 hpn (odd H1 v hok hfr) (own H1 k s1 hvn.2) (.inl hg)⟩
theorem ok_L_taken {f : Addr} {fd : FuncData} (F : Fun K "_law_taken" "_law_taken" s_L_taken f fd) (m_self : mg "_law_taken" = some (.ref f))
    (O_Stock : Own K mg "Stock" c_Stock ["numbers", "kinds"])
    (MK_Stock : MakeD P w K mg base 4 "Stock" c_Stock ["self", "rows"] (sp_M_Stock___init__ K c_Stock))
    (hT_names : ∀ C sp, T_names K c_Stock C sp → ∃ ps, MethD P w K mg base 1 C "names" ps sp) : DefOk P w K mg base 6 "_law_taken" ["_law_rows", "_law_names_here"] [] (sp_L_taken K c_Stock) := by
  refine F.def_okQ m_self (bnd2 F fun _ _ _ _ _ _ _ _ => rfl) sc_L_taken (fun vs H Q E h => ?_) (fun cdv A outer s H vs Q E hr h => ?_)
  · obtain ⟨r, l, ns, ks, rfl, _⟩ := h; rfl
  obtain ⟨r, l, ns, ks, rfl, hR, hG, hl, q⟩ := h
  refine ⟨_, (R.pss_one (R.ps_ret (R.pe_cmpR (op_eqS hr.units0) (R.pe_methV0 (R.pe_makeD MK_Stock hr (by decide) rfl (R.pa_c (R.pv 0) R.pa_nil)) hT_names hr (by decide)) (R.pv 1) (nomark _)))), ?_⟩
  refine ⟨_, rfl, fun st dx hst hdx hne => ⟨st, dx, r, ns, ks, rfl, upd_same, hR.same (made_up hst hdx), hG, fun H1 hB hI => ⟨rfl, ?_⟩⟩⟩
  have s1 := made_same hst hdx hB
  obtain ⟨dy, d1, d2, kk, i1, _⟩ := id hI
  refine ⟨st, c_Stock, dy, _, _, rfl, i1, fs_none (by decide) (by decide), ⟨rfl, rfl⟩, st, ns, ks, rfl, hI, fun p hp => ?_⟩
  have s2 := same_new hp (.lst (ns.map sv))
  refine ⟨_, rfl, p, l, ns.map tx, ns.map tx, rfl, rfl, SqL.of (by rw [upd_same, sv_map]), SqL.of (by rw [s2 _ _ (s1 _ _ hl), sv_map]), ?_⟩
  show Q (.bl (decide (ns.map tx = ns.map tx))) _
  rw [decide_eq_true rfl]
  exact q _ (s1.trans s2)
end
end My


set_option Elab.async false
set_option linter.all false
set_option maxRecDepth 100000
set_option maxHeartbeats 4000000
namespace My
open PySem PySem.Spec PyProof.Rows L2 GM
noncomputable def rEqNil : R2 := fun x y H Q => ∃ (a b : Addr) (v : V), x = .ref a ∧ y = .ref b ∧ H a = some (.lst [v]) ∧ H b = some (.lst []) ∧ Q (.bl false) H
theorem op_eqNil {X : Cx} (hu : X.A.units < cLine) : OpR X (compareOp .Eq) rEqNil := by
  intro pins s σ H x y v u Q I rx ry h
  obtain ⟨a, b, w, rfl, rfl, ha, hb, q⟩ := h
  cases rx; cases ry
  obtain ⟨its, r1, p1, _⟩ := I.list (SqL.of ha)
  obtain ⟨its2, r2, p2, _⟩ := I.list (SqL.of hb)
  have l1 := r1.length
  have l2 := r2.length
  have l1 : 1 = its.length := l1
  have l2 : 0 = its2.length := l2
  refine SeqAt.RcAt.lists_lengths p1.isList p2.isList (by rw [List.size_toArray, List.size_toArray, ← l1, ← l2]; rfl) hu _ _ _ _ ?_
  exact ⟨.bl false, H, I, rfl, q⟩
section
variable {P : Program} {w : World} {K : PySem.W.Frag} {mg : Str → Option Value} {base : Heap}
variable {c_Stock c_NoName c_TooMany DH : Addr}
theorem seq_join {c : TT} {t u : TS} {D : Ends} {σ : L2.St} {H : Hp} (M : L2.St → Hp → Prop) (h : (∀ σ' H', M σ' H' → u D σ' H') → tIfS c t tNext { D with nx := u D } σ H) (h2 : ∀ σ' H', M σ' H' → u D σ' H') : tSeq (tIfS c t tNext) u D σ H := h h2
theorem RowsAre.toV {K : PySem.W.Frag} {H : Hp} {r : Addr} {ns ks : List (List Nat)} (h : RowsAre K H r ns ks) (hG : Good ns ks) : ∃ rs, RowsV H r rs ∧ rs.length = ns.length ∧ Cells K H rs := by
  obtain ⟨ps, h1, h2, h3, h4⟩ := h
  have hz : ((ns.zip ks).map fun y => (sv y.1, sv y.2)).length = ns.length := by rw [List.length_map, List.length_zip, h3]; omega
  refine ⟨(ns.zip ks).map fun y => (sv y.1, sv y.2), ⟨ps, h1, by rw [hz]; exact h2, fun i p e => ?_⟩, hz, fun y hy => ?_⟩
  · obtain ⟨n, k, a, b, c⟩ := h4 i p e
    exact ⟨sv n, sv k, by rw [List.getElem?_map, (List.getElem?_zip_eq_some (z := (n, k))).mpr ⟨a, b⟩]; rfl, c⟩
  · obtain ⟨⟨n, k⟩, hm, rfl⟩ := List.mem_map.mp hy
    obtain ⟨m1, m2⟩ := List.of_mem_zip hm
    have o1 := hG.2.1 n m1
    have o2 := hG.2.2.2 k m2
    exact ⟨.inl ⟨n, rfl, ok_asc o1, by have := (ok_len o1).2; omega⟩, .inl ⟨k, rfl, ok_asc o2, by have := (ok_len o2).2; omega⟩⟩
theorem RowsV.push {H : Hp} {w b : Addr} {rs : List (V × V)} {ps : List Addr} {n k : V} (hw : H w = some (.lst (ps.map V.ref))) (hl : ps.length = rs.length) (hrow : ∀ (i : Nat) (p : Addr), ps[i]? = some p → ∃ n k, rs[i]? = some (n, k) ∧ H p = some (.tup [n, k])) (hb : H b = some (.tup [n, k])) : RowsV (L2.upd H w (.lst (ps.map V.ref ++ [.ref b]))) w (rs ++ [(n, k)]) := by
  have nr : ∀ d u, H d = some (.tup u) → d ≠ w := fun d u e z => by subst z; rw [hw] at e; cases e
  refine ⟨ps ++ [b], by rw [upd_same, List.map_append]; rfl, by rw [List.length_append, List.length_append, hl]; rfl, fun j c hc => ?_⟩
  by_cases hj : j < ps.length
  · rw [List.getElem?_append_left hj] at hc
    obtain ⟨n', k', f1, f2⟩ := hrow j c hc
    exact ⟨n', k', by rw [List.getElem?_append_left (by omega)]; exact f1, by rw [upd_ne (nr _ _ f2)]; exact f2⟩
  · have hj2 : j = ps.length := by
      have := (List.getElem?_eq_some_iff.mp hc).1
      simp at this; omega
    subst hj2
    simp at hc
    subst hc
    exact ⟨n, k, by rw [hl]; simp, by rw [upd_ne (nr _ _ hb)]; exact hb⟩
theorem ixN_nat {n i : Nat} (h : i < n) : ixN n (i : Int) = some i := by
  unfold ixN
  rw [if_pos (by omega), if_pos (by omega)]
  rfl
theorem cut0 (xs : List V) : cutV xs none (some 0) = [] := by
  have e : HT.sIx xs.length xs.length (some 0) = 0 := by
    cases xs <;> rfl
  unfold cutV
  rw [e, Nat.zero_sub, List.take_zero]
theorem ok_law {f : Addr} {fd : FuncData} (F : Fun K "law" "law" s_law f fd) (m_self : mg "law" = some (.ref f)) (m_list : mg "list" = none) (m_zip : mg "zip" = none) (m_len : mg "len" = none) (m_range : mg "range" = none)
    (D_L_names : DefOk P w K mg base 2 "_law_names" ["_law_script", "_law_many"] [] (sp_L_names K))
    (D_L_spoilt : DefOk P w K mg base 2 "_law_spoilt" ["_law_rows", "_law_at", "_law_cell_here"] [] (sp_L_spoilt K))
    (D_L_fault : DefOk P w K mg base 2 "_law_fault" ["_law_rows"] [] (sp_L_fault K))
    (D_L_cell : DefOk P w K mg base 1 "_law_cell" ["_law_script", "_law_k"] [] (sp_L_cell K))
    (D_L_taken : DefOk P w K mg base 6 "_law_taken" ["_law_rows", "_law_names_here"] [] (sp_L_taken K c_Stock))
    (D_L_refused : DefOk P w K mg base 6 "_law_refused" ["_law_rows", "_law_fault_here"] [] (sp_L_refused K))
    (D_L_by_base : DefOk P w K mg base 6 "_law_by_base" ["_law_rows"] [] (sp_L_by_base K))
    (D_L_word : DefOk P w K mg base 1 "_law_word" ["_law_cell_here", "_law_size"] [] (sp_L_word K))
    (D_L_odd : DefOk P w K mg base 1 "_law_odd" ["_law_cell_here"] [] (sp_L_odd K))
    (D_L_too_many : DefOk P w K mg base 6 "_law_too_many" ["_law_rows"] [] (sp_L_too_many K))
    (D_L_kinds : DefOk P w K mg base 2 "_law_kinds" ["_law_script", "_law_names_here"] [] (sp_L_kinds K)) : FnOk P w K mg base CX0 7 f fd ["_law_script"] (sp_law K) := by
  refine F.okQ sc_law (fun vs H Q E h => ?_) (fun cdv A outer s H vs Q E hr h => ?_)
  · obtain ⟨a, sc, rfl, _⟩ := h; rfl
  obtain ⟨a, sc, rfl, hS, _, q⟩ := h
  refine ⟨_, (R.pss_cons (R.ps_set (i := 1) sc_law.nd rfl (Or.inl rfl) (R.pe_callD D_L_names hr (by decide) rfl (R.pa_c (R.pv 0) (R.pa_c (R.pe_op (opE0 op_add) R.pe_int (R.pe_op (opE op_mod) (R.pe_callD D_L_cell hr (by decide) rfl (R.pa_c (R.pv 0) (R.pa_c R.pe_int R.pa_nil))) R.pe_int)) R.pa_nil))))
    (R.pss_cons (R.ps_compE (i := 2) (defScope s_law) ["_law_script", "_law_names_here", "_law_good_here", "_law_bad", "_law_fault_here", "_law_handed", "_law_many", "_law_rows"] ["_law_name", "_law_kind"] [] [] sc_law.nd rfl (Or.inl rfl) rfl rfl rfl rfl rfl ⟨s.heap.objs.size + 1, rfl⟩ rfl rfl (by decide +kernel) (R.pi_zip rfl m_zip (R.pa_c (R.pv 1) (R.pa_c (R.pe_callD D_L_kinds hr (by decide) rfl (R.pa_c (R.pv 0) (R.pa_c (R.pv 1) R.pa_nil))) R.pa_nil))) (fun C s2 H2 fp => (R.pg_tup K 2 rfl (R.pgs_cons (R.pg_name (i := 0) (show List.Nodup (["_law_name", "_law_kind"] : List Str) from by decide +kernel) rfl (Or.inl rfl)) (R.pgs_cons (R.pg_name (i := 1) (show List.Nodup (["_law_name", "_law_kind"] : List Str) from by decide +kernel) rfl (Or.inl rfl)) R.pgs_nil)))) (fun C s2 H2 fp => R.pf_nil) (fun C s2 H2 fp => (R.pe_tup (R.pa_c (R.pv 0) (R.pa_c (R.pv 1) R.pa_nil)))))
    (R.pss_cons (R.ps_set (i := 3) sc_law.nd rfl (Or.inl rfl) (R.pe_callD D_L_spoilt hr (by decide) rfl (R.pa_c (R.pv 2) (R.pa_c (R.pe_op (opE op_mod) (R.pe_callD D_L_cell hr (by decide) rfl (R.pa_c (R.pv 0) (R.pa_c R.pe_int R.pa_nil))) (R.pe_cB call_len_seq rfl m_len PySem.boot_len (R.pa_c (R.pv 2) R.pa_nil))) (R.pa_c (R.pe_callD D_L_cell hr (by decide) rfl (R.pa_c (R.pv 0) (R.pa_c R.pe_int R.pa_nil))) R.pa_nil)))))
    (R.pss_cons (R.ps_if (R.pt_cmpR op_eq (R.pe_op op_mod (R.pe_op op_fdiv (R.pe_callD D_L_cell hr (by decide) rfl (R.pa_c (R.pv 0) (R.pa_c R.pe_int R.pa_nil))) R.pe_int) R.pe_int) R.pe_int (nomark _)) (R.pss_one (R.ps_set (i := 3) sc_law.nd rfl (Or.inl rfl) (R.pe_callD D_L_spoilt hr (by decide) rfl (R.pa_c (R.pv 3) (R.pa_c (R.pe_op (opE op_mod) (R.pe_callD D_L_cell hr (by decide) rfl (R.pa_c (R.pv 0) (R.pa_c R.pe_int R.pa_nil))) (R.pe_cB call_len_seq rfl m_len PySem.boot_len (R.pa_c (R.pv 2) R.pa_nil))) (R.pa_c (R.pe_callD D_L_cell hr (by decide) rfl (R.pa_c (R.pv 0) (R.pa_c R.pe_int R.pa_nil))) R.pa_nil)))))) R.pss_nil)
    (R.pss_cons (R.ps_set (i := 4) sc_law.nd rfl (Or.inl rfl) (R.pe_callD D_L_fault hr (by decide) rfl (R.pa_c (R.pv 3) R.pa_nil)))
    (R.pss_cons (R.ps_if (R.pt (R.pw_or (R.pt_not (R.pt_val (R.pe_callD D_L_taken hr (by decide) rfl (R.pa_c (R.pv 2) (R.pa_c (R.pv 1) R.pa_nil))))) (R.pw_or1 (R.pt_cmpR (op_eqNil hr.units0) (R.pv 4) (R.pe_lst R.pa_nil) (nomark _))))) (R.pss_one (R.ps_ret R.pe_bl)) R.pss_nil)
    (R.pss_cons (R.ps_set (i := 5) sc_law.nd rfl (Or.inl rfl) (R.pe_cTy call_list_of rfl m_list (boot_list) (R.pa_c (R.pv 3) R.pa_nil)))
    (R.pss_cons (R.ps_if (R.pt (R.pw_or (R.pt_not (R.pt_val (R.pe_callD D_L_refused hr (by decide) rfl (R.pa_c (R.pv 5) (R.pa_c (R.pe_ix (R.ixL K) (R.pv 4) R.pe_int (fun _ _ => rfl)) R.pa_nil))))) (R.pw_or (R.pt_not (R.pt_val (R.pe_callD D_L_by_base hr (by decide) rfl (R.pa_c (R.pv 3) R.pa_nil)))) (R.pw_or1 (R.pt_cmpR op_ne (R.pe_cB call_len_seq rfl m_len PySem.boot_len (R.pa_c (R.pv 5) R.pa_nil)) (R.pe_cB call_len_seq rfl m_len PySem.boot_len (R.pa_c (R.pv 3) R.pa_nil)) (nomark _)))))) (R.pss_one (R.ps_ret R.pe_bl)) R.pss_nil)
    (R.pss_cons (R.ps_set (i := 6) sc_law.nd rfl (Or.inl rfl) (R.pe_op (opE0 op_add) R.pe_int (R.pe_op (opE op_mod) (R.pe_callD D_L_cell hr (by decide) rfl (R.pa_c (R.pv 0) (R.pa_c R.pe_int R.pa_nil))) R.pe_int)))
    (R.pss_cons (R.ps_compE (i := 7) (defScope s_law) ["_law_script", "_law_names_here", "_law_good_here", "_law_bad", "_law_fault_here", "_law_handed", "_law_many", "_law_rows"] ["_law_k"] [] [] sc_law.nd rfl (Or.inl rfl) rfl rfl rfl rfl rfl ⟨s.heap.objs.size + 1, rfl⟩ rfl rfl (by decide +kernel) (R.pi_range1 rfl m_range (R.pa_c (R.pv 6) R.pa_nil)) (fun C s2 H2 fp => (R.pg_name (i := 0) (show List.Nodup (["_law_k"] : List Str) from by decide +kernel) rfl (Or.inl rfl))) (fun C s2 H2 fp => R.pf_nil) (fun C s2 H2 fp => (R.pe_tup (R.pa_c (R.pe_callD D_L_word hr (by decide) rfl (R.pa_c (R.pe_op op_add (R.pe_op op_mulB (R.pv 0) R.pe_int) R.pe_int) (R.pa_c R.pe_int R.pa_nil))) (R.pa_c R.pe_str R.pa_nil)))))
    (R.pss_cons (R.ps_if (R.pt_cmpR op_eq (R.pe_op op_mod (R.pe_callD D_L_cell hr (by decide) rfl (R.pa_c (R.pv 0) (R.pa_c R.pe_int R.pa_nil))) R.pe_int) R.pe_int (nomark _)) (R.pss_one (R.ps_asg (R.pe_tup (R.pa_c (R.pe_callD D_L_odd hr (by decide) rfl (R.pa_c (R.pe_callD D_L_cell hr (by decide) rfl (R.pa_c (R.pv 0) (R.pa_c R.pe_int R.pa_nil))) R.pa_nil)) (R.pa_c (R.pe_callD D_L_odd hr (by decide) rfl (R.pa_c (R.pe_callD D_L_cell hr (by decide) rfl (R.pa_c (R.pv 0) (R.pa_c R.pe_int R.pa_nil))) R.pa_nil)) R.pa_nil))) (R.pg_setL (R.pv 7) (R.pe_op (opE op_mod) (R.pe_op op_fdiv (R.pe_callD D_L_cell hr (by decide) rfl (R.pa_c (R.pv 0) (R.pa_c R.pe_int R.pa_nil))) R.pe_int) (R.pv 6))))) R.pss_nil)
    (R.pss_cons (R.ps_if (R.pt (R.pw_or (R.pt_not (R.pt_val (R.pe_callD D_L_too_many hr (by decide) rfl (R.pa_c (R.pv 7) R.pa_nil)))) (R.pw_or1 (R.pt_not (R.pt_val (R.pe_callD D_L_by_base hr (by decide) rfl (R.pa_c (R.pv 7) R.pa_nil))))))) (R.pss_one (R.ps_ret R.pe_bl)) R.pss_nil)
    (R.pss_one (R.ps_ret (R.pe_and (R.pe_callD D_L_taken hr (by decide) rfl (R.pa_c (R.pe_slice sl_list (R.pv 7) R.po_none (R.po_some R.pe_int)) (R.pa_c (R.pe_lst R.pa_nil) R.pa_nil))) (R.pe_one (R.pe_callD D_L_taken hr (by decide) rfl (R.pa_c (R.pv 2) (R.pa_c (R.pv 1) R.pa_nil))))))))))))))))))), ?_⟩
  obtain ⟨m, hm, hm6⟩ := modn (cellN sc 0) 6 (by decide)
  refine ⟨_, rfl, _, rfl, a, sc, 0, rfl, hS, by decide, fun H1 s1 => ⟨_, _, nv m, rfl, rfl, (by show (0 : Int) < 6; decide), congrArg V.int hm, _, _, nv (1 + m), rfl, rfl, (by show V.int (1 + (m : Int)) = V.int ((1 + m : Nat) : Int); push_cast; rfl), a, sc, 1 + m, rfl, s1.seq hS, by omega, fun l H2 ns s2 hl0 hl hg => ?_⟩⟩
  have s12 := s1.trans s2
  have hgl := hg.1
  refine ⟨_, rfl, _, rfl, _, rfl, a, l, sc, ns, rfl, s12.seq hS, hl, by have := hg.1; omega, hg.2.1, fun p H3 ks s3 hp0 hp hkl hko => ?_⟩
  have hl3 := s3 _ _ hl
  have s13 := s12.trans s3
  have hG : Good ns ks := ⟨by have := hg.1; omega, hg.2.1, hg.2.2, hko⟩
  refine ⟨l, p, rfl, ⟨_, SqL.of hl3⟩, ⟨_, SqL.of hp⟩, fun r hr0 => ?_⟩
  refine comp_zip2 (by rw [List.length_map, List.length_map]; exact hkl.symm) (fun i Hc => Same H3 Hc ∧ ∃ ps : List Addr, Hc r = some (.lst (ps.map V.ref)) ∧ ps.length = i ∧ ∀ (j : Nat) (b : Addr), ps[j]? = some b → ∃ n k, ns[j]? = some n ∧ ks[j]? = some k ∧ Hc b = some (.tup [sv n, sv k]))
    ⟨same_new hr0 _, [], upd_same, rfl, fun j b e => by simp at e⟩ (fun i Hc _ h => ⟨SqL.of (h.1 _ _ hl3), SqL.of (h.1 _ _ hp)⟩) (fun i x y b Hc hx hy hP hb => ?_) (fun H4 h4 => ?_)
  · rw [List.getElem?_map] at hx hy
    obtain ⟨n, hn, rfl⟩ := Option.map_eq_some_iff.mp hx
    obtain ⟨k, hk, rfl⟩ := Option.map_eq_some_iff.mp hy
    obtain ⟨sP, ps, e1, e2, e3⟩ := hP
    have sb := same_new hb (.tup [sv n, sv k])
    intro K1 K0 g1 g0
    unfold fNil
    dsimp only
    rw [if_pos rfl]
    refine ⟨_, rfl, _, rfl, (by show 2 ≤ sizeLine; decide), fun b2 hb2 => ?_⟩
    have sb2 := same_new hb2 (.tup [sv n, sv k])
    have e4 := (sb.trans sb2) _ _ e1
    have hi : i < ns.length := (List.getElem?_eq_some_iff.mp hn).1
    refine g1 (.ref b2) _ _ e4 (by rw [List.length_map, e2, sizeLine_eq]; have := hg.1; omega) ⟨((sP.trans sb).trans sb2).upd hr0 _, ps ++ [b2], ?_, by rw [List.length_append, e2]; rfl, fun j c hc => ?_⟩
    · rw [upd_same, List.map_append]; rfl
    · have nr : ∀ d u, upd (upd Hc b (.tup [sv n, sv k])) b2 (.tup [sv n, sv k]) d = some (.tup u) → d ≠ r := fun d u e z => by subst z; rw [e4] at e; cases e
      by_cases hj : j < ps.length
      · rw [List.getElem?_append_left hj] at hc
        obtain ⟨n', k', f1, f2, f3⟩ := e3 j c hc
        have f4 := (sb.trans sb2) _ _ f3
        exact ⟨n', k', f1, f2, by rw [upd_ne (nr _ _ f4)]; exact f4⟩
      · have hj2 : j = ps.length := by
          have := (List.getElem?_eq_some_iff.mp hc).1
          simp at this; omega
        subst hj2
        simp at hc
        subst hc
        rw [e2]
        exact ⟨n, k, hn, hk, by rw [upd_ne (nr _ _ upd_same)]; exact upd_same⟩
  obtain ⟨s4, ps, hr4, hps, hrow⟩ := h4
  rw [List.length_map] at hps
  have hl4 := s4 _ _ hl3
  have s14 := s13.trans s4
  have hS4 : SqL K H4 a (sc.map V.int) := s14.seq hS
  have hRA : RowsAre K H4 r ns ks := ⟨ps, hr4, hps, hkl, hrow⟩
  obtain ⟨rs, hRV, hrl, hC⟩ := hRA.toV hG
  clear hrow
  have hrs6 : rs.length ≤ 6 := by omega
  obtain ⟨j6, hj6, hj6l⟩ := modn (cellN sc 6) (ps.map V.ref).length (by rw [List.length_map]; omega)
  rw [List.length_map] at hj6l
  refine ⟨_, rfl, _, rfl, a, sc, 6, rfl, hS4, by decide, fun H5 s5 => ⟨_, rfl, r, _, rfl, .inl (SqL.of (s5 _ _ hr4)), _, _, nv j6, rfl, rfl, ?_, congrArg V.int hj6, _, rfl, a, sc, 7, rfl, s5.seq hS4, by decide, fun H6 s6 => ⟨r, j6, _, rs, rfl, hRV.same (s5.trans s6), hrs6, by omega, hC.same (s5.trans s6), fun b H7 rs1 s7 hb0 hRb hbl hCb hfb => ?_⟩⟩⟩
  · rw [List.length_map]; omega
  have s47 := (s5.trans s6).trans s7
  dsimp only [gName]
  refine seq_join (fun σ' H' => ∃ b rs1, σ' = [some (.ref a), some (.ref l), some (.ref r), some (.ref b), none, none, none, none] ∧ Same H4 H' ∧ RowsV H' b rs1 ∧ rs1.length = rs.length ∧ Cells K H' rs1 ∧ ∃ x, faultOf rs1 [] = some x) (fun join => ?_) (fun σ' H' hM => ?_)
  · refine ⟨_, rfl, a, sc, 6, rfl, s47.seq hS4, by decide, fun H8 s8 => ⟨_, _, rfl, rfl, ⟨by decide, by decide⟩, _, _, rfl, rfl, (by show (0 : Int) < 3; decide), rfl, _, rfl, ite2 (fun _ => ?_) (fun _ => ?_)⟩⟩
    · have s48 := s47.trans s8
      obtain ⟨j8, hj8, hj8l⟩ := modn (cellN sc 8) (ps.map V.ref).length (by rw [List.length_map]; omega)
      rw [List.length_map] at hj8l
      refine ⟨_, rfl, _, rfl, a, sc, 8, rfl, s48.seq hS4, by decide, fun H9 s9 => ⟨_, rfl, r, _, rfl, .inl (SqL.of ((s48.trans s9) _ _ hr4)), _, _, nv j8, rfl, rfl, ?_, congrArg V.int hj8, _, rfl, a, sc, 9, rfl, (s48.trans s9).seq hS4, by decide, fun H10 s10 => ⟨b, j8, _, rs1, rfl, hRb.same ((s8.trans s9).trans s10), by omega, by omega, hCb.same ((s8.trans s9).trans s10), fun b2 H11 rs2 s11 hb20 hRb2 hb2l hCb2 hfb2 => ?_⟩⟩⟩
      · rw [List.length_map]; omega
      exact join _ _ ⟨b2, rs2, rfl, ((s48.trans s9).trans s10).trans s11, hRb2, by omega, hCb2, hfb2⟩
    · exact join _ _ ⟨b, rs1, rfl, s47.trans s8, hRb.same s8, hbl, hCb.same s8, hfb⟩
  clear hfb hCb hbl hRb hb0 s7 s47 rs1 b
  obtain ⟨b, rs1, rfl, s4', hRb, hbl, hCb, x, hx⟩ := hM
  refine ⟨_, rfl, b, rs1, rfl, hRb, by omega, hCb, fun fl Hf sf hf0 hfl => ?_⟩
  rw [hx] at hfl
  have hfl : Hf fl = some (.lst [x]) := hfl
  have t1 := s4'.trans sf
  refine ⟨_, rfl, _, rfl, r, l, ns, ks, rfl, hRA.same t1, hG, t1 _ _ hl4, fun H7 s7 => ⟨_, rfl, iteF ⟨_, rfl, (by show 0 ≤ sizeLine; decide), fun p2 hp2 => ⟨fl, p2, x, rfl, rfl, same_new hp2 _ _ _ (s7 _ _ hfl), upd_same, _, rfl, iteF ?_⟩⟩⟩⟩
  have t2 := s7.trans (same_new hp2 (.lst []))
  have t3 := t1.trans t2
  have hRb2 := hRb.same (sf.trans t2)
  have hCb2 := hCb.same (sf.trans t2)
  have hfl2 := t2 _ _ hfl
  generalize upd H7 p2 (.lst []) = H8 at t2 t3 hRb2 hCb2 hfl2 ⊢
  obtain ⟨qs, hb8, hqs, hqrow⟩ := id hRb2
  refine ⟨_, rfl, b, _, rfl, .inl (SqL.of hb8), fun hd hhd => ?_⟩
  have t4 := same_new hhd (.lst (qs.map V.ref))
  have hd9 : upd H8 hd (.lst (qs.map V.ref)) hd = some (.lst (qs.map V.ref)) := upd_same
  generalize upd H8 hd (.lst (qs.map V.ref)) = H9 at t4 hd9 ⊢
  have hRd : RowsV H9 hd rs1 := ⟨qs, hd9, hqs, fun i p e => by obtain ⟨n, k, e1, e2⟩ := hqrow i p e; exact ⟨n, k, e1, t4 _ _ e2⟩⟩
  have hF1 : Faulty K H9 hd x := ⟨rs1, hRd, by omega, hCb2.same t4, hx⟩
  refine ⟨_, rfl, _, rfl, fl, _, _, x, rfl, rfl, SqL.of (t4 _ _ hfl2), rfl, hd, x, rfl, hF1, fun H10 s10 => ⟨_, rfl, iteF ⟨_, rfl, b, rfl, .inl ⟨x, rs1, hRb2.same (t4.trans s10), by omega, hCb2.same (t4.trans s10), hx⟩, fun H11 s11 => ⟨_, rfl, iteF ?_⟩⟩⟩⟩
  have t5 := (t4.trans s10).trans s11
  refine ⟨_, rfl, hd, _, rfl, .inl (SqL.of ((s10.trans s11) _ _ hd9)), _, rfl, b, _, rfl, .inl (SqL.of (t5 _ _ hb8)), rfl, _, rfl, ?_⟩
  show (if (!decide (V.int (((qs.map V.ref).length : Nat) : Int) = V.int (((qs.map V.ref).length : Nat) : Int))) = true then _ else _)
  rw [decide_eq_true rfl]
  refine iteF ?_
  have t6 := t3.trans t5
  clear hfl hfl2 hRb hCb hRb2 hCb2 hRd hF1 hb8 hd9 hqrow s7 s4' sf t1 t2 t3 t4 t5 s10
  obtain ⟨v, hv, hv54⟩ := modn (cellN sc 10) 54 (by decide)
  refine ⟨_, rfl, a, sc, 10, rfl, t6.seq hS4, by decide, fun H12 s12' => ⟨_, _, nv v, rfl, rfl, (by show (0 : Int) < 54; decide), congrArg V.int hv, _, _, nv (7 + v), rfl, rfl, (by show V.int (7 + (v : Int)) = V.int ((7 + v : Nat) : Int); push_cast; rfl), ?_⟩⟩
  have t7 := t6.trans s12'
  have ev : (((7 + v : Nat) : Int)).toNat = 7 + v := Int.toNat_natCast _
  refine ⟨_, rfl, ((7 + v : Nat) : Int), rfl, by omega, by omega, fun w hw => ?_⟩
  rw [ev]
  refine comp_rng1 (fun i Hc => Same H12 Hc ∧ ∃ rw, RowsV Hc w rw ∧ rw.length = i) ⟨same_new hw _, [], ⟨[], upd_same, rfl, fun j b e => by simp at e⟩, rfl⟩ (fun k Hc hk hP => ?_) (fun H13 h13 => ?_)
  · obtain ⟨sP, rw', ⟨ws, g1, g2, g3⟩, g4⟩ := hP
    intro K1 K0 k1 k0
    unfold fNil
    dsimp only
    rw [if_pos rfl]
    refine ⟨_, rfl, _, _, rfl, rfl, CMul.ok (.inr ⟨by decide, by decide⟩), _, _, rfl, rfl, _, 3, rfl, by decide, fun Hd sd => ⟨(by show 2 ≤ sizeLine; decide), fun b2 hb2 => ?_⟩⟩
    have sb2 := sd.trans (same_new hb2 (.tup [sv (wordL (((0 : Int) + (k : Int)) * 31 + 7) 3), V.str "k"]))
    refine k1 (.ref b2) _ _ (sb2 _ _ g1) (by rw [List.length_map, sizeLine_eq]; omega) ⟨(sP.trans sb2).upd hw _, _, RowsV.push (sb2 _ _ g1) g2 (fun i p e => ?_) upd_same, by rw [List.length_append, g4]; rfl⟩
    obtain ⟨n, k, e1, e2⟩ := g3 i p e
    exact ⟨n, k, e1, sb2 _ _ e2⟩
  obtain ⟨s13', rw', hRw, hrwl⟩ := h13
  dsimp only [gName]
  refine seq_join (fun σ' H' => σ' = [some (.ref a), some (.ref l), some (.ref r), some (.ref b), some (.ref fl), some (.ref hd), some (nv (7 + v)), some (.ref w)] ∧ Same H12 H' ∧ ∃ rw, RowsV H' w rw ∧ rw.length = 7 + v) (fun join => ?_) (fun σ' H' hM => ?_)
  · have t8 := t7.trans s13'
    refine ⟨_, rfl, a, sc, 11, rfl, t8.seq hS4, by decide, fun H14 s14' => ⟨_, _, rfl, rfl, (by show (0 : Int) < 2; decide), rfl, _, rfl, ite2 (fun _ => ?_) (fun _ => ?_)⟩⟩
    · have t9 := t8.trans s14'
      obtain ⟨j, hj, hjl⟩ := modn (cellN sc 11 / 2) (7 + v) (by omega)
      refine ⟨_, rfl, a, sc, 12, rfl, t9.seq hS4, by decide, fun Ha sa => ⟨_, rfl, fun v1 Hb sb _ _ _ => ⟨_, rfl, a, sc, 9, rfl, ((t9.trans sa).trans sb).seq hS4, by decide, fun Hc sc' => ⟨_, rfl, fun v2 Hd sd _ _ _ => ⟨(by show 2 ≤ sizeLine; decide), fun pn hpn => ?_⟩⟩⟩⟩⟩
      have sA := (((sa.trans sb).trans sc').trans sd).trans (same_new hpn (.tup [v1, v2]))
      have hpn2 : upd Hd pn (.tup [v1, v2]) pn = some (.tup [v1, v2]) := upd_same
      generalize upd Hd pn (.tup [v1, v2]) = He at sA hpn2 ⊢
      refine ⟨_, rfl, _, rfl, a, sc, 11, rfl, (t9.trans sA).seq hS4, by decide, fun Hg sg => ⟨_, _, rfl, rfl, ⟨by decide, by decide⟩, _, rfl, _, _, nv j, rfl, rfl, (by show (0 : Int) < ((7 + v : Nat) : Int); omega), congrArg V.int hj, ?_⟩⟩
      obtain ⟨ws, g1, g2, g3⟩ := hRw
      have sB := (s14'.trans sA).trans sg
      refine ⟨w, _, _, j, rfl, rfl, sB _ _ g1, ixN_nat (by rw [List.length_map]; omega), ?_⟩
      have nw : ∀ d u, Hg d = some (.tup u) → d ≠ w := fun d u e z => by subst z; rw [sB _ _ g1] at e; cases e
      refine join _ _ ⟨rfl, (s13'.trans sB).upd hw _, rw'.set j (v1, v2), RowsV.set (H := Hg) (r := w) (ps := ws) g2 (fun i p e => ?_) upd_same (by rw [upd_ne (nw _ _ (sg _ _ hpn2))]; exact sg _ _ hpn2), by rw [List.length_set]; exact hrwl⟩
      obtain ⟨n, k, e1, e2⟩ := g3 i p e
      exact ⟨n, k, e1, by rw [upd_ne (nw _ _ (sB _ _ e2))]; exact sB _ _ e2⟩
    · exact join _ _ ⟨rfl, s13'.trans s14', rw', hRw.same s14', hrwl⟩
  clear hrwl hRw s13' rw'
  obtain ⟨rfl, s13', rw', hRw, hrwl⟩ := hM
  refine ⟨_, rfl, w, 7 + v, rfl, ⟨rw', hRw, hrwl, by omega⟩, fun Ha sa => ⟨_, rfl, iteF ⟨_, rfl, w, rfl, .inr ⟨7 + v, rw', hRw.same sa, hrwl, by omega⟩, fun Hb sb => ⟨_, rfl, iteF ?_⟩⟩⟩⟩
  have t8 := ((t7.trans s13').trans sa).trans sb
  obtain ⟨ws, g1, _⟩ := hRw.same (sa.trans sb)
  refine ⟨_, rfl, _, rfl, w, _, rfl, SqL.of g1, fun p3 hp3 => ⟨(by show 0 ≤ sizeLine; decide), fun p4 hp4 => ?_⟩⟩
  have u1 := same_new hp3 (.lst (cutV (ws.map V.ref) none (some 0)))
  have c3 : upd Hb p3 (.lst (cutV (ws.map V.ref) none (some 0))) p3 = some (.lst []) := by rw [upd_same, cut0]
  have u2 := same_new hp4 (.lst [])
  have t9 := (t8.trans u1).trans u2
  refine ⟨p3, p4, [], [], rfl, ⟨[], u2 _ _ c3, rfl, rfl, fun i p e => by simp at e⟩, ⟨by decide, by simp, by simp, by simp⟩, upd_same, fun Hd sd => ⟨_, rfl, iteT ?_⟩⟩
  exact ⟨_, rfl, _, rfl, r, l, ns, ks, rfl, hRA.same (t9.trans sd), hG, (t9.trans sd) _ _ hl4, fun He se => q He⟩
end
end My


set_option Elab.async false
set_option linter.all false
set_option maxRecDepth 100000
set_option maxHeartbeats 4000000
namespace My
open PySem PySem.Spec PyProof.Rows L2 GM
noncomputable def mroB (K : PySem.W.Frag) (C D : Addr) : Bool := match PySem.W.clsIn K C with
  | some cd => decide (cd.mro = .ref C :: .ref D :: veM) && cd.hasDict
  | none => false
theorem setB_of {K : PySem.W.Frag} {C D : Addr} {f : Str} (h1 : PySem.W.findIn K (.ref C) "__setattr__" = some (some (.builtin "object.__setattr__"))) (h2 : PySem.W.findIn K (.ref C) f = some none) (h3 : mroB K C D = true) : SetB K C f := by
  refine ⟨h1, h2, ?_⟩
  unfold mroB at h3
  split at h3
  · rename_i cd e
    rw [Bool.and_eq_true, decide_eq_true_eq] at h3
    exact ⟨cd, D, e, h3.1, h3.2⟩
  · cases h3
theorem all_mk {l : PySem.W.OpenLaw} {w : World} {K : PySem.W.Frag} {h : Heap} {mg : Str → Option Value} {fa : Addr} (X : K.In h) (G : h.Ns mainGlobals mg) (hfa : mg "law" = some (.ref fa))
    {c_Stock : Addr}
    {c_NoName c_TooMany DH : Addr} {dCN : Option Addr} {cCN : ClassData} {sCN : Array (Option Value)} {dCT : Option Addr} {cCT : ClassData} {sCT : Array (Option Value)} {dCH : Option Addr} {cCH : ClassData} {sCH : Array (Option Value)} {d_NoBid : Addr} {d_NoBundle : Addr} {d_NoNumber : Addr} {d_NoPaper : Addr} {d_NoRow : Addr} {d_BadStep : Addr} {d_NoText : Addr} {d_TooLate : Addr}
    (b_Stock : PySem.W.nsIn K mainGlobals "Stock" = some (some (.ref c_Stock)))
    (pg_Stock : PySem.W.plainGet K c_Stock Str.empty = true)
    (hd_Stock : PySem.W.hasDictIn K c_Stock = true)
    (po_Stock : PySem.W.plainOver K c_Stock = true)
    (sa_Stock : PySem.W.findIn K (.ref c_Stock) "__setattr__" = some (some (.builtin "object.__setattr__")))
    (mk_Stock : PySem.W.makesIn K c_Stock = true)
    (kp_Stock : PySem.W.keepIn K (.ref c_Stock) = true)
    (no_Stock_numbers : PySem.W.findIn K (.ref c_Stock) "numbers" = some none)
    (no_Stock_kinds : PySem.W.findIn K (.ref c_Stock) "kinds" = some none)
    (t1_Stock : PySem.W.findIn K (.ref c_Stock) "__class__" = some (some (.builtin "object.__class__")))
    (t2_Stock : PySem.W.specialIn K (.builtin "object.__class__") "__get__" = some (some (.builtin "getset_descriptor.__get__")))
    (t3_Stock : PySem.W.takesIn K (.builtin "object.__class__") = some true)
    (t4_Stock : PySem.W.mroIn K c_Stock (.type "object") = some true)
    {f0 : Addr} {od0 an0 : Option Addr} {sl0 : Array (Option Value)} {oc0 kV0 dc0 pm0 cd0 ct0 : Value}
    (a0 : PySem.W.nsIn K mainGlobals "is_name" = some (some (.ref f0))) (l0 : K.lookup f0 = some ⟨oc0, od0, .func (PySem.W.fnOf "is_name" "is_name" (defArgs s_P_is_name) (defBody s_P_is_name) (defScope s_P_is_name) .none kV0 dc0 pm0 an0 cd0 ct0), sl0⟩) (c0 : PySem.W.codeIn K cd0 "is_name" = true) (k0 : PySem.W.keepIn K (.ref f0) = true)
    {f1 : Addr} {od1 an1 : Option Addr} {sl1 : Array (Option Value)} {oc1 kV1 dc1 pm1 cd1 ct1 : Value}
    (a1 : PySem.W.nsIn K mainGlobals "_law_cell" = some (some (.ref f1))) (l1 : K.lookup f1 = some ⟨oc1, od1, .func (PySem.W.fnOf "_law_cell" "_law_cell" (defArgs s_L_cell) (defBody s_L_cell) (defScope s_L_cell) .none kV1 dc1 pm1 an1 cd1 ct1), sl1⟩) (c1 : PySem.W.codeIn K cd1 "_law_cell" = true) (k1 : PySem.W.keepIn K (.ref f1) = true)
    {f2 : Addr} {od2 an2 : Option Addr} {sl2 : Array (Option Value)} {oc2 kV2 dc2 pm2 cd2 ct2 : Value}
    (a2 : PySem.W.nsIn K mainGlobals "_law_word" = some (some (.ref f2))) (l2 : K.lookup f2 = some ⟨oc2, od2, .func (PySem.W.fnOf "_law_word" "_law_word" (defArgs s_L_word) (defBody s_L_word) (defScope s_L_word) .none kV2 dc2 pm2 an2 cd2 ct2), sl2⟩) (c2 : PySem.W.codeIn K cd2 "_law_word" = true) (k2 : PySem.W.keepIn K (.ref f2) = true)
    {f3 : Addr} {od3 an3 : Option Addr} {sl3 : Array (Option Value)} {oc3 kV3 dc3 pm3 cd3 ct3 : Value}
    (a3 : PySem.W.nsIn K mainGlobals "_law_names" = some (some (.ref f3))) (l3 : K.lookup f3 = some ⟨oc3, od3, .func (PySem.W.fnOf "_law_names" "_law_names" (defArgs s_L_names) (defBody s_L_names) (defScope s_L_names) .none kV3 dc3 pm3 an3 cd3 ct3), sl3⟩) (c3 : PySem.W.codeIn K cd3 "_law_names" = true) (k3 : PySem.W.keepIn K (.ref f3) = true)
    {f4 : Addr} {od4 an4 : Option Addr} {sl4 : Array (Option Value)} {oc4 kV4 dc4 pm4 cd4 ct4 : Value}
    (a4 : PySem.W.nsIn K mainGlobals "_law_kinds" = some (some (.ref f4))) (l4 : K.lookup f4 = some ⟨oc4, od4, .func (PySem.W.fnOf "_law_kinds" "_law_kinds" (defArgs s_L_kinds) (defBody s_L_kinds) (defScope s_L_kinds) .none kV4 dc4 pm4 an4 cd4 ct4), sl4⟩) (c4 : PySem.W.codeIn K cd4 "_law_kinds" = true) (k4 : PySem.W.keepIn K (.ref f4) = true)
    {f5 : Addr} {od5 an5 : Option Addr} {sl5 : Array (Option Value)} {oc5 kV5 dc5 pm5 cd5 ct5 : Value}
    (a5 : PySem.W.nsIn K mainGlobals "_law_other" = some (some (.ref f5))) (l5 : K.lookup f5 = some ⟨oc5, od5, .func (PySem.W.fnOf "_law_other" "_law_other" (defArgs s_L_other) (defBody s_L_other) (defScope s_L_other) .none kV5 dc5 pm5 an5 cd5 ct5), sl5⟩) (c5 : PySem.W.codeIn K cd5 "_law_other" = true) (k5 : PySem.W.keepIn K (.ref f5) = true)
    {f6 : Addr} {od6 an6 : Option Addr} {sl6 : Array (Option Value)} {oc6 kV6 dc6 pm6 cd6 ct6 : Value}
    (a6 : PySem.W.nsIn K mainGlobals "_law_same" = some (some (.ref f6))) (l6 : K.lookup f6 = some ⟨oc6, od6, .func (PySem.W.fnOf "_law_same" "_law_same" (defArgs s_L_same) (defBody s_L_same) (defScope s_L_same) .none kV6 dc6 pm6 an6 cd6 ct6), sl6⟩) (c6 : PySem.W.codeIn K cd6 "_law_same" = true) (k6 : PySem.W.keepIn K (.ref f6) = true)
    {f7 : Addr} {od7 an7 : Option Addr} {sl7 : Array (Option Value)} {oc7 kV7 dc7 pm7 cd7 ct7 : Value}
    (a7 : PySem.W.nsIn K mainGlobals "_law_refused" = some (some (.ref f7))) (l7 : K.lookup f7 = some ⟨oc7, od7, .func (PySem.W.fnOf "_law_refused" "_law_refused" (defArgs s_L_refused) (defBody s_L_refused) (defScope s_L_refused) .none kV7 dc7 pm7 an7 cd7 ct7), sl7⟩) (c7 : PySem.W.codeIn K cd7 "_law_refused" = true) (k7 : PySem.W.keepIn K (.ref f7) = true)
    {f8 : Addr} {od8 an8 : Option Addr} {sl8 : Array (Option Value)} {oc8 kV8 dc8 pm8 cd8 ct8 : Value}
    (a8 : PySem.W.nsIn K mainGlobals "_law_too_many" = some (some (.ref f8))) (l8 : K.lookup f8 = some ⟨oc8, od8, .func (PySem.W.fnOf "_law_too_many" "_law_too_many" (defArgs s_L_too_many) (defBody s_L_too_many) (defScope s_L_too_many) .none kV8 dc8 pm8 an8 cd8 ct8), sl8⟩) (c8 : PySem.W.codeIn K cd8 "_law_too_many" = true) (k8 : PySem.W.keepIn K (.ref f8) = true)
    {f9 : Addr} {od9 an9 : Option Addr} {sl9 : Array (Option Value)} {oc9 kV9 dc9 pm9 cd9 ct9 : Value}
    (a9 : PySem.W.nsIn K mainGlobals "_law_by_base" = some (some (.ref f9))) (l9 : K.lookup f9 = some ⟨oc9, od9, .func (PySem.W.fnOf "_law_by_base" "_law_by_base" (defArgs s_L_by_base) (defBody s_L_by_base) (defScope s_L_by_base) .none kV9 dc9 pm9 an9 cd9 ct9), sl9⟩) (c9 : PySem.W.codeIn K cd9 "_law_by_base" = true) (k9 : PySem.W.keepIn K (.ref f9) = true)
    {f10 : Addr} {od10 an10 : Option Addr} {sl10 : Array (Option Value)} {oc10 kV10 dc10 pm10 cd10 ct10 : Value}
    (a10 : PySem.W.nsIn K mainGlobals "_law_odd" = some (some (.ref f10))) (l10 : K.lookup f10 = some ⟨oc10, od10, .func (PySem.W.fnOf "_law_odd" "_law_odd" (defArgs s_L_odd) (defBody s_L_odd) (defScope s_L_odd) .none kV10 dc10 pm10 an10 cd10 ct10), sl10⟩) (c10 : PySem.W.codeIn K cd10 "_law_odd" = true) (k10 : PySem.W.keepIn K (.ref f10) = true)
    {f11 : Addr} {od11 an11 : Option Addr} {sl11 : Array (Option Value)} {oc11 kV11 dc11 pm11 cd11 ct11 : Value}
    (a11 : PySem.W.nsIn K mainGlobals "_law_good" = some (some (.ref f11))) (l11 : K.lookup f11 = some ⟨oc11, od11, .func (PySem.W.fnOf "_law_good" "_law_good" (defArgs s_L_good) (defBody s_L_good) (defScope s_L_good) .none kV11 dc11 pm11 an11 cd11 ct11), sl11⟩) (c11 : PySem.W.codeIn K cd11 "_law_good" = true) (k11 : PySem.W.keepIn K (.ref f11) = true)
    {f12 : Addr} {od12 an12 : Option Addr} {sl12 : Array (Option Value)} {oc12 kV12 dc12 pm12 cd12 ct12 : Value}
    (a12 : PySem.W.nsIn K mainGlobals "_law_fault" = some (some (.ref f12))) (l12 : K.lookup f12 = some ⟨oc12, od12, .func (PySem.W.fnOf "_law_fault" "_law_fault" (defArgs s_L_fault) (defBody s_L_fault) (defScope s_L_fault) .none kV12 dc12 pm12 an12 cd12 ct12), sl12⟩) (c12 : PySem.W.codeIn K cd12 "_law_fault" = true) (k12 : PySem.W.keepIn K (.ref f12) = true)
    {f13 : Addr} {od13 an13 : Option Addr} {sl13 : Array (Option Value)} {oc13 kV13 dc13 pm13 cd13 ct13 : Value}
    (a13 : PySem.W.nsIn K mainGlobals "_law_spoilt" = some (some (.ref f13))) (l13 : K.lookup f13 = some ⟨oc13, od13, .func (PySem.W.fnOf "_law_spoilt" "_law_spoilt" (defArgs s_L_spoilt) (defBody s_L_spoilt) (defScope s_L_spoilt) .none kV13 dc13 pm13 an13 cd13 ct13), sl13⟩) (c13 : PySem.W.codeIn K cd13 "_law_spoilt" = true) (k13 : PySem.W.keepIn K (.ref f13) = true)
    {f14 : Addr} {od14 an14 : Option Addr} {sl14 : Array (Option Value)} {oc14 kV14 dc14 pm14 cd14 ct14 : Value}
    (a14 : PySem.W.nsIn K mainGlobals "_law_taken" = some (some (.ref f14))) (l14 : K.lookup f14 = some ⟨oc14, od14, .func (PySem.W.fnOf "_law_taken" "_law_taken" (defArgs s_L_taken) (defBody s_L_taken) (defScope s_L_taken) .none kV14 dc14 pm14 an14 cd14 ct14), sl14⟩) (c14 : PySem.W.codeIn K cd14 "_law_taken" = true) (k14 : PySem.W.keepIn K (.ref f14) = true)
    {f15 : Addr} {od15 an15 : Option Addr} {sl15 : Array (Option Value)} {oc15 kV15 dc15 pm15 cd15 ct15 : Value}
    (a15 : PySem.W.nsIn K mainGlobals "law" = some (some (.ref f15))) (l15 : K.lookup f15 = some ⟨oc15, od15, .func (PySem.W.fnOf "law" "law" (defArgs s_law) (defBody s_law) (defScope s_law) .none kV15 dc15 pm15 an15 cd15 ct15), sl15⟩) (c15 : PySem.W.codeIn K cd15 "law" = true) (k15 : PySem.W.keepIn K (.ref f15) = true)
    {f16 : Addr} {od16 an16 : Option Addr} {sl16 : Array (Option Value)} {oc16 kV16 dc16 pm16 cd16 ct16 : Value}
    (a16 : PySem.W.findIn K (.ref c_Stock) "__init__" = some (some (.ref f16))) (l16 : K.lookup f16 = some ⟨oc16, od16, .func (PySem.W.fnOf "__init__" "Stock.__init__" (defArgs s_M_Stock___init__) (defBody s_M_Stock___init__) (defScope s_M_Stock___init__) .none kV16 dc16 pm16 an16 cd16 ct16), sl16⟩) (c16 : PySem.W.codeIn K cd16 "Stock.__init__" = true) (k16 : PySem.W.keepIn K (.ref f16) = true) (n16 : PySem.W.isFn K (.ref f16) = true)
    {f17 : Addr} {od17 an17 : Option Addr} {sl17 : Array (Option Value)} {oc17 kV17 dc17 pm17 cd17 ct17 : Value}
    (a17 : PySem.W.findIn K (.ref c_Stock) "names" = some (some (.ref f17))) (l17 : K.lookup f17 = some ⟨oc17, od17, .func (PySem.W.fnOf "names" "Stock.names" (defArgs s_M_Stock_names) (defBody s_M_Stock_names) (defScope s_M_Stock_names) .none kV17 dc17 pm17 an17 cd17 ct17), sl17⟩) (c17 : PySem.W.codeIn K cd17 "Stock.names" = true) (k17 : PySem.W.keepIn K (.ref f17) = true) (n17 : PySem.W.isFn K (.ref f17) = true)
    {f18 : Addr} {od18 an18 : Option Addr} {sl18 : Array (Option Value)} {oc18 kV18 dc18 pm18 cd18 ct18 : Value}
    (a18 : PySem.W.findIn K (.ref c_NoName) "__init__" = some (some (.ref f18))) (l18 : K.lookup f18 = some ⟨oc18, od18, .func (PySem.W.fnOf "__init__" "NoName.__init__" (defArgs s_M_NoName___init__) (defBody s_M_NoName___init__) (defScope s_M_NoName___init__) .none kV18 dc18 pm18 an18 cd18 ct18), sl18⟩) (c18 : PySem.W.codeIn K cd18 "NoName.__init__" = true) (k18 : PySem.W.keepIn K (.ref f18) = true) (n18 : PySem.W.isFn K (.ref f18) = true)
    {f19 : Addr} {od19 an19 : Option Addr} {sl19 : Array (Option Value)} {oc19 kV19 dc19 pm19 cd19 ct19 : Value}
    (a19 : PySem.W.findIn K (.ref c_TooMany) "__init__" = some (some (.ref f19))) (l19 : K.lookup f19 = some ⟨oc19, od19, .func (PySem.W.fnOf "__init__" "TooMany.__init__" (defArgs s_M_TooMany___init__) (defBody s_M_TooMany___init__) (defScope s_M_TooMany___init__) .none kV19 dc19 pm19 an19 cd19 ct19), sl19⟩) (c19 : PySem.W.codeIn K cd19 "TooMany.__init__" = true) (k19 : PySem.W.keepIn K (.ref f19) = true) (n19 : PySem.W.isFn K (.ref f19) = true)
    (z_all : PySem.W.nsIn K mainGlobals "all" = some none)
    (z_isinstance : PySem.W.nsIn K mainGlobals "isinstance" = some none)
    (z_str : PySem.W.nsIn K mainGlobals "str" = some none)
    (z_len : PySem.W.nsIn K mainGlobals "len" = some none)
    (z_range : PySem.W.nsIn K mainGlobals "range" = some none)
    (z_divmod : PySem.W.nsIn K mainGlobals "divmod" = some none)
    (z_list : PySem.W.nsIn K mainGlobals "list" = some none)
    (z_reversed : PySem.W.nsIn K mainGlobals "reversed" = some none)
    (z_bool : PySem.W.nsIn K mainGlobals "bool" = some none)
    (z_ValueError : PySem.W.nsIn K mainGlobals "ValueError" = some none)
    (z_zip : PySem.W.nsIn K mainGlobals "zip" = some none)
    (z_enumerate : PySem.W.nsIn K mainGlobals "enumerate" = some none)
    (b_HallError : PySem.W.nsIn K mainGlobals "HallError" = some (some (.ref DH)))
    (b_NoName : PySem.W.nsIn K mainGlobals "NoName" = some (some (.ref c_NoName)))
    (b_TooMany : PySem.W.nsIn K mainGlobals "TooMany" = some (some (.ref c_TooMany)))
    (b_NoBid : PySem.W.nsIn K mainGlobals "NoBid" = some (some (.ref d_NoBid)))
    (b_NoBundle : PySem.W.nsIn K mainGlobals "NoBundle" = some (some (.ref d_NoBundle)))
    (b_NoNumber : PySem.W.nsIn K mainGlobals "NoNumber" = some (some (.ref d_NoNumber)))
    (b_NoPaper : PySem.W.nsIn K mainGlobals "NoPaper" = some (some (.ref d_NoPaper)))
    (b_NoRow : PySem.W.nsIn K mainGlobals "NoRow" = some (some (.ref d_NoRow)))
    (b_BadStep : PySem.W.nsIn K mainGlobals "BadStep" = some (some (.ref d_BadStep)))
    (b_NoText : PySem.W.nsIn K mainGlobals "NoText" = some (some (.ref d_NoText)))
    (b_TooLate : PySem.W.nsIn K mainGlobals "TooLate" = some (some (.ref d_TooLate)))
    (q_NoBidN : PySem.W.kitOne K (.ref c_NoName) (.ref d_NoBid) = some false)
    (q_NoBundleN : PySem.W.kitOne K (.ref c_NoName) (.ref d_NoBundle) = some false)
    (q_NoNumberN : PySem.W.kitOne K (.ref c_NoName) (.ref d_NoNumber) = some false)
    (q_NoPaperN : PySem.W.kitOne K (.ref c_NoName) (.ref d_NoPaper) = some false)
    (q_NoRowN : PySem.W.kitOne K (.ref c_NoName) (.ref d_NoRow) = some false)
    (q_BadStepN : PySem.W.kitOne K (.ref c_NoName) (.ref d_BadStep) = some false)
    (q_NoTextN : PySem.W.kitOne K (.ref c_NoName) (.ref d_NoText) = some false)
    (q_TooLateN : PySem.W.kitOne K (.ref c_NoName) (.ref d_TooLate) = some false)
    (q_othN : PySem.W.kitOne K (.ref c_NoName) (.ref c_TooMany) = some false)
    (e_ownN : exdIn K c_NoName veM "ValueError.__new__" = true)
    (e_mroN : mroB K c_NoName DH = true)
    (e_objN : PySem.W.mroIn K c_NoName (.type "object") = some true)
    (e_excN : PySem.W.mroIn K c_NoName (.type "BaseException") = some true)
    (e_attN : PySem.W.findIn K (.ref c_NoName) "__class__" = some (some (.builtin "object.__class__")))
    (e_gaN : PySem.W.findIn K (.ref c_NoName) "__getattribute__" = some (some (.builtin "BaseException.__getattribute__")))
    (e_gtN : PySem.W.findIn K (.ref c_NoName) "__getattr__" = some none)
    (e_saN : PySem.W.findIn K (.ref c_NoName) "__setattr__" = some (some (.builtin "object.__setattr__")))
    (e_noN : PySem.W.findIn K (.ref c_NoName) "name" = some none)
    (e_hdN : PySem.W.hasDictIn K c_NoName = true)
    (e_kpN : PySem.W.keepIn K (.ref c_NoName) = true)
    (q_valN : PySem.W.kitOne K (.ref c_NoName) (.type "ValueError") = some true)
    (q_hallN : PySem.W.kitOne K (.ref c_NoName) (.ref DH) = some true)
    (e_slkN : K.lookup c_NoName = some ⟨.type "type", dCN, .cls cCN, sCN⟩)
    (e_slfN : PySem.W.mroIn K c_NoName (.ref c_NoName) = some true)
    (e_hmN : PySem.W.mroIn K c_NoName (.ref DH) = some true)
    (q_NoBidT : PySem.W.kitOne K (.ref c_TooMany) (.ref d_NoBid) = some false)
    (q_NoBundleT : PySem.W.kitOne K (.ref c_TooMany) (.ref d_NoBundle) = some false)
    (q_NoNumberT : PySem.W.kitOne K (.ref c_TooMany) (.ref d_NoNumber) = some false)
    (q_NoPaperT : PySem.W.kitOne K (.ref c_TooMany) (.ref d_NoPaper) = some false)
    (q_NoRowT : PySem.W.kitOne K (.ref c_TooMany) (.ref d_NoRow) = some false)
    (q_BadStepT : PySem.W.kitOne K (.ref c_TooMany) (.ref d_BadStep) = some false)
    (q_NoTextT : PySem.W.kitOne K (.ref c_TooMany) (.ref d_NoText) = some false)
    (q_TooLateT : PySem.W.kitOne K (.ref c_TooMany) (.ref d_TooLate) = some false)
    (q_othT : PySem.W.kitOne K (.ref c_TooMany) (.ref c_NoName) = some false)
    (e_ownT : exdIn K c_TooMany veM "ValueError.__new__" = true)
    (e_mroT : mroB K c_TooMany DH = true)
    (e_objT : PySem.W.mroIn K c_TooMany (.type "object") = some true)
    (e_excT : PySem.W.mroIn K c_TooMany (.type "BaseException") = some true)
    (e_attT : PySem.W.findIn K (.ref c_TooMany) "__class__" = some (some (.builtin "object.__class__")))
    (e_gaT : PySem.W.findIn K (.ref c_TooMany) "__getattribute__" = some (some (.builtin "BaseException.__getattribute__")))
    (e_gtT : PySem.W.findIn K (.ref c_TooMany) "__getattr__" = some none)
    (e_saT : PySem.W.findIn K (.ref c_TooMany) "__setattr__" = some (some (.builtin "object.__setattr__")))
    (e_noT : PySem.W.findIn K (.ref c_TooMany) "number" = some none)
    (e_hdT : PySem.W.hasDictIn K c_TooMany = true)
    (e_kpT : PySem.W.keepIn K (.ref c_TooMany) = true)
    (q_valT : PySem.W.kitOne K (.ref c_TooMany) (.type "ValueError") = some true)
    (q_hallT : PySem.W.kitOne K (.ref c_TooMany) (.ref DH) = some true)
    (e_slkT : K.lookup c_TooMany = some ⟨.type "type", dCT, .cls cCT, sCT⟩)
    (e_slfT : PySem.W.mroIn K c_TooMany (.ref c_TooMany) = some true)
    (e_hmT : PySem.W.mroIn K c_TooMany (.ref DH) = some true)
    (e_iga : PySem.W.specialIn K (.ref DH) "__getattribute__" = some (some (.builtin "type.__getattribute__")))
    (e_ird : PySem.W.readsIn K DH (.type "type") = true)
    (e_ifd : PySem.W.findCls K (.ref DH) (.type "type") "__init__" = some (.val (.builtin "ValueError.__init__")))
    (e_hlk : K.lookup DH = some ⟨.type "type", dCH, .cls cCH, sCH⟩)
    (e_hex : PySem.W.mroIn K DH (.type "BaseException") = some true)
    : ∃ fd : FuncData, (∀ (s : Shared) (v : Value), BindsTo s fd ⟨[v], []⟩ [("_law_script", v)]) ∧ ∀ base : Heap, K.In base → base.Ns mainGlobals mg → FnOk l.prog w K mg base CX0 7 fa fd ["_law_script"] (sp_law K) := by
  have e := hfa.symm.trans (PySem.W.mg_of X G a15)
  cases e
  have F0 := fun_mk (st := s_P_is_name) l0 c0 k0
  have g0 := PySem.W.mg_of X G a0
  have F1 := fun_mk (st := s_L_cell) l1 c1 k1
  have g1 := PySem.W.mg_of X G a1
  have F2 := fun_mk (st := s_L_word) l2 c2 k2
  have g2 := PySem.W.mg_of X G a2
  have F3 := fun_mk (st := s_L_names) l3 c3 k3
  have g3 := PySem.W.mg_of X G a3
  have F4 := fun_mk (st := s_L_kinds) l4 c4 k4
  have g4 := PySem.W.mg_of X G a4
  have F5 := fun_mk (st := s_L_other) l5 c5 k5
  have g5 := PySem.W.mg_of X G a5
  have F6 := fun_mk (st := s_L_same) l6 c6 k6
  have g6 := PySem.W.mg_of X G a6
  have F7 := fun_mk (st := s_L_refused) l7 c7 k7
  have g7 := PySem.W.mg_of X G a7
  have F8 := fun_mk (st := s_L_too_many) l8 c8 k8
  have g8 := PySem.W.mg_of X G a8
  have F9 := fun_mk (st := s_L_by_base) l9 c9 k9
  have g9 := PySem.W.mg_of X G a9
  have F10 := fun_mk (st := s_L_odd) l10 c10 k10
  have g10 := PySem.W.mg_of X G a10
  have F11 := fun_mk (st := s_L_good) l11 c11 k11
  have g11 := PySem.W.mg_of X G a11
  have F12 := fun_mk (st := s_L_fault) l12 c12 k12
  have g12 := PySem.W.mg_of X G a12
  have F13 := fun_mk (st := s_L_spoilt) l13 c13 k13
  have g13 := PySem.W.mg_of X G a13
  have F14 := fun_mk (st := s_L_taken) l14 c14 k14
  have g14 := PySem.W.mg_of X G a14
  have F15 := fun_mk (st := s_law) l15 c15 k15
  have g15 := PySem.W.mg_of X G a15
  have F16 := fun_mk (st := s_M_Stock___init__) l16 c16 k16
  have F17 := fun_mk (st := s_M_Stock_names) l17 c17 k17
  have F18 := fun_mk (st := s_M_NoName___init__) l18 c18 k18
  have F19 := fun_mk (st := s_M_TooMany___init__) l19 c19 k19
  have m_all := PySem.W.mg_none_of X G z_all
  have m_isinstance := PySem.W.mg_none_of X G z_isinstance
  have m_str := PySem.W.mg_none_of X G z_str
  have m_len := PySem.W.mg_none_of X G z_len
  have m_range := PySem.W.mg_none_of X G z_range
  have m_divmod := PySem.W.mg_none_of X G z_divmod
  have m_list := PySem.W.mg_none_of X G z_list
  have m_reversed := PySem.W.mg_none_of X G z_reversed
  have m_bool := PySem.W.mg_none_of X G z_bool
  have m_ValueError := PySem.W.mg_none_of X G z_ValueError
  have m_zip := PySem.W.mg_none_of X G z_zip
  have m_enumerate := PySem.W.mg_none_of X G z_enumerate
  refine ⟨PySem.W.fnOf "law" "law" (defArgs s_law) (defBody s_law) (defScope s_law) .none kV15 dc15 pm15 an15 cd15 ct15, fun s v => .of_eq rfl, fun base KB _ => ?_⟩
  have C_HallError := PySem.W.mg_of X G b_HallError
  have ZI : InitB K DH := ⟨e_iga, e_ird, _, e_ifd, rfl⟩
  have OIN : OwnI c_NoName veM "ValueError.__new__" base := ownI_of KB e_ownN
  have ZSN : SetB K c_NoName "name" := setB_of e_saN e_noN e_mroN
  have ZN : ClX K mg c_NoName DH "NoName" "name" "TooMany" := ⟨PySem.W.mg_of X G b_NoName, ⟨e_objN, e_excN, e_attN, e_gaN, e_gtN⟩, q_valN, C_HallError, q_hallN, ⟨⟨_, _, _, e_hlk⟩, e_hex⟩, e_hmN, ⟨⟨_, _, _, e_slkN⟩, e_excN⟩, e_slfN, ⟨⟨e_objN, e_excN, e_attN, e_gaN, e_gtN⟩, e_noN, e_hdN⟩, ⟨c_TooMany, PySem.W.mg_of X G b_TooMany, q_othN⟩, ⟨d_NoBid, PySem.W.mg_of X G b_NoBid, q_NoBidN⟩, ⟨d_NoBundle, PySem.W.mg_of X G b_NoBundle, q_NoBundleN⟩, ⟨d_NoNumber, PySem.W.mg_of X G b_NoNumber, q_NoNumberN⟩, ⟨d_NoPaper, PySem.W.mg_of X G b_NoPaper, q_NoPaperN⟩, ⟨d_NoRow, PySem.W.mg_of X G b_NoRow, q_NoRowN⟩, ⟨d_BadStep, PySem.W.mg_of X G b_BadStep, q_BadStepN⟩, ⟨d_NoText, PySem.W.mg_of X G b_NoText, q_NoTextN⟩, ⟨d_TooLate, PySem.W.mg_of X G b_TooLate, q_TooLateN⟩⟩
  have OIT : OwnI c_TooMany veM "ValueError.__new__" base := ownI_of KB e_ownT
  have ZST : SetB K c_TooMany "number" := setB_of e_saT e_noT e_mroT
  have ZT : ClX K mg c_TooMany DH "TooMany" "number" "NoName" := ⟨PySem.W.mg_of X G b_TooMany, ⟨e_objT, e_excT, e_attT, e_gaT, e_gtT⟩, q_valT, C_HallError, q_hallT, ⟨⟨_, _, _, e_hlk⟩, e_hex⟩, e_hmT, ⟨⟨_, _, _, e_slkT⟩, e_excT⟩, e_slfT, ⟨⟨e_objT, e_excT, e_attT, e_gaT, e_gtT⟩, e_noT, e_hdT⟩, ⟨c_NoName, PySem.W.mg_of X G b_NoName, q_othT⟩, ⟨d_NoBid, PySem.W.mg_of X G b_NoBid, q_NoBidT⟩, ⟨d_NoBundle, PySem.W.mg_of X G b_NoBundle, q_NoBundleT⟩, ⟨d_NoNumber, PySem.W.mg_of X G b_NoNumber, q_NoNumberT⟩, ⟨d_NoPaper, PySem.W.mg_of X G b_NoPaper, q_NoPaperT⟩, ⟨d_NoRow, PySem.W.mg_of X G b_NoRow, q_NoRowT⟩, ⟨d_BadStep, PySem.W.mg_of X G b_BadStep, q_BadStepT⟩, ⟨d_NoText, PySem.W.mg_of X G b_NoText, q_NoTextT⟩, ⟨d_TooLate, PySem.W.mg_of X G b_TooLate, q_TooLateT⟩⟩
  have O_Stock : Own K mg "Stock" c_Stock ["numbers", "kinds"] := ⟨PySem.W.mg_of X G b_Stock, ⟨pg_Stock, hd_Stock, po_Stock, sa_Stock⟩, mk_Stock, kp_Stock, (by intro f hf; simp only [List.mem_cons, List.not_mem_nil, or_false] at hf; rcases hf with rfl | rfl <;> assumption), t1_Stock, t2_Stock, t3_Stock, t4_Stock⟩
  have D_P_is_name := ok_P_is_name (P := l.prog) (w := w) (base := base) F0 g0 m_all m_isinstance m_str m_len 
  have D_L_cell := ok_L_cell (P := l.prog) (w := w) (base := base) F1 g1 m_len 
  have D_L_word := ok_L_word (P := l.prog) (w := w) (base := base) F2 g2 m_range m_divmod 
  have D_L_names := ok_L_names (P := l.prog) (w := w) (base := base) F3 g3 m_range m_list m_reversed D_L_cell D_L_word
  have D_L_kinds := ok_L_kinds (P := l.prog) (w := w) (base := base) F4 g4 m_range m_len D_L_word D_L_cell
  have D_L_same := ok_L_same (P := l.prog) (w := w) (base := base) F6 g6 m_isinstance m_bool
  have FO_M_Stock___init__ := ok_M_Stock___init__ (P := l.prog) (w := w) (base := base) F16 m_enumerate m_len D_P_is_name O_Stock
  have MK_Stock : MakeD l.prog w K mg base 4 "Stock" c_Stock ["self", "rows"] (sp_M_Stock___init__ K c_Stock) := ⟨f16, _, FO_M_Stock___init__, bnd2 F16 fun _ _ _ _ _ _ _ _ => rfl, ⟨mk_Stock, a16, n16, kp_Stock⟩, O_Stock.at_⟩
  have D_L_refused := ok_L_refused (P := l.prog) (w := w) (base := base) F7 g7 m_isinstance m_ValueError (ok_L_other (P := l.prog) (w := w) (base := base) F5 g5 m_isinstance ZN) D_L_same ⟨f16, _, okN_M_Stock___init__ (P := l.prog) (w := w) (base := base) F16 m_enumerate m_len D_P_is_name O_Stock ⟨PySem.W.mg_of X G b_NoName, OIN, e_kpN, f18, _, ["self", "name"], a18, beq_iff_eq.mp n18, ok_M_NoName___init__ (P := l.prog) (w := w) (base := base) F18 O_Stock ZI OIN C_HallError ZSN, bnd2 F18 fun _ _ _ _ _ _ _ _ => rfl⟩, bnd2 F16 fun _ _ _ _ _ _ _ _ => rfl, ⟨mk_Stock, a16, n16, kp_Stock⟩, O_Stock.at_⟩ ZN
  have D_L_too_many := ok_L_too_many (P := l.prog) (w := w) (base := base) F8 g8 m_isinstance m_ValueError m_len (ok_L_other (P := l.prog) (w := w) (base := base) F5 g5 m_isinstance ZT) D_L_same ⟨f16, _, okT_M_Stock___init__ (P := l.prog) (w := w) (base := base) F16 m_enumerate m_len D_P_is_name O_Stock ⟨PySem.W.mg_of X G b_TooMany, OIT, e_kpT, f19, _, ["self", "number"], a19, beq_iff_eq.mp n19, ok_M_TooMany___init__ (P := l.prog) (w := w) (base := base) F19 O_Stock ZI OIT C_HallError ZST, bnd2 F19 fun _ _ _ _ _ _ _ _ => rfl⟩, bnd2 F16 fun _ _ _ _ _ _ _ _ => rfl, ⟨mk_Stock, a16, n16, kp_Stock⟩, O_Stock.at_⟩ ZT
  have D_L_by_base := ok_L_by_base (P := l.prog) (w := w) (base := base) F9 g9 ⟨f16, _, okN_M_Stock___init__ (P := l.prog) (w := w) (base := base) F16 m_enumerate m_len D_P_is_name O_Stock ⟨PySem.W.mg_of X G b_NoName, OIN, e_kpN, f18, _, ["self", "name"], a18, beq_iff_eq.mp n18, ok_M_NoName___init__ (P := l.prog) (w := w) (base := base) F18 O_Stock ZI OIN C_HallError ZSN, bnd2 F18 fun _ _ _ _ _ _ _ _ => rfl⟩, bnd2 F16 fun _ _ _ _ _ _ _ _ => rfl, ⟨mk_Stock, a16, n16, kp_Stock⟩, O_Stock.at_⟩ ⟨f16, _, okT_M_Stock___init__ (P := l.prog) (w := w) (base := base) F16 m_enumerate m_len D_P_is_name O_Stock ⟨PySem.W.mg_of X G b_TooMany, OIT, e_kpT, f19, _, ["self", "number"], a19, beq_iff_eq.mp n19, ok_M_TooMany___init__ (P := l.prog) (w := w) (base := base) F19 O_Stock ZI OIT C_HallError ZST, bnd2 F19 fun _ _ _ _ _ _ _ _ => rfl⟩, bnd2 F16 fun _ _ _ _ _ _ _ _ => rfl, ⟨mk_Stock, a16, n16, kp_Stock⟩, O_Stock.at_⟩ ZN ZT
  have D_L_odd := ok_L_odd (P := l.prog) (w := w) (base := base) F10 g10  
  have D_L_good := ok_L_good (P := l.prog) (w := w) (base := base) F11 g11 m_isinstance m_str m_len 
  have D_L_fault := ok_L_fault (P := l.prog) (w := w) (base := base) F12 g12  D_L_good
  have D_L_spoilt := ok_L_spoilt (P := l.prog) (w := w) (base := base) F13 g13 m_list D_L_odd
  have FO_M_Stock_names := ok_M_Stock_names (P := l.prog) (w := w) (base := base) F17 m_list  O_Stock
  have hT_names : ∀ C sp, T_names K c_Stock C sp → ∃ ps, MethD l.prog w K mg base 1 C "names" ps sp := by
    rintro C sp (⟨e1, e2⟩)
    · subst e2; rw [e1]; exact ⟨_, f17, _, (FO_M_Stock_names).mono (by decide), bnd1 F17 fun _ _ _ _ _ _ _ => rfl, ⟨a17, n17, k17⟩, O_Stock.cls⟩
  have D_L_taken := ok_L_taken (P := l.prog) (w := w) (base := base) F14 g14   O_Stock MK_Stock hT_names
  exact ok_law (P := l.prog) (w := w) (base := base) F15 g15 m_list m_zip m_len m_range D_L_names D_L_spoilt D_L_fault D_L_cell D_L_taken D_L_refused D_L_by_base D_L_word D_L_odd D_L_too_many D_L_kinds
theorem walk {l : PySem.W.OpenLaw} {q : Program} {loose : List Str} {XP : (Str → Option Value) → Heap → Prop} {YP : World → Heap → Prop} {d : DefRec} {K : Params → PySem.W.Frag} (hn : l.most = some 63) (hdf : d.params.defaults = [])
    (hY : ∀ (w : World) (h : Heap), YP w h → (K w.params).In h)
    (F : ∀ (w : World) (mg : Str → Option Value) (fa : Addr) (h : Heap), (K w.params).In h → h.Ns mainGlobals mg → mg d.name = some (.ref fa) →
      ∃ fd : FuncData, (∀ (s : Shared) (u : Value), BindsTo s fd ⟨[u], []⟩ [("_law_script", u)]) ∧ ∀ base : Heap, (K w.params).In base → base.Ns mainGlobals mg → FnOk l.prog w (K w.params) mg base CX0 7 fa fd ["_law_script"] (sp_law (K w.params))) :
    PySem.W.WalkO q loose XP YP l.row.toRowW d [] (fun f vs => PySem.call f vs) :=
  L2.walk_of (n := 63) (k := 7) (x := "_law_script") (CX := fun _ => CX0) (sp := fun w => sp_law (K w.params)) hn (by decide) hdf ⟨rfl, by decide, by decide⟩ hY F (fun _ _ a ns hl _ hS => ⟨a, ns, rfl, hS, hl, fun _ => rfl⟩) fun _ _ _ _ _ z => z
theorem walkX_of {q : Program} {loose : List Str} {XP : (Str → Option Value) → Heap → Prop} {K : Params → PySem.W.Frag} {as : List Addr} {n t : Nat} {r : PySem.W.RowW} {d : DefRec} {kwd : List (Str × Expr)} {run : Value → List Value → Sem Value} (e : ∀ P, as = (K P).map (·.1))
    (h : PySem.W.WalkO q loose XP (PySem.W.InK K) r d kwd run) : PySem.W.WalkX q loose XP (PySem.W.X.obsZ as) (PySem.W.X.valZ K n t) r d kwd run :=
  fun w s₀ s₁ mg mb G y a o pm cd doc dV kV h1 h2 h3 h4 h5 h6 args vals as' L hp hl hr hw hlo => h w s₀ s₁ mg mb G (PySem.W.InK.keeps w _ _ (PySem.W.X.z_facts e y).2.1 L.keeps) a o pm cd doc dV kV h1 h2 h3 h4 h5 h6 args vals as' hp hl hr hw hlo
end My
noncomputable def PySem.W.Fast.tw3744161116879726770 : Nat := 0
noncomputable def PySem.W.Fast.tw4134777674945934553 : Nat := 0
noncomputable def PySem.W.Fast.tw12111671116068947683 : Nat := 0
noncomputable def PySem.W.Fast.tw3499200979680547516 : Nat := 0
noncomputable def PySem.W.Fast.tw17474261745516379570 : Nat := 0
noncomputable def PySem.W.Fast.tw16440744534165048139 : Nat := 0
noncomputable def PySem.W.Fast.tw2657029949668463007 : Nat := 0
noncomputable def PySem.W.Fast.tw1497692158011213362 : Nat := 0
noncomputable def PySem.W.Fast.tw13675155536216391720 : Nat := 0
noncomputable def PySem.W.Fast.tw17233453529119280448 : Nat := 0
noncomputable def PySem.W.Fast.tw12913972815827644477 : Nat := 0
noncomputable def PySem.W.Fast.tw17909270817319977436 : Nat := 0
noncomputable def PySem.W.Fast.tw15517570426072126364 : Nat := 0
noncomputable def PySem.W.Fast.tw3847453636820510125 : Nat := 0
noncomputable def PySem.W.Fast.tw7199584026100367115 : Nat := 0
noncomputable def PySem.W.Fast.tw6272190781616463986 : Nat := 0
noncomputable def PySem.W.Fast.tw11916855002254373917 : Nat := 0
open PySem PySem.W PyProof.Rows
set_option maxRecDepth 100000 in
set_option maxHeartbeats 0 in
theorem PySem.Challenge.cw_gavelhall_k32_names_refused_holds : PySem.Challenge.rw_gavelhall_k32_names_refused.Holds := by
  w_on; o_law; z_head; (case hw => w_witness2)
  k_fill
  refine My.walkX_of (fun _ => by kernel_rfl) (My.walk (l := PySem.Challenge.rw_gavelhall_k32_names_refused) rfl rfl (fun w h Y => Y) ?F)
  case F =>
    intro w mg fa h KX G hmg
    refine' My.all_mk KX G hmg ?b_Stock ?pg_Stock ?hd_Stock ?po_Stock ?sa_Stock ?mk_Stock ?kp_Stock ?no_Stock_numbers ?no_Stock_kinds ?t1_Stock ?t2_Stock ?t3_Stock ?t4_Stock ?a0 ?l0 ?c0 ?k0 ?a1 ?l1 ?c1 ?k1 ?a2 ?l2 ?c2 ?k2 ?a3 ?l3 ?c3 ?k3 ?a4 ?l4 ?c4 ?k4 ?a5 ?l5 ?c5 ?k5 ?a6 ?l6 ?c6 ?k6 ?a7 ?l7 ?c7 ?k7 ?a8 ?l8 ?c8 ?k8 ?a9 ?l9 ?c9 ?k9 ?a10 ?l10 ?c10 ?k10 ?a11 ?l11 ?c11 ?k11 ?a12 ?l12 ?c12 ?k12 ?a13 ?l13 ?c13 ?k13 ?a14 ?l14 ?c14 ?k14 ?a15 ?l15 ?c15 ?k15 ?a16 ?l16 ?c16 ?k16 ?n16 ?a17 ?l17 ?c17 ?k17 ?n17 ?a18 ?l18 ?c18 ?k18 ?n18 ?a19 ?l19 ?c19 ?k19 ?n19 ?z_all ?z_isinstance ?z_str ?z_len ?z_range ?z_divmod ?z_list ?z_reversed ?z_bool ?z_ValueError ?z_zip ?z_enumerate ?b_HallError ?b_NoName ?b_TooMany ?b_NoBid ?b_NoBundle ?b_NoNumber ?b_NoPaper ?b_NoRow ?b_BadStep ?b_NoText ?b_TooLate ?q_NoBidN ?q_NoBundleN ?q_NoNumberN ?q_NoPaperN ?q_NoRowN ?q_BadStepN ?q_NoTextN ?q_TooLateN ?q_othN ?e_ownN ?e_mroN ?e_objN ?e_excN ?e_attN ?e_gaN ?e_gtN ?e_saN ?e_noN ?e_hdN ?e_kpN ?q_valN ?q_hallN ?e_slkN ?e_slfN ?e_hmN ?q_NoBidT ?q_NoBundleT ?q_NoNumberT ?q_NoPaperT ?q_NoRowT ?q_BadStepT ?q_NoTextT ?q_TooLateT ?q_othT ?e_ownT ?e_mroT ?e_objT ?e_excT ?e_attT ?e_gaT ?e_gtT ?e_saT ?e_noT ?e_hdT ?e_kpT ?q_valT ?q_hallT ?e_slkT ?e_slfT ?e_hmT ?e_iga ?e_ird ?e_ifd ?e_hlk ?e_hex
    (case b_HallError => k_is)
    (case b_NoName => k_is)
    (case b_TooMany => k_is)
    (case b_NoBid => k_is)
    (case b_NoBundle => k_is)
    (case b_NoNumber => k_is)
    (case b_NoPaper => k_is)
    (case b_NoRow => k_is)
    (case b_BadStep => k_is)
    (case b_NoText => k_is)
    (case b_TooLate => k_is)
    (case b_Stock => k_is)
    (case pg_Stock => k_is)
    (case hd_Stock => k_is)
    (case po_Stock => k_is)
    (case sa_Stock => k_is)
    (case mk_Stock => k_is)
    (case kp_Stock => k_is)
    (case no_Stock_numbers => k_is)
    (case no_Stock_kinds => k_is)
    (case t1_Stock => k_is)
    (case t2_Stock => k_is)
    (case t3_Stock => k_is)
    (case t4_Stock => k_is)
    (case a0 => k_is)
    (case l0 => k_is)
    (case c0 => k_is)
    (case k0 => k_is)
    (case a1 => k_is)
    (case l1 => k_is)
    (case c1 => k_is)
    (case k1 => k_is)
    (case a2 => k_is)
    (case l2 => k_is)
    (case c2 => k_is)
    (case k2 => k_is)
    (case a3 => k_is)
    (case l3 => k_is)
    (case c3 => k_is)
    (case k3 => k_is)
    (case a4 => k_is)
    (case l4 => k_is)
    (case c4 => k_is)
    (case k4 => k_is)
    (case a5 => k_is)
    (case l5 => k_is)
    (case c5 => k_is)
    (case k5 => k_is)
    (case a6 => k_is)
    (case l6 => k_is)
    (case c6 => k_is)
    (case k6 => k_is)
    (case a7 => k_is)
    (case l7 => k_is)
    (case c7 => k_is)
    (case k7 => k_is)
    (case a8 => k_is)
    (case l8 => k_is)
    (case c8 => k_is)
    (case k8 => k_is)
    (case a9 => k_is)
    (case l9 => k_is)
    (case c9 => k_is)
    (case k9 => k_is)
    (case a10 => k_is)
    (case l10 => k_is)
    (case c10 => k_is)
    (case k10 => k_is)
    (case a11 => k_is)
    (case l11 => k_is)
    (case c11 => k_is)
    (case k11 => k_is)
    (case a12 => k_is)
    (case l12 => k_is)
    (case c12 => k_is)
    (case k12 => k_is)
    (case a13 => k_is)
    (case l13 => k_is)
    (case c13 => k_is)
    (case k13 => k_is)
    (case a14 => k_is)
    (case l14 => k_is)
    (case c14 => k_is)
    (case k14 => k_is)
    (case a15 => k_is)
    (case l15 => k_is)
    (case c15 => k_is)
    (case k15 => k_is)
    (case a16 => k_is)
    (case l16 => k_is)
    (case c16 => k_is)
    (case k16 => k_is)
    (case n16 => k_is)
    (case a17 => k_is)
    (case l17 => k_is)
    (case c17 => k_is)
    (case k17 => k_is)
    (case n17 => k_is)
    (case a18 => k_is)
    (case l18 => k_is)
    (case c18 => k_is)
    (case k18 => k_is)
    (case n18 => k_is)
    (case a19 => k_is)
    (case l19 => k_is)
    (case c19 => k_is)
    (case k19 => k_is)
    (case n19 => k_is)
    (case z_all => k_is)
    (case z_isinstance => k_is)
    (case z_str => k_is)
    (case z_len => k_is)
    (case z_range => k_is)
    (case z_divmod => k_is)
    (case z_list => k_is)
    (case z_reversed => k_is)
    (case z_bool => k_is)
    (case z_ValueError => k_is)
    (case z_zip => k_is)
    (case z_enumerate => k_is)
    (case q_NoBidN => kit_is)
    (case q_NoBundleN => kit_is)
    (case q_NoNumberN => kit_is)
    (case q_NoPaperN => kit_is)
    (case q_NoRowN => kit_is)
    (case q_BadStepN => kit_is)
    (case q_NoTextN => kit_is)
    (case q_TooLateN => kit_is)
    (case q_othN => kit_is)
    (case e_ownN => kernel_rfl)
    (case e_mroN => kernel_rfl)
    (case e_objN => k_is)
    (case e_excN => k_is)
    (case e_attN => k_is)
    (case e_gaN => k_is)
    (case e_gtN => k_is)
    (case e_saN => k_is)
    (case e_noN => k_is)
    (case e_hdN => k_is)
    (case e_kpN => k_is)
    (case q_valN => kit_is)
    (case q_hallN => kit_is)
    (case e_slkN => k_is)
    (case e_slfN => k_is)
    (case e_hmN => k_is)
    (case q_NoBidT => kit_is)
    (case q_NoBundleT => kit_is)
    (case q_NoNumberT => kit_is)
    (case q_NoPaperT => kit_is)
    (case q_NoRowT => kit_is)
    (case q_BadStepT => kit_is)
    (case q_NoTextT => kit_is)
    (case q_TooLateT => kit_is)
    (case q_othT => kit_is)
    (case e_ownT => kernel_rfl)
    (case e_mroT => kernel_rfl)
    (case e_objT => k_is)
    (case e_excT => k_is)
    (case e_attT => k_is)
    (case e_gaT => k_is)
    (case e_gtT => k_is)
    (case e_saT => k_is)
    (case e_noT => k_is)
    (case e_hdT => k_is)
    (case e_kpT => k_is)
    (case q_valT => kit_is)
    (case q_hallT => kit_is)
    (case e_slkT => k_is)
    (case e_slfT => k_is)
    (case e_hmT => k_is)
    (case e_iga => k_is)
    (case e_ird => k_is)
    (case e_ifd => k_is)
    (case e_hlk => k_is)
    (case e_hex => k_is)


