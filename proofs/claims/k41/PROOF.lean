import PyProof.Rows.All
import Wide.All
import OpenK.AllK
import Wide.FinOn
import Lean
import PyProof.EqAt
import PyProof.EqKinds
import PyProof.TupleCall
import PyProof.ZipIter
import PyProof.LayNew
import PyProof.Rows.ZipGen
import PyProof.Rows.FactsT2
import KE.KMinKey
import PyProof.FString5
import PyProof.SliceStr2
import PyProof.EnumFor
import PyProof.EnumStmt
import PyProof.EnumMake
import PyProof.StrLoop
import PyProof.StrWalks
import PyProof.Rows.EnumRows
import KE.KDictList
import KE.KEqDict
import PyProof.StrOps2
import KE.KSortTup
import PyProof.AttrMiss
import PyProof.IsiH_list
import KE.KDictOf
import PyProof.ReprRoads
import PyProof.CallFns
import PyProof.FitsInt
import PySem.Challenge.RW_gavelhall_k41_plans
set_option genSizeOf false
set_option Elab.async false
set_option linter.all false
set_option maxRecDepth 100000
/-! THE HAND LAYER, for ints, bools, texts, own classes, LISTS and tuples (index, slices, in, append, pop ..), calls, loops. Paste it whole ahead of your own text; what your proof does not reach may be deleted. -/
namespace L2
open PySem PySem.Spec PyProof.Rows

/-- a key: an int or a str -/
noncomputable abbrev Key := Sum Int Str
noncomputable def keyIs : Key → Value → Bool
  | .inl k, v => Value.isInt k v
  | .inr x, v => Value.isStrOf x v
noncomputable def keyH (w : World) : Key → Int
  | .inl k => hashInt k
  | .inr x => hashStr w x
theorem keyIs_shape : ∀ {k : Key} {v : Value}, keyIs k v = true → (∃ i t, k = Sum.inl i ∧ v = Value.int i t) ∨ (∃ x t, k = Sum.inr x ∧ v = Value.str x t)
  | .inl i, v, h => by
    obtain ⟨t, e⟩ := Value.isInt_shape (k := i) (v := v) h
    exact .inl ⟨i, t, rfl, e⟩
  | .inr x, v, h => by
    obtain ⟨t, e⟩ := Value.isStrOf_shape (x := x) (v := v) h
    exact .inr ⟨x, t, rfl, e⟩
theorem keyIs_int (i : Int) (t : Tok) : keyIs (.inl i) (.int i t) = true := by simp [keyIs, Value.isInt]
theorem keyIs_str (x : Str) (t : Tok) : keyIs (.inr x) (.str x t) = true := by simp [keyIs, Value.isStrOf]
theorem key_ll (a b : Int) : decide ((Sum.inl a : Key) = Sum.inl b) = (a == b) := by
  by_cases e : a = b
  · subst e; simp
  · have h : ¬ (Sum.inl a : Key) = Sum.inl b := fun q => e (Sum.inl.inj q)
    rw [decide_eq_false h]
    exact (beq_eq_false_iff_ne.mpr e).symm
theorem key_rr (a b : Str) : decide ((Sum.inr a : Key) = Sum.inr b) = decide (a = b) := by
  by_cases e : a = b
  · subst e; simp
  · have h : ¬ (Sum.inr a : Key) = Sum.inr b := fun q => e (Sum.inr.inj q)
    rw [decide_eq_false h, decide_eq_false e]
theorem key_lr (a : Int) (b : Str) : decide ((Sum.inl a : Key) = Sum.inr b) = false := decide_eq_false (fun q => nomatch q)
theorem key_rl (a : Str) (b : Int) : decide ((Sum.inr a : Key) = Sum.inl b) = false := decide_eq_false (fun q => nomatch q)

noncomputable def mixKind (prog : Program) (w : World) : PySem.KeyKind prog w Key where
  is := keyIs
  hash := keyH w
  inj := fun v a b ha hb => by
    rcases keyIs_shape ha with ⟨i, t, rfl, rfl⟩ | ⟨x, t, rfl, rfl⟩
    · rcases keyIs_shape hb with ⟨j, u, rfl, e⟩ | ⟨y, u, rfl, e⟩
      · injection e with e1 _; rw [e1]
      · exact nomatch e
    · rcases keyIs_shape hb with ⟨j, u, rfl, e⟩ | ⟨y, u, rfl, e⟩
      · exact nomatch e
      · injection e with e1 _; rw [e1]
  byValue := fun k v h => by
    rcases keyIs_shape h with ⟨i, t, rfl, rfl⟩ | ⟨x, t, rfl, rfl⟩ <;> rfl
  pyHash := fun hv h => by
    rcases keyIs_shape hv with ⟨i, t, rfl, rfl⟩ | ⟨x, t, rfl, rfl⟩
    · exact wpAny_pyHash_int h
    · exact wpAny_pyHash_str h
  eqBool := fun hu hv h => by
    rcases keyIs_shape hu with ⟨i, t, rfl, rfl⟩ | ⟨x, t, rfl, rfl⟩
    · rcases keyIs_shape hv with ⟨j, u, rfl, rfl⟩ | ⟨y, u, rfl, rfl⟩
      · rw [key_ll] at h; exact wpAny_eqBool_int h
      · rw [key_lr] at h; exact SeqAt.EqAt.int_str i t y u _ _ _ _ h
    · rcases keyIs_shape hv with ⟨j, u, rfl, rfl⟩ | ⟨y, u, rfl, rfl⟩
      · rw [key_rl] at h; exact SeqAt.EqAt.str_int x t j u _ _ _ _ h
      · rw [key_rr] at h; exact wpAny_eqBool_str h
  «strs» := fun k x t v h => by
    rcases keyIs_shape h with ⟨i, u, rfl, e⟩ | ⟨y, u, rfl, e⟩
    · exact nomatch e
    · injection e with e1 _
      subst e1
      cases v <;> rfl

theorem mixKind_int (prog : Program) (w : World) (i : Int) (t : Tok) : (mixKind prog w).is (.inl i) (.int i t) = true := keyIs_int i t
theorem mixKind_str (prog : Program) (w : World) (x : Str) (t : Tok) : (mixKind prog w).is (.inr x) (.str x t) = true := keyIs_str x t
end L2

namespace L2
open PySem PySem.Spec PyProof.Rows

/-- a value, without the heap -/
inductive V where
  | non | bl (b : Bool) | int (i : Int) | str (x : Str) | byt (b : Array UInt8) | flt (b : UInt64) | ref (a : Addr) | ty (n : String)
  deriving DecidableEq

noncomputable def RelV : V → Value → Prop
  | .non, u => u = Value.none
  | .bl b, u => u = Value.bool b
  | .int i, u => ∃ t, u = Value.int i t
  | .str x, u => ∃ t, u = Value.str x t
  | .byt b, u => ∃ t, u = Value.bytes b t
  | .flt b, u => ∃ t, u = Value.float b t
  | .ref a, u => u = Value.ref a
  | .ty n, u => u = Value.type n

noncomputable abbrev Vals : List V → List Value → Prop := Paired RelV
theorem Vals.length {xs : List V} {us : List Value} (r : Vals xs us) : xs.length = us.length := Paired.length r
theorem Vals.get : ∀ {xs : List V} {us : List Value} {i : Nat} {x : V}, Vals xs us → xs[i]? = some x → ∃ u, us[i]? = some u ∧ RelV x u
  | _, _, _, _, .nil, e => by simp at e
  | _, _, 0, _, .cons r _, e => by simp at e; subst e; exact ⟨_, rfl, r⟩
  | _, _, i + 1, x, .cons _ t, e => by
    obtain ⟨u, h1, h2⟩ := Vals.get (i := i) (x := x) t (by simpa using e)
    exact ⟨u, by simpa using h1, h2⟩
theorem Vals.set {x : V} {u : Value} (r : RelV x u) : ∀ {xs : List V} {us : List Value} (i : Nat), Vals xs us → Vals (xs.set i x) (us.set i u)
  | _, _, _, .nil => .nil
  | _, _, 0, .cons _ t => .cons r t
  | _, _, i + 1, .cons q t => .cons q (Vals.set r i t)
theorem Vals.append : ∀ {xs ys : List V} {us ws : List Value}, Vals xs us → Vals ys ws → Vals (xs ++ ys) (us ++ ws)
  | _, _, _, _, .nil, s => s
  | _, _, _, _, .cons r t, s => .cons r (Vals.append t s)
theorem Vals.take : ∀ {xs : List V} {us : List Value} (n : Nat), Vals xs us → Vals (xs.take n) (us.take n)
  | _, _, 0, _ => .nil
  | _, _, _ + 1, .nil => .nil
  | _, _, n + 1, .cons r t => .cons r (Vals.take n t)
theorem Vals.drop : ∀ {xs : List V} {us : List Value} (n : Nat), Vals xs us → Vals (xs.drop n) (us.drop n)
  | _, _, 0, r => r
  | _, _, _ + 1, .nil => .nil
  | _, _, n + 1, .cons _ t => Vals.drop n t

noncomputable def RelO : Option V → Option Value → Prop
  | some v, some u => RelV v u
  | none, none => True
  | _, _ => False
noncomputable def KV {κ : Type} : List (κ × V) → List (κ × Value) → Prop := Paired fun (p : κ × V) (q : κ × Value) => p.1 = q.1 ∧ RelV p.2 q.2

/-- a key of a dict (00_mix): an int or a text -/
noncomputable def kV : Key → V
  | .inl i => .int i
  | .inr x => .str x

/-- what stands at a tracked address -/
inductive HO where
  /-- a list -/
  | lst (xs : List V)
  /-- a tuple (never changes) -/
  | tup (xs : List V)
  /-- a dict whose keys are ints and texts; one whose keys are tuples of ints and texts (the empty one is both) -/
  | dK (kvs : List (Key × V)) | dT (kvs : List (List Key × V))
  /-- a set of ints: its members, its size -/
  | set (S : Int → Bool) (n : Nat)
  /-- an instance of the class at C, its dict at dx, its attributes -/
  | ins (C dx : Addr) (fs : List (Str × V))
  /-- the dict of the instance at x -/
  | own (x : Addr)
  /-- the dict of an exception -/
  | xd (fs : List (Str × V))
  /-- a bound method, f of x -/
  | met (f x : Addr)
  /-- a range object lo, lo + 1, .. below hi -/
  | rng (lo hi : Int)
  /-- a thing that is known to the object (the script; a dict while a loop walks it): read, never written while it is so -/
  | frz (o : Obj) (u : HO)
  /-- a code object's table -/
  | tbl (ps : Array Value)
  /-- any other thing, by what is true of its one object (a def of one's own: SetO a S n := HO.ext fun h => ..) -/
  | ext (φ : Heap → Prop)

noncomputable abbrev Hp := Addr → Option HO
noncomputable def upd (H : Hp) (a : Addr) (o : HO) : Hp := fun b => if b = a then some o else H b
theorem upd_same {H : Hp} {a : Addr} {o : HO} : upd H a o a = some o := by unfold upd; rw [if_pos rfl]
theorem upd_ne {H : Hp} {a b : Addr} {o : HO} (h : b ≠ a) : upd H a o b = H b := by unfold upd; rw [if_neg h]
theorem ne_of_none {H : Hp} {a b : Addr} {o : HO} (h : H a = some o) (h' : H b = none) : a ≠ b := by
  intro e; subst e; rw [h] at h'; cases h'

section
variable (P : Program) (w : World)
noncomputable def ObjOk (H : Hp) (h : Heap) (a : Addr) : HO → Prop
  | .lst xs => xs.length ≤ sizeLine ∧ ∃ (its : List Value) (n : Nat), Vals xs its ∧ h.get? a = some { cls := .type "list", data := .seq its.toArray n }
  | .tup xs => xs.length ≤ sizeLine ∧ ∃ its : List Value, Vals xs its ∧ IsTup h a its.toArray
  | .dK kvs => kvs.length ≤ sizeLine ∧ (a == sysModules) = false ∧ ∃ vs, KV kvs vs ∧ h.DictOf (mixKind P w) a vs
  | .dT kvs => kvs.length ≤ sizeLine ∧ (a == sysModules) = false ∧ ∃ xs : List (List Key × Addr × Value),
      Paired (fun (p : List Key × V) (q : List Key × Addr × Value) => p.1 = q.1 ∧ H q.2.1 = some (.tup (p.1.map kV)) ∧ RelV p.2 q.2.2) kvs xs ∧
      ∃ o es ep, h.get? a = some o ∧ o.ExactDict ∧ o.data = .dict es ep ∧ es.toList = xs.map (entryOfKey (tupleKind (mixKind P w))) ∧ (xs.map (·.1)).Nodup
  | .set S n => h.SetOf (intKind P w) a S n
  | .ins C dx fs => H dx = some (.own a) ∧ fs.length ≤ 1000 ∧ dx ≠ a ∧ h.get? a = some (PySem.W.instObj C dx) ∧
      ∃ mA, h.Ns1 dx mA ∧ (∀ f, RelO (fs.lookup f) (mA f)) ∧ PySem.Within mA (fs.map (·.1))
  | .own _ => ∃ o, h.get? a = some o
  | .xd fs => ∃ mA, h.Ns1 a mA ∧ ∀ f, RelO (fs.lookup f) (mA f)
  | .rng lo hi => ∃ t u v, h.get? a = some { cls := .type "range", data := .fields #[.int lo t, .int hi u, .int 1 v] }
  | .frz o u => h.get? a = some o ∧ ObjOk H h a u
  | .tbl ps => h.get? a = some { cls := .none, data := .fields ps }
  | .met f x => h.get? a = some (PySem.W.methodObj (.ref f) (.ref x))
  | .ext φ => φ h ∧ (∃ o, h.get? a = some o) ∧ ∀ h1 h2 : Heap, φ h1 → (∀ o, h1.get? a = some o → h2.get? a = some o) → φ h2
/-- the abstract heap is held -/
noncomputable def HOk (H : Hp) (h : Heap) : Prop := ∀ a o, H a = some o → ObjOk P w H h a o
end

section
variable {P : Program} {w : World} {H H' : Hp} {h h' : Heap} {a : Addr} {o : HO}
theorem ObjOk.lt (x : ObjOk P w H h a o) : a < h.objs.size := by
  cases o with
  | lst xs => obtain ⟨_, _, _, _, e⟩ := x; exact Heap.lt_size e
  | tup xs => obtain ⟨_, _, _, p⟩ := x; exact p.lt
  | dK kvs => obtain ⟨_, _, _, _, o, _, _, e, _⟩ := x; exact Heap.lt_size e
  | dT kvs => obtain ⟨_, _, _, _, o, _, _, e, _⟩ := x; exact Heap.lt_size e
  | set S n => obtain ⟨o, _, _, _, e, _⟩ := x; exact Heap.lt_size e
  | ins C dx fs => obtain ⟨_, _, _, e, _⟩ := x; exact Heap.lt_size e
  | own y => obtain ⟨_, e⟩ := x; exact Heap.lt_size e
  | xd fs => obtain ⟨_, ⟨_, _, _, e, _⟩, _⟩ := x; exact Heap.lt_size e
  | rng lo hi => obtain ⟨_, _, _, e⟩ := x; exact Heap.lt_size e
  | frz ob u => obtain ⟨e, _⟩ := x; exact Heap.lt_size e
  | tbl ps => exact Heap.lt_size (show h.get? a = some _ from x)
  | met f y => exact Heap.lt_size (show h.get? a = some _ from x)
  | ext φ => obtain ⟨_, ⟨_, e⟩, _⟩ := x; exact Heap.lt_size e
theorem Paired.mapP {α β : Type} {F G : α → β → Prop} : ∀ {l₁ : List α} {l₂ : List β}, Paired F l₁ l₂ → (∀ a b, F a b → G a b) → Paired G l₁ l₂
  | _, _, .nil, _ => .nil
  | _, _, .cons r t, f => .cons (f _ _ r) (Paired.mapP t f)
/-- what an object's description leans on: its own object, its own dict, the tuples -/
theorem ObjOk.stay (x : ObjOk P w H h a o) (k : ∀ b u, (b = a ∨ H b = some (.own a)) → h.get? b = some u → h'.get? b = some u)
    (ho : ∀ b, H b = some (.own a) → H' b = some (.own a)) (ht : ∀ b xs, H b = some (.tup xs) → H' b = some (.tup xs)) : ObjOk P w H' h' a o := by
  induction o with
  | lst xs => obtain ⟨z, its, n, r, e⟩ := x; exact ⟨z, its, n, r, k _ _ (.inl rfl) e⟩
  | tup xs => obtain ⟨z, its, r, ob, e, c⟩ := x; exact ⟨z, its, r, ob, k _ _ (.inl rfl) e, c⟩
  | dK kvs => obtain ⟨z, y, vs, r, ob, es, ep, e, c⟩ := x; exact ⟨z, y, vs, r, ob, es, ep, k _ _ (.inl rfl) e, c⟩
  | dT kvs =>
    obtain ⟨z, y, xs, r, ob, es, ep, e, c⟩ := x
    exact ⟨z, y, xs, Paired.mapP r fun p q z => ⟨z.1, ht _ _ z.2.1, z.2.2⟩, ob, es, ep, k _ _ (.inl rfl) e, c⟩
  | set S n => obtain ⟨ob, es, ep, t, e, c⟩ := x; exact ⟨ob, es, ep, t, k _ _ (.inl rfl) e, c⟩
  | ins C dx fs =>
    obtain ⟨d, z, ne, e, mA, ⟨od, es, ep, e2, c⟩, r⟩ := x
    exact ⟨ho _ d, z, ne, k _ _ (.inl rfl) e, mA, ⟨od, es, ep, k _ _ (.inr d) e2, c⟩, r⟩
  | own y => obtain ⟨ob, e⟩ := x; exact ⟨ob, k _ _ (.inl rfl) e⟩
  | xd fs => obtain ⟨mA, ⟨od, es, ep, e, c⟩, r⟩ := x; exact ⟨mA, ⟨od, es, ep, k _ _ (.inl rfl) e, c⟩, r⟩
  | rng lo hi => obtain ⟨t, u, v, e⟩ := x; exact ⟨t, u, v, k _ _ (.inl rfl) e⟩
  | frz ob u ih => obtain ⟨e, q⟩ := x; exact ⟨k _ _ (.inl rfl) e, ih q⟩
  | tbl ps =>
    have e : h.get? a = some { cls := .none, data := .fields ps } := x
    show h'.get? a = some { cls := .none, data := .fields ps }
    exact k a _ (.inl rfl) e
  | met f y =>
    have e : h.get? a = some (PySem.W.methodObj (.ref f) (.ref y)) := x
    show h'.get? a = some (PySem.W.methodObj (.ref f) (.ref y))
    exact k a _ (.inl rfl) e
  | ext φ => obtain ⟨p, ⟨o, e⟩, st⟩ := x; exact ⟨st _ _ p fun o q => k _ _ (.inl rfl) q, ⟨o, k _ _ (.inl rfl) e⟩, st⟩
theorem HOk.lt (x : HOk P w H h) (e : H a = some o) : a < h.objs.size := (x a o e).lt
theorem HOk.fresh (x : HOk P w H h) (e : h.objs.size ≤ a) : H a = none := by
  cases q : H a with
  | none => rfl
  | some u => exact absurd (Nat.lt_of_lt_of_le (x.lt q) e) (Nat.lt_irrefl _)
/-- every object of the heap is kept -/
theorem HOk.kept (x : HOk P w H h) (k : ∀ b u, h.get? b = some u → h'.get? b = some u) : HOk P w H h' := fun a o e =>
  (x a o e).stay (fun b u _ q => k b u q) (fun _ q => q) fun _ _ q => q
/-- a new object is laid and tracked -/
theorem HOk.laid (x : HOk P w H h) (k : ∀ b u, h.get? b = some u → h'.get? b = some u) (hp : h.objs.size ≤ a) (new : ObjOk P w (upd H a o) h' a o) : HOk P w (upd H a o) h' := fun b u e => by
  have hn := x.fresh hp
  by_cases hb : b = a
  · subst hb; rw [upd_same] at e; cases e; exact new
  · rw [upd_ne hb] at e
    exact (x b u e).stay (fun c v _ q => k c v q) (fun c q => by rw [upd_ne (ne_of_none q hn)]; exact q) fun c xs q => by rw [upd_ne (ne_of_none q hn)]; exact q
end

/-- what may be read as u: it is u, or a known u -/
noncomputable def Rd (H : Hp) (a : Addr) (u : HO) : Prop := H a = some u ∨ ∃ o, H a = some (.frz o u)
theorem Rd.ok {P : Program} {w : World} {H : Hp} {h : Heap} {a : Addr} {u : HO} (r : Rd H a u) (x : HOk P w H h) : ObjOk P w H h a u := by
  rcases r with r | ⟨o, r⟩
  · exact x a u r
  · obtain ⟨_, q⟩ := x a _ r
    exact q
/-- what may be written -/
noncomputable def Mut : Option HO → Prop
  | some (.lst _) => True
  | some (.dK _) => True
  | some (.dT _) => True
  | some (.set _ _) => True
  | some (.ins _ _ _) => True
  | some (.ext _) => True
  | _ => False
section
variable {P : Program} {w : World} {H : Hp} {h h' : Heap} {x e : Addr} {o' : HO}
/-- the object at e is changed: x itself, or the dict of the instance x -/
theorem HOk.write (ok : HOk P w H h) (mu : Mut (H x)) (he : e = x ∨ H e = some (.own x)) (k : ∀ b u, b ≠ e → h.get? b = some u → h'.get? b = some u) (heo : ∃ u, h'.get? e = some u)
    (new : ObjOk P w (upd H x o') h' x o') : HOk P w (upd H x o') h' := fun b u q => by
  have nown : ∀ c y, H c = some (.own y) → c ≠ x := fun c y r z => by subst z; rw [r] at mu; exact mu
  have ntup : ∀ c xs, H c = some (.tup xs) → c ≠ x := fun c xs r z => by subst z; rw [r] at mu; exact mu
  by_cases hb : b = x
  · subst hb; rw [upd_same] at q; cases q; exact new
  · rw [upd_ne hb] at q
    by_cases hbe : b = e
    · have q' : H b = some (.own x) := by
        rcases he with z | z
        · exact absurd (hbe.trans z) hb
        · rw [hbe]; exact z
      rw [q] at q'; cases q'
      obtain ⟨v, hv⟩ := heo
      exact ⟨v, by rw [hbe]; exact hv⟩
    · refine (ok b u q).stay (fun c v hc r => k c v ?_ r) (fun c r => by rw [upd_ne (nown c b r)]; exact r) fun c xs r => by rw [upd_ne (ntup c xs r)]; exact r
      rcases hc with rfl | hc
      · exact hbe
      · rintro rfl
        rcases he with z | z
        · exact nown c b hc z
        · rw [hc] at z; cases z; exact hb rfl
end

/-! ### kept unless tracked; of the frames at fs (the callers') the slots may change (an exception that passes writes there); of the records at ex (iterators) nothing is said -/
structure Un (fs ex : List Addr) (H H' : Hp) (h h' : Heap) : Prop where
  keep : ∀ b o, h.get? b = some o → H b = none → b ∉ fs → b ∉ ex → h'.get? b = some o
  slot : ∀ b o, h.get? b = some o → H b = none → b ∈ fs → b ∉ ex → ∃ sl, h'.get? b = some { o with slots := sl }
  free : ∀ b o, h.get? b = some o → H b = none → b ∉ ex → H' b = none
  there : ∀ b o, h.get? b = some o → b ∉ ex → ∃ o', h'.get? b = some o'
  tups : ∀ b xs, H b = some (.tup xs) → H' b = some (.tup xs)
  frzs : ∀ b o u, H b = some (.frz o u) → H' b = some (.frz o u)
  tbls : ∀ b ps, H b = some (.tbl ps) → ∃ more, H' b = some (.tbl (ps ++ more))
section
variable {fs fs' ex ex' : List Addr} {H H1 H2 : Hp} {h h1 h2 h' : Heap} {a x e : Addr} {o : HO}
theorem Un.any (u : Un fs ex H H1 h h1) {b : Addr} {ob : Obj} (q : h.get? b = some ob) (n : H b = none) (hx : b ∉ ex) : ∃ sl, h1.get? b = some { ob with slots := sl } := by
  by_cases hb : b ∈ fs
  · exact u.slot b ob q n hb hx
  · exact ⟨ob.slots, u.keep b ob q n hb hx⟩
theorem Un.kept (k : ∀ b u, h.get? b = some u → h'.get? b = some u) : Un fs ex H H h h' :=
  ⟨fun b ob q _ _ _ => k b ob q, fun b ob q _ _ _ => ⟨ob.slots, k b ob q⟩, fun _ _ _ n _ => n, fun b ob q _ => ⟨ob, k b ob q⟩, fun _ _ q => q, fun _ _ _ q => q, fun _ ps q => ⟨#[], by rw [q]; simp⟩⟩
theorem Un.refl : Un fs ex H H h h := Un.kept fun _ _ q => q
theorem Un.laid (k : ∀ b u, h.get? b = some u → h'.get? b = some u) (hp : h.objs.size ≤ a) (hn : H a = none) : Un fs ex H (upd H a o) h h' where
  keep := fun b u q _ _ _ => k b u q
  slot := fun b u q _ _ _ => ⟨u.slots, k b u q⟩
  free := fun b u q n _ => by rw [upd_ne (Nat.ne_of_lt (Nat.lt_of_lt_of_le (Heap.lt_size q) hp))]; exact n
  there := fun b u q _ => ⟨u, k b u q⟩
  tups := fun b xs q => by rw [upd_ne (ne_of_none q hn)]; exact q
  frzs := fun b u xs q => by rw [upd_ne (ne_of_none q hn)]; exact q
  tbls := fun b ps q => ⟨#[], by rw [upd_ne (ne_of_none q hn), q]; simp⟩
theorem Un.write (mu : Mut (H x)) (he : e = x ∨ H e = some (.own x)) (k : ∀ b u, b ≠ e → h.get? b = some u → h'.get? b = some u) (heo : ∃ u, h'.get? e = some u) : Un fs ex H (upd H x o) h h' := by
  have hx : ∀ b, H b = none → b ≠ x := fun b n z => by subst z; rw [n] at mu; exact mu
  have hb : ∀ b, H b = none → b ≠ e := fun b n z => by
    subst z
    rcases he with r | r
    · exact hx b n r
    · rw [n] at r; cases r
  have hm : ∀ b u, H b = some u → ¬ Mut (some u) → b ≠ x := fun b u q nm z => by subst z; rw [q] at mu; exact nm mu
  refine ⟨fun b u q n _ _ => k b u (hb b n) q, fun b u q n _ _ => ⟨u.slots, k b u (hb b n) q⟩, fun b u q n _ => by rw [upd_ne (hx b n)]; exact n, fun b u q _ => ?_,
    fun b xs q => by rw [upd_ne (hm b _ q fun z => z)]; exact q, fun b u xs q => by rw [upd_ne (hm b _ q fun z => z)]; exact q, fun b ps q => ⟨#[], by rw [upd_ne (hm b _ q fun z => z), q]; simp⟩⟩
  by_cases hbe : b = e
  · subst hbe; exact heo
  · exact ⟨u, k b u hbe q⟩
end

/-! ### the heap without what is tracked -/
noncomputable def trk (h : Heap) (H : Hp) : List Addr := (List.range h.objs.size).filter fun a => (H a).isSome
noncomputable def hidT (h : Heap) (H : Hp) : Heap := PySem.W.hideAll h (trk h H)
theorem hidT_size (h : Heap) (H : Hp) : (hidT h H).objs.size = h.objs.size := PySem.W.hideAll_size _ _
theorem hidT_get {h : Heap} {H : Hp} {b : Addr} {o : Obj} (e : h.get? b = some o) (n : H b = none) : (hidT h H).get? b = some o :=
  PySem.W.hideAll_get _ e fun hm => by
    have q : (H b).isSome = true := (List.mem_filter.mp hm).2
    rw [n] at q; simp at q
theorem of_hidT {h : Heap} {H : Hp} {b : Addr} {o : Obj} (e : (hidT h H).get? b = some o) : h.get? b = some o ∧ H b = none := by
  have e' : h.get? b = some o := PySem.W.of_hideAll (trk h H) e
  refine ⟨e', ?_⟩
  cases q : H b with
  | none => rfl
  | some x =>
    have hm : b ∈ trk h H := List.mem_filter.mpr ⟨List.mem_range.mpr (Heap.lt_size e'), by simp [q]⟩
    have z : (hidT h H).get? b = none := PySem.W.hideAll_none (trk h H) hm
    rw [z] at e; cases e

/-! ### OpenK's ledger, filled with every new object but one -/
end L2

namespace L2
open PySem PySem.Spec PyProof.Rows

/-- the module's facts, over the base: the heap at the law's entry without what is tracked there -/
structure Mod (K : PySem.W.Frag) (mg : Str → Option Value) (base : Heap) : Prop where
  kin : K.In base
  glob : base.Ns mainGlobals mg
  blt : ∃ mb, base.Ns builtinsNs mb ∧ ∀ x : Str, x ≠ "__name__" → mb x = bootBuiltins x
  nolimit : base.NoLimit

/-- the context: a def's body (or a comprehension's block) running. base: fixed through the whole law; s₀, H₀: the entry; outer: the frames whose slots others may change (a def's callers); stack: all frames that run;
   ex: iterators that were made ahead of the entry and are walked here (a comprehension's); fn: the names whose cells were made at the entry (a def: all; a comprehension's block: its own); calm: not within an except suite; pn: pins that every state bears; xe: what is wanted of an exception that leaves the code -/
structure Cx where
  prog : Program
  w : World
  K : PySem.W.Frag
  mg : Str → Option Value
  base : Heap
  A : Around
  N : List Str
  s₀ : Shared
  H₀ : Hp
  env : Env
  outer : List Env
  stack : List Env
  ex : List Addr
  fn : Str → Bool
  calm : Bool
  pn : List (Addr × Obj)
  xe : Value → Shared → Prop
/-- the callers' frames -/
noncomputable def frs (l : List Env) : List Addr := l.filterMap (·.frame)
noncomputable abbrev Cx.fs (X : Cx) : List Addr := frs X.outer

noncomputable def Vis (sc : Scope) (x : Str) : Prop := sc.names.lookup x = some .local ∨ sc.names.lookup x = some .cell ∨ sc.names.lookup x = some .free
noncomputable def Loc (sc : Scope) (x : Str) : Prop := sc.names.lookup x = some .local ∨ sc.names.lookup x = some .cell
noncomputable def Look (env : Env) (h : Heap) (m : Str → Option Value) (x : Str) (u : Value) : Prop :=
  (env.kindOf x = some .local ∧ m x = some u) ∨ ((env.kindOf x = some .cell ∨ env.kindOf x = some .free) ∧ ∃ c, env.cells.lookup x = some c ∧ h.IsCell c (some u))

structure Cx.Ok (X : Cx) : Prop where
  mod : Mod X.K X.mg X.base
  kind : X.env.scope.kind = .function
  glob : X.env.globals = mainGlobals
  blt : X.env.builtins = builtinsNs
  above : X.s₀.heap.objs.size ≤ X.env.locals
  inj : ∀ x y c, X.env.cells.lookup x = some c → X.env.cells.lookup y = some c → x = y
  has : ∀ x, (X.env.kindOf x = some .cell ∨ X.env.kindOf x = some .free) → ∃ c, X.env.cells.lookup x = some c
  cab : ∀ x c, X.fn x = true → X.env.cells.lookup x = some c → X.s₀.heap.objs.size ≤ c
  hd : X.calm = true → X.A.handled = none
  frames : X.A.frames = some X.stack
  stk : X.stack = X.outer ∨ (X.stack = X.env :: X.outer ∧ X.env.frame = some X.env.locals)
  exf : ∀ b ∈ X.ex, b ≠ X.env.locals ∧ ∀ x c, X.env.cells.lookup x = some c → c ≠ b
  bs : ∀ b o, X.base.get? b = some o → X.s₀.heap.get? b = some o ∧ X.H₀ b = none
  bsz : X.base.objs.size ≤ X.s₀.heap.objs.size
  noex : ∀ b o, X.base.get? b = some o → b ∉ X.ex
  exfs : ∀ b ∈ X.ex, b ∉ X.fs
  funs : X.s₀.heap.FunFrames X.base X.outer
  frf : ∀ b ∈ X.fs, X.H₀ b = none

structure Inv (X : Cx) (pins : List (Addr × Obj)) (σ : List (Option V)) (H : Hp) (s : Shared) : Prop where
  ok : X.Ok
  os : s.os = X.s₀.os
  bare : AllBare s.gens
  base : Un X.fs X.ex X.H₀ H X.s₀.heap s.heap
  loc : ∃ m, s.heap.Ns X.env.locals m ∧ ∀ (i : Nat) (x : Str) (v : V), X.N[i]? = some x → σ[i]? = some (some v) → Vis X.env.scope x → ∃ u, RelV v u ∧ Look X.env s.heap m x u
  cell : ∀ x c, X.env.cells.lookup x = some c → ∃ v, s.heap.IsCell c v
  free : H X.env.locals = none
  freeC : ∀ x c, X.env.cells.lookup x = some c → H c = none
  pin : ∀ p ∈ X.pn ++ pins, s.heap.get? p.1 = some p.2 ∧ H p.1 = none ∧ p.1 ≠ X.env.locals ∧ p.1 ∉ X.fs ∧ ∀ v, p.2.data ≠ .cell v
  hok : HOk X.prog X.w H s.heap
  len : σ.length = X.N.length

section
variable {X : Cx} {pins : List (Addr × Obj)} {σ : List (Option V)} {H H' : Hp} {s : Shared} {h' : Heap}

theorem Cx.Ok.nofr (ok : X.Ok) {b : Addr} {o : Obj} (e : X.base.get? b = some o) : b ∉ X.fs := fun hb => by
  have := (ok.funs.mem hb).1
  rw [e] at this; cases this
theorem Inv.bs (I : Inv X pins σ H s) : ∀ b o, X.base.get? b = some o → s.heap.get? b = some o ∧ H b = none := fun b o e =>
  ⟨I.base.keep b o (I.ok.bs b o e).1 (I.ok.bs b o e).2 (I.ok.nofr e) (I.ok.noex b o e), I.base.free b o (I.ok.bs b o e).1 (I.ok.bs b o e).2 (I.ok.noex b o e)⟩
theorem Inv.bk (I : Inv X pins σ H s) : ∀ b o, X.base.get? b = some o → s.heap.get? b = some o := fun b o e => (I.bs b o e).1
theorem Inv.mod (I : Inv X pins σ H s) : Mod X.K X.mg X.base := I.ok.mod
theorem Inv.kIn (I : Inv X pins σ H s) : X.K.In s.heap := I.ok.mod.kin.keeps I.bk
theorem Inv.lt (I : Inv X pins σ H s) : X.env.locals < s.heap.objs.size := let ⟨_, hn, _⟩ := I.loc; hn.lt
theorem Inv.sz (I : Inv X pins σ H s) : X.s₀.heap.objs.size ≤ s.heap.objs.size := Nat.le_trans I.ok.above (Nat.le_of_lt I.lt)
theorem Inv.nofs (I : Inv X pins σ H s) {a : Addr} (h : s.heap.objs.size ≤ a) : a ∉ X.fs := fun hb => by
  obtain ⟨_, o, ho, _⟩ := I.ok.funs.mem hb
  exact absurd (Nat.lt_of_lt_of_le (Heap.lt_size ho) (Nat.le_trans I.sz h)) (Nat.lt_irrefl _)
theorem Inv.cne (I : Inv X pins σ H s) : ∀ x c, X.env.cells.lookup x = some c → c ≠ X.env.locals := fun x c e z => by
  obtain ⟨v, o, ho, hd⟩ := I.cell x c e
  obtain ⟨m, ⟨o', es, ep, ho', hd', _⟩, _⟩ := I.loc
  rw [z, ho'] at ho; cases ho; rw [hd'] at hd; cases hd
theorem Inv.funs (I : Inv X pins σ H s) : s.heap.FunFrames X.base X.outer := by
  have all : ∀ (l : List Env), (∀ b ∈ frs l, b ∈ X.fs) → X.s₀.heap.FunFrames X.base l → s.heap.FunFrames X.base l := by
    intro l
    induction l with
    | nil => intro _ _; trivial
    | cons env r ih =>
      intro hs hl
      obtain ⟨hk, ⟨L, o, hf, hn, ho, hd⟩, hr⟩ := hl
      have hL : L ∈ X.fs := hs L (by unfold frs; rw [List.filterMap_cons, hf]; exact List.mem_cons_self)
      obtain ⟨sl, e⟩ := I.base.slot L o ho (I.ok.frf L hL) hL fun z => I.ok.exfs L z hL
      exact ⟨hk, ⟨L, _, hf, hn, e, hd⟩, ih (fun b hb => hs b (by unfold frs; rw [List.filterMap_cons, hf]; exact List.mem_cons_of_mem _ hb)) hr⟩
  exact all X.outer (fun _ hb => hb) I.ok.funs

/-- the frames that run, for a call -/
theorem Inv.stack (I : Inv X pins σ H s) : s.heap.FunFrames X.base X.stack := by
  rcases I.ok.stk with e | ⟨e, hf⟩
  · rw [e]; exact I.funs
  · rw [e]
    obtain ⟨m, hn, _⟩ := I.loc
    refine .cons (by rw [I.ok.kind]; decide) hf hn ?_ I.funs
    exact Heap.get?_none_of_le (Nat.le_trans I.ok.bsz I.ok.above)
theorem Inv.stkSub (I : Inv X pins σ H s) : ∀ b ∈ frs X.stack, b ∈ X.env.locals :: X.fs := fun b hb => by
  rcases I.ok.stk with e | ⟨e, hf⟩
  · rw [e] at hb; exact List.mem_cons_of_mem _ hb
  · rw [e] at hb
    unfold frs at hb
    rw [List.filterMap_cons, hf] at hb
    exact hb
theorem Inv.stkFree (I : Inv X pins σ H s) : ∀ b ∈ frs X.stack, H b = none := fun b hb => by
  rcases List.mem_cons.mp (I.stkSub b hb) with e | hb
  · rw [e]; exact I.free
  · obtain ⟨_, o, ho, _⟩ := I.ok.funs.mem hb
    exact I.base.free b o ho (I.ok.frf b hb) fun z => I.ok.exfs b z hb

/-- THE STEP: the untracked objects but the frame and the records at ch are kept (the callers' frames up to slots), the frame's map is kept, the new abstract heap is held -/
theorem Inv.step {g' : Array GenState} {t' : Nat} {d' : Drawn} {ch : List Addr} (I : Inv X pins σ H s)
    (hch : ∀ b ∈ ch, (b ∈ X.ex ∨ X.s₀.heap.objs.size ≤ b) ∧ b ≠ X.env.locals ∧ (∀ x c, X.env.cells.lookup x = some c → c ≠ b) ∧ ∀ p ∈ X.pn ++ pins, p.1 ≠ b)
    (keep : ∀ b o, b ≠ X.env.locals → b ∉ X.fs → b ∉ ch → s.heap.get? b = some o → H b = none → h'.get? b = some o)
    (slot : ∀ b o, b ≠ X.env.locals → b ∈ X.fs → b ∉ ch → s.heap.get? b = some o → H b = none → ∃ sl, h'.get? b = some { o with slots := sl }) (free : ∀ b o, b ∉ ch → s.heap.get? b = some o → H b = none → H' b = none)
    (there : ∀ b o, b ∉ ch → s.heap.get? b = some o → ∃ o', h'.get? b = some o')
    (tups : ∀ b xs, H b = some (.tup xs) → H' b = some (.tup xs)) (frzs : ∀ b o u, H b = some (.frz o u) → H' b = some (.frz o u)) (tbls : ∀ b ps, H b = some (.tbl ps) → ∃ more, H' b = some (.tbl (ps ++ more)))
    (ns : ∀ m, s.heap.Ns X.env.locals m → h'.Ns X.env.locals m) (hok : HOk X.prog X.w H' h') (hg : AllBare g') :
    Inv X pins σ H' { s with heap := h', gens := g', drawn := d', toks := t' } := by
  have neL : ∀ b o, X.s₀.heap.get? b = some o → b ≠ X.env.locals := fun b o e => Nat.ne_of_lt (Nat.lt_of_lt_of_le (Heap.lt_size e) I.ok.above)
  have neC : ∀ b o, X.s₀.heap.get? b = some o → b ∉ X.ex → b ∉ ch := fun b o e hx hb => by
    rcases (hch b hb).1 with z | z
    · exact hx z
    · exact absurd (Nat.lt_of_lt_of_le (Heap.lt_size e) z) (Nat.lt_irrefl _)
  have cellK : ∀ x c, X.env.cells.lookup x = some c → ∀ v, s.heap.IsCell c v → h'.IsCell c v := fun x c e v ⟨o, ho, hd⟩ => by
    have nch : c ∉ ch := fun z => (hch c z).2.2.1 x c e rfl
    by_cases hc : c ∈ X.fs
    · obtain ⟨sl, q⟩ := slot c o (I.cne x c e) hc nch ho (I.freeC x c e)
      exact ⟨_, q, hd⟩
    · exact ⟨o, keep c o (I.cne x c e) hc nch ho (I.freeC x c e), hd⟩
  refine ⟨I.ok, I.os, hg, ⟨fun b o e n hb hx => ?_, fun b o e n hb hx => ?_, fun b o e n hx => ?_, fun b o e hx => ?_, fun b xs e => tups b xs (I.base.tups b xs e), fun b o xs e => frzs b o xs (I.base.frzs b o xs e), fun b ps e => ?_⟩, ?_, fun x c e => ?_, ?_, fun x c e => ?_, fun p hp => ?_, hok, I.len⟩
  · exact keep b o (neL b o e) hb (neC b o e hx) (I.base.keep b o e n hb hx) (I.base.free b o e n hx)
  · obtain ⟨sl, e1⟩ := I.base.slot b o e n hb hx
    obtain ⟨sl', e2⟩ := slot b _ (neL b o e) hb (neC b o e hx) e1 (I.base.free b o e n hx)
    exact ⟨sl', e2⟩
  · obtain ⟨o', e1⟩ := I.base.there b o e hx
    exact free b o' (neC b o e hx) e1 (I.base.free b o e n hx)
  · obtain ⟨o', e1⟩ := I.base.there b o e hx
    exact there b o' (neC b o e hx) e1
  · obtain ⟨m1, e1⟩ := I.base.tbls b ps e
    obtain ⟨m2, e2⟩ := tbls b _ e1
    exact ⟨m1 ++ m2, by rw [e2, Array.append_assoc]⟩
  · obtain ⟨m, hn, hl⟩ := I.loc
    refine ⟨m, ns m hn, fun i x v e1 e2 e3 => ?_⟩
    obtain ⟨u, r, l⟩ := hl i x v e1 e2 e3
    refine ⟨u, r, ?_⟩
    rcases l with l | ⟨k, c, e, z⟩
    · exact .inl l
    · exact .inr ⟨k, c, e, cellK x c e _ z⟩
  · obtain ⟨v, z⟩ := I.cell x c e
    exact ⟨v, cellK x c e v z⟩
  · obtain ⟨m, ⟨o, _, _, ho, _⟩, _⟩ := I.loc
    exact free _ o (fun z => (hch _ z).2.1 rfl) ho I.free
  · obtain ⟨v, o, ho, hd⟩ := I.cell x c e
    exact free c o (fun z => (hch c z).2.2.1 x c e rfl) ho (I.freeC x c e)
  · obtain ⟨e, n, ne, nf, d⟩ := I.pin p hp
    have nch : p.1 ∉ ch := fun z => (hch p.1 z).2.2.2 p hp rfl
    exact ⟨keep p.1 p.2 ne nf nch e n, free p.1 p.2 nch e n, ne, nf, d⟩
/-- .. where the frame's own object is kept too -/
theorem Inv.un {t' : Nat} (I : Inv X pins σ H s) (u : Un X.fs [] H H' s.heap h') (hok : HOk X.prog X.w H' h') : Inv X pins σ H' { s with heap := h', toks := t' } := by
  obtain ⟨m, ⟨o, es, ep, ho, r⟩, _⟩ := id I.loc
  obtain ⟨sl, hL⟩ := u.any ho I.free (by simp)
  exact I.step (g' := s.gens) (d' := s.drawn) (ch := []) (fun _ z => nomatch z) (fun b o _ hb _ e n => u.keep b o e n hb (by simp)) (fun b o _ hb _ e n => u.slot b o e n hb (by simp)) (fun b o _ e n => u.free b o e n (by simp)) (fun b o _ e => u.there b o e (by simp)) u.tups u.frzs u.tbls (fun m' hm => by
    obtain ⟨o', es', ep', ho', r'⟩ := hm
    rw [ho] at ho'; cases ho'
    exact ⟨_, es', ep', hL, r'⟩) hok I.bare
/-- behind a call (or a comprehension's block): the slots of this frame may have changed too, the records at ch may have turned -/
theorem Inv.call {g' : Array GenState} {t' : Nat} {d' : Drawn} {ch : List Addr} (I : Inv X pins σ H s) (u : Un (frs X.stack) ch H H' s.heap h') (hok : HOk X.prog X.w H' h') (hg : AllBare g')
    (hch : ∀ b ∈ ch, (b ∈ X.ex ∨ X.s₀.heap.objs.size ≤ b) ∧ b ≠ X.env.locals ∧ (∀ x c, X.env.cells.lookup x = some c → c ≠ b) ∧ ∀ p ∈ X.pn ++ pins, p.1 ≠ b) :
    Inv X pins σ H' { s with heap := h', gens := g', drawn := d', toks := t' } := by
  obtain ⟨m, ⟨o, es, ep, ho, r⟩, _⟩ := id I.loc
  obtain ⟨sl, hL⟩ := u.any ho I.free fun z => (hch _ z).2.1 rfl
  exact I.step (ch := ch) hch (fun b o hL hb hc e n => u.keep b o e n (fun z => (List.mem_cons.mp (I.stkSub b z)).elim hL hb) hc) (fun b o _ _ hc e n => u.any e n hc) (fun b o hc e n => u.free b o e n hc) (fun b o hc e => u.there b o e hc) u.tups u.frzs u.tbls (fun m' hm => by
    obtain ⟨o', es', ep', ho', r'⟩ := hm
    rw [ho] at ho'; cases ho'
    exact ⟨_, es', ep', hL, r'⟩) hok hg
/-- an untracked record of ours (an iterator) has turned -/
theorem Inv.turned {t' : Nat} {it : Addr} (I : Inv X pins σ H s) (k : ∀ b o, b ≠ it → s.heap.get? b = some o → h'.get? b = some o) (hn : H it = none) (hL : it ≠ X.env.locals)
    (h1 : it ∈ X.ex ∨ X.s₀.heap.objs.size ≤ it) (h2 : ∀ x c, X.env.cells.lookup x = some c → c ≠ it) (h3 : ∀ p ∈ X.pn ++ pins, p.1 ≠ it) : Inv X pins σ H { s with heap := h', toks := t' } := by
  have nit : ∀ b u, H b = some u → b ≠ it := fun b u e z => by rw [z, hn] at e; cases e
  refine I.step (g' := s.gens) (d' := s.drawn) (ch := [it]) (fun b hb => ?_) (fun b o _ _ hc e _ => k b o (fun z => hc (by simp [z])) e) (fun b o _ _ hc e _ => ⟨o.slots, k b o (fun z => hc (by simp [z])) e⟩) (fun _ _ _ _ n => n)
    (fun b o hc e => ⟨o, k b o (fun z => hc (by simp [z])) e⟩) (fun _ _ e => e) (fun _ _ _ e => e) (fun b ps e => ⟨#[], by rw [e]; simp⟩) (fun m hm => ?_) (fun b u e => ?_) I.bare
  · have e : b = it := by simpa using hb
    subst e
    exact ⟨h1, hL, h2, h3⟩
  · obtain ⟨o, es, ep, ho, r⟩ := hm
    exact ⟨o, es, ep, k _ o (Ne.symm hL) ho, r⟩
  · refine (I.hok b u e).stay (fun c v hc q => k c v ?_ q) (fun _ q => q) fun _ _ q => q
    rcases hc with z | z
    · rw [z]; exact nit b u e
    · exact nit c _ z
theorem Inv.tok (I : Inv X pins σ H s) (t : Nat) : Inv X pins σ H { s with toks := t } := I.un (h' := s.heap) (t' := t) Un.refl I.hok
/-- all objects kept -/
theorem Inv.kept {t' : Nat} (I : Inv X pins σ H s) (k : ∀ b u, s.heap.get? b = some u → h'.get? b = some u) : Inv X pins σ H { s with heap := h', toks := t' } := I.un (Un.kept k) (I.hok.kept k)
/-- a new object laid and tracked -/
theorem Inv.laid {a : Addr} {o : HO} {t' : Nat} (I : Inv X pins σ H s) (k : ∀ b u, s.heap.get? b = some u → h'.get? b = some u) (hp : s.heap.objs.size ≤ a) (new : ObjOk X.prog X.w (upd H a o) h' a o) :
    Inv X pins σ (upd H a o) { s with heap := h', toks := t' } := I.un (Un.laid k hp (I.hok.fresh hp)) (I.hok.laid k hp new)
/-- an object written -/
theorem Inv.write {x e : Addr} {o : HO} {t' : Nat} (I : Inv X pins σ H s) (mu : Mut (H x)) (he : e = x ∨ H e = some (.own x)) (k : ∀ b u, b ≠ e → s.heap.get? b = some u → h'.get? b = some u) (heo : ∃ u, h'.get? e = some u)
    (new : ObjOk X.prog X.w (upd H x o) h' x o) : Inv X pins σ (upd H x o) { s with heap := h', toks := t' } := I.un (Un.write mu he k heo) (I.hok.write mu he k heo new)
theorem Inv.pins_of {pins' : List (Addr × Obj)} (I : Inv X pins σ H s) (h : ∀ p ∈ pins', s.heap.get? p.1 = some p.2 ∧ H p.1 = none ∧ p.1 ≠ X.env.locals ∧ p.1 ∉ X.fs ∧ ∀ v, p.2.data ≠ .cell v) : Inv X pins' σ H s :=
  ⟨I.ok, I.os, I.bare, I.base, I.loc, I.cell, I.free, I.freeC, fun p hp => (List.mem_append.mp hp).elim (fun z => I.pin p (List.mem_append_left _ z)) (h p), I.hok, I.len⟩

theorem nodup_ix {N : List Str} (hN : N.Nodup) {i j : Nat} {x : Str} (a : N[i]? = some x) (b : N[j]? = some x) : i = j := by
  obtain ⟨h1, e1⟩ := List.getElem?_eq_some_iff.mp a
  obtain ⟨h2, e2⟩ := List.getElem?_eq_some_iff.mp b
  exact (List.getElem_inj hN).mp (e1.trans e2.symm)

/-- a name is stored; what changed -/
theorem store_ok2 {M : Model} {A : Around} {E : Value → Shared → Prop} {i : Nat} {x : Str} {v : V} {u : Value} {Q : Unit → Shared → Prop} (I : Inv X pins σ H s) (hN : X.N.Nodup) (hi : X.N[i]? = some x) (hx : Loc X.env.scope x) (r : RelV v u)
    (h : ∀ s', Inv X pins (σ.set i (some v)) H s' → (∃ a, Heap.SameBut a s.heap s'.heap ∧ (a = X.env.locals ∨ X.env.cells.lookup x = some a)) → Q () s') (hf : X.fn x = true ∨ X.env.scope.names.lookup x = some .local := by first | exact .inl rfl | exact .inr rfl | assumption) : wpAny M A (storeName X.env x u) Q E s := by
  obtain ⟨m, hn, hl⟩ := id I.loc
  have hcls : (X.env.scope.kind == .class || (X.env.scope.kind == .module && X.env.locals != X.env.globals)) = false := by rw [I.ok.kind]; rfl
  have hiσ : i < σ.length := by rw [I.len]; exact (List.getElem?_eq_some_iff.mp hi).1
  have cne := I.cne
  have tracked : ∀ {a : Addr} {h' : Heap}, (∃ o, s.heap.get? a = some o ∧ H a = none) → Heap.SameBut a s.heap h' → HOk X.prog X.w H h' := fun {a h'} ha hs b ob e => by
    obtain ⟨_, _, hfree⟩ := ha
    refine (I.hok b ob e).stay (fun c w' hc q => (hs.2 c ?_).trans q) (fun _ q => q) fun _ _ q => q
    rintro rfl
    rcases hc with rfl | hc
    · rw [hfree] at e; cases e
    · rw [hfree] at hc; cases hc
  rcases hx with hk | hk
  · refine wpAny_storeName_local hk hn (fun h' hn' hs => ?_) hcls
    obtain ⟨oL, _, _, hoL, _⟩ := id hn
    refine h _ ⟨I.ok, I.os, I.bare, ⟨fun b o e n hb hx => ?_, fun b o e n hb hx => ?_, I.base.free, fun b o e hx => ?_, I.base.tups, I.base.frzs, I.base.tbls⟩, ⟨_, hn', fun j y v' e1 e2 e3 => ?_⟩, fun y c e => ?_, I.free, I.freeC, fun p hp => ?_, tracked ⟨oL, hoL, I.free⟩ hs, by simpa using I.len⟩ ⟨_, hs, .inl rfl⟩
    · exact (hs.2 b (Nat.ne_of_lt (Nat.lt_of_lt_of_le (Heap.lt_size e) I.ok.above))).trans (I.base.keep b o e n hb hx)
    · obtain ⟨sl, e1⟩ := I.base.slot b o e n hb hx
      exact ⟨sl, (hs.2 b (Nat.ne_of_lt (Nat.lt_of_lt_of_le (Heap.lt_size e) I.ok.above))).trans e1⟩
    · obtain ⟨o', e1⟩ := I.base.there b o e hx
      exact ⟨o', (hs.2 b (Nat.ne_of_lt (Nat.lt_of_lt_of_le (Heap.lt_size e) I.ok.above))).trans e1⟩
    · by_cases hj : j = i
      · subst hj
        rw [hi] at e1; cases e1
        rw [List.getElem?_set_self hiσ] at e2
        cases e2
        exact ⟨u, r, .inl ⟨hk, by simp⟩⟩
      · rw [List.getElem?_set_ne (Ne.symm hj)] at e2
        obtain ⟨u', r', q⟩ := hl j y v' e1 e2 e3
        refine ⟨u', r', ?_⟩
        rcases q with ⟨k, e⟩ | ⟨k, c, e, z⟩
        · refine .inl ⟨k, ?_⟩
          have : y ≠ x := fun e => hj (nodup_ix hN e1 (e ▸ hi))
          simp [this, e]
        · exact .inr ⟨k, c, e, z.sameBut hs (cne y c e)⟩
    · obtain ⟨w', z⟩ := I.cell y c e
      exact ⟨w', z.sameBut hs (cne y c e)⟩
    · obtain ⟨e, n, ne, nf, d⟩ := I.pin p hp
      exact ⟨(hs.2 p.1 ne).trans e, n, ne, nf, d⟩
  · have hfn : X.fn x = true := by
      rcases hf with z | z
      · exact z
      · rw [z] at hk; cases hk
    obtain ⟨c, hc⟩ := I.ok.has x (.inl hk)
    obtain ⟨w', z⟩ := I.cell x c hc
    refine wpAny_storeName_cell I.ok.kind hk hc z (fun h' hc' hs => ?_)
    obtain ⟨oc, hoc, hocd⟩ := id z
    refine h { s with heap := h' } ⟨I.ok, I.os, I.bare, ⟨fun b o e n hb hx => ?_, fun b o e n hb hx => ?_, I.base.free, fun b o e hx => ?_, I.base.tups, I.base.frzs, I.base.tbls⟩, ⟨m, hn.sameBut hs (Ne.symm (cne x c hc)), fun j y v' e1 e2 e3 => ?_⟩, fun y c' e => ?_, I.free, I.freeC, fun p hp => ?_, tracked ⟨oc, hoc, I.freeC x c hc⟩ hs, by simpa using I.len⟩ ⟨c, hs, .inr hc⟩
    · exact (hs.2 b (Nat.ne_of_lt (Nat.lt_of_lt_of_le (Heap.lt_size e) (I.ok.cab x c hfn hc)))).trans (I.base.keep b o e n hb hx)
    · obtain ⟨sl, e1⟩ := I.base.slot b o e n hb hx
      exact ⟨sl, (hs.2 b (Nat.ne_of_lt (Nat.lt_of_lt_of_le (Heap.lt_size e) (I.ok.cab x c hfn hc)))).trans e1⟩
    · obtain ⟨o', e1⟩ := I.base.there b o e hx
      exact ⟨o', (hs.2 b (Nat.ne_of_lt (Nat.lt_of_lt_of_le (Heap.lt_size e) (I.ok.cab x c hfn hc)))).trans e1⟩
    · by_cases hj : j = i
      · subst hj
        rw [hi] at e1; cases e1
        rw [List.getElem?_set_self hiσ] at e2
        cases e2
        exact ⟨u, r, .inr ⟨.inl hk, c, hc, hc'⟩⟩
      · rw [List.getElem?_set_ne (Ne.symm hj)] at e2
        obtain ⟨u', r', q⟩ := hl j y v' e1 e2 e3
        refine ⟨u', r', ?_⟩
        rcases q with q | ⟨k, c', e, z'⟩
        · exact .inl q
        · refine .inr ⟨k, c', e, z'.sameBut hs ?_⟩
          rintro rfl
          exact hj (nodup_ix hN e1 (I.ok.inj _ _ _ e hc ▸ hi))
    · by_cases hcc : c' = c
      · subst hcc; exact ⟨_, hc'⟩
      · obtain ⟨w2, z2⟩ := I.cell y c' e
        exact ⟨w2, z2.sameBut hs hcc⟩
    · obtain ⟨e, n, ne, nf, d⟩ := I.pin p hp
      refine ⟨(hs.2 p.1 ?_).trans e, n, ne, nf, d⟩
      intro q
      rw [q, hoc] at e
      have q' : oc = p.2 := Option.some.inj e
      exact d w' (by rw [← q']; exact hocd)
theorem store_ok {M : Model} {A : Around} {E : Value → Shared → Prop} {i : Nat} {x : Str} {v : V} {u : Value} {Q : Unit → Shared → Prop} (I : Inv X pins σ H s) (hN : X.N.Nodup) (hi : X.N[i]? = some x) (hx : Loc X.env.scope x) (r : RelV v u)
    (h : ∀ s', Inv X pins (σ.set i (some v)) H s' → Q () s') (hf : X.fn x = true ∨ X.env.scope.names.lookup x = some .local := by first | exact .inl rfl | exact .inr rfl | assumption) : wpAny M A (storeName X.env x u) Q E s :=
  store_ok2 I hN hi hx r (fun s' I' _ => h s' I') hf
/-- behind a call or a block, the state as it is -/
theorem Inv.call' {s' : Shared} {ch : List Addr} (I : Inv X pins σ H s) (ho : s'.os = s.os) (u : Un (frs X.stack) ch H H' s.heap s'.heap) (hok : HOk X.prog X.w H' s'.heap) (hg : AllBare s'.gens)
    (hch : ∀ b ∈ ch, (b ∈ X.ex ∨ X.s₀.heap.objs.size ≤ b) ∧ b ≠ X.env.locals ∧ (∀ x c, X.env.cells.lookup x = some c → c ≠ b) ∧ ∀ p ∈ X.pn ++ pins, p.1 ≠ b) : Inv X pins σ H' s' := by
  obtain ⟨h', g', d', t', o'⟩ := s'
  have e : o' = s.os := ho
  subst e
  exact I.call (g' := g') (t' := t') (d' := d') u hok hg hch
end

/-! ### the judgements -/
/-- an exception: its class, its own dict's address (where it has one), the abstract heap behind it -/
noncomputable abbrev XK := Value → Option Addr → Hp → Prop
noncomputable abbrev St := List (Option V)
noncomputable abbrev VK := V → Hp → Prop
/-- an expression's reading; a test's; an argument list's -/
noncomputable abbrev TE := St → Hp → VK → Prop
noncomputable abbrev TT := St → Hp → (Bool → Hp → Prop) → Prop
noncomputable abbrev TA := St → Hp → (List V → Hp → Prop) → Prop
/-- what is wanted behind a statement -/
structure Ends where
  nx : St → Hp → Prop
  rt : VK
  bk : St → Hp → Prop := fun _ _ => False
  ct : St → Hp → Prop := fun _ _ => False
noncomputable abbrev TS := Ends → St → Hp → Prop

noncomputable def EP (X : Cx) (pins : List (Addr × Obj)) (σ : St) (Q : VK) (u : Value) (s' : Shared) : Prop := ∃ v H', Inv X pins σ H' s' ∧ RelV v u ∧ Q v H'
noncomputable def TP (X : Cx) (pins : List (Addr × Obj)) (σ : St) (Q : Bool → Hp → Prop) (b : Bool) (s' : Shared) : Prop := ∃ H', Inv X pins σ H' s' ∧ Q b H'
noncomputable def AP (X : Cx) (pins : List (Addr × Obj)) (σ : St) (Q : List V → Hp → Prop) (us : List Value) (s' : Shared) : Prop := ∃ vs H', Inv X pins σ H' s' ∧ Vals vs us ∧ Q vs H'
noncomputable def SP (X : Cx) (pins : List (Addr × Obj)) (D : Ends) (f : Flow) (s' : Shared) : Prop :=
  match f with
  | .next => ∃ σ' H', Inv X pins σ' H' s' ∧ D.nx σ' H'
  | .brk => ∃ σ' H', Inv X pins σ' H' s' ∧ D.bk σ' H'
  | .cont => ∃ σ' H', Inv X pins σ' H' s' ∧ D.ct σ' H'
  | .ret u => ∃ v σ' H', Inv X pins σ' H' s' ∧ RelV v u ∧ D.rt v H'

noncomputable def PE (X : Cx) (e : Expr) (t : TE) : Prop :=
  ∀ (pins : List (Addr × Obj)) (s : Shared) (σ : St) (H : Hp) (Q : VK), Inv X pins σ H s → t σ H Q → wpAny (model X.prog X.w) X.A (eval e X.env) (EP X pins σ Q) X.xe s
noncomputable def PT (X : Cx) (e : Expr) (t : TT) : Prop :=
  ∀ (pins : List (Addr × Obj)) (s : Shared) (σ : St) (H : Hp) (Q : Bool → Hp → Prop), Inv X pins σ H s → t σ H Q → wpAny (model X.prog X.w) X.A (isTrue e X.env (eval e X.env)) (TP X pins σ Q) X.xe s
/-- a test whatever its 'whole' is (and, or) -/
noncomputable def PW (X : Cx) (e : Expr) (t : TT) : Prop :=
  ∀ (whole : Sem Value) (pins : List (Addr × Obj)) (s : Shared) (σ : St) (H : Hp) (Q : Bool → Hp → Prop), Inv X pins σ H s → t σ H Q → wpAny (model X.prog X.w) X.A (isTrue e X.env whole) (TP X pins σ Q) X.xe s
theorem PW.pt {X : Cx} {e : Expr} {t : TT} (h : PW X e t) : PT X e t := h _
/-- an argument list (no star), from the left -/
noncomputable def PA (X : Cx) (es : List Expr) (t : TA) : Prop :=
  ∀ (pos : Pos) (pins : List (Addr × Obj)) (s : Shared) (σ : St) (H : Hp) (Q : List V → Hp → Prop), Inv X pins σ H s → t σ H Q → wpAny (model X.prog X.w) X.A (spliced (backTo pos (starEach es X.env))) (AP X pins σ Q) X.xe s
noncomputable def PS (X : Cx) (st : Stmt) (t : TS) : Prop :=
  ∀ (pins : List (Addr × Obj)) (s : Shared) (σ : St) (H : Hp) (D : Ends), Inv X pins σ H s → t D σ H → wpAny (model X.prog X.w) X.A (exec st X.env) (SP X pins D) X.xe s
noncomputable def PSs (X : Cx) (st : List Stmt) (t : TS) : Prop :=
  ∀ (pins : List (Addr × Obj)) (s : Shared) (σ : St) (H : Hp) (D : Ends), Inv X pins σ H s → t D σ H → wpAny (model X.prog X.w) X.A (execs st X.env) (SP X pins D) X.xe s
/-- weaken the end -/
theorem thn {α : Type} {t : Sem α} {Q Q' : α → Shared → Prop} {M : Model} {A : Around} {E : Value → Shared → Prop} {s : Shared} (h : wpAny M A t Q E s) (hQ : ∀ a s, Q a s → Q' a s) : wpAny M A t Q' E s := wpAny_mono h hQ fun _ _ x => x
end L2

namespace L2
open PySem PySem.Spec PyProof.Rows
section
variable {X : Cx}


/-! ### names and constants -/
noncomputable def tVar (i : Nat) : TE := fun σ H Q => ∃ v, σ[i]? = some (some v) ∧ Q v H
noncomputable def tC (v : V) : TE := fun _ H Q => Q v H
theorem pe_var {i : Nat} {x : Str} {pos : Pos} (hN : X.N[i]? = some x) (hv : Vis X.env.scope x) (hd : (x == ("__debug__" : Str)) = false := by decide) (hcd : (x == ("__classdict__" : Str)) = false := by decide) : PE X (.Name x pos) (tVar i) := by
  intro pins s σ H Q I h
  obtain ⟨v, e, h⟩ := h
  obtain ⟨m, hn, hl⟩ := I.loc
  obtain ⟨u, r, l⟩ := hl i x v hN e hv
  have fin : EP X pins σ Q u s := ⟨v, H, I, r, h⟩
  rcases l with ⟨hk, hm⟩ | ⟨hk, c, hc, hcell⟩
  · exact wpAny_Name (wpAny_loadName_local I.ok.kind hk hn hm fin) hd
  · rcases hk with hk | hk
    · exact wpAny_Name (wpAny_loadName_cell I.ok.kind hk hc hcell fin) hd
    · exact wpAny_Name (wpAny_loadName_free I.ok.kind hk hc hcell fin hcd) hd
theorem pe_int {i j pos} : PE X (.Constant (.int i) j pos) (tC (.int i)) := fun _ _ _ H _ I h => wpAny_Constant_int ⟨.int i, H, I.tok _, ⟨_, rfl⟩, h⟩
theorem pe_bl {b j pos} : PE X (.Constant (.bool b) j pos) (tC (.bl b)) := fun _ _ _ H _ I h => Constant_bool ⟨.bl b, H, I, rfl, h⟩
theorem pe_non {j pos} : PE X (.Constant .none j pos) (tC .non) := fun _ _ _ H _ I h => Constant_none ⟨.non, H, I, rfl, h⟩
theorem pe_str {x j pos} : PE X (.Constant (.str x) j pos) (tC (.str x)) := fun _ _ _ H _ I h => Calls.Constant_str ⟨.str x, H, I.tok _, ⟨_, rfl⟩, h⟩

/-- a global name of the def -/
noncomputable def Gl (X : Cx) (x : Str) : Prop := X.env.kindOf x = some .globalImplicit
theorem ld_glob {E : Value → Shared → Prop} {pins : List (Addr × Obj)} {s : Shared} {σ : St} {H : Hp} {x : Str} {u : Value} {pos : Pos} {Q : Value → Shared → Prop} (I : Inv X pins σ H s) (hg : Gl X x) (hm : X.mg x = some u) (h : Q u s)
    (hd : (x == ("__debug__" : Str)) = false := by decide) : wpAny (model X.prog X.w) X.A (eval (.Name x pos) X.env) Q E s :=
  Calls.Name_function_global I.ok.kind hg (Calls.loadGlobal_global (by rw [I.ok.glob]; exact I.mod.glob.keeps I.bk) hm h) hd
theorem ld_blt {E : Value → Shared → Prop} {pins : List (Addr × Obj)} {s : Shared} {σ : St} {H : Hp} {x : Str} {u : Value} {pos : Pos} {Q : Value → Shared → Prop} (I : Inv X pins σ H s) (hg : Gl X x) (hm : X.mg x = none) (hv : bootBuiltins x = some u) (h : Q u s)
    (hn : x ≠ "__name__" := by decide) (hd : (x == ("__debug__" : Str)) = false := by decide) : wpAny (model X.prog X.w) X.A (eval (.Name x pos) X.env) Q E s := by
  obtain ⟨mb, h1, h2⟩ := I.mod.blt
  exact Calls.Name_function_global I.ok.kind hg (Calls.loadGlobal_builtin (by rw [I.ok.glob]; exact I.mod.glob.keeps I.bk) hm (by rw [I.ok.blt]; exact h1.keeps I.bk) ((h2 x hn).trans hv) h) hd
theorem pe_bltn {x : Str} {v : V} {u : Value} {pos : Pos} (hg : Gl X x) (hm : X.mg x = none) (hv : bootBuiltins x = some u) (r : RelV v u) (hn : x ≠ "__name__" := by decide) (hd : (x == ("__debug__" : Str)) = false := by decide) : PE X (.Name x pos) (tC v) :=
  fun _ _ _ H _ I h => ld_blt I hg hm hv ⟨v, H, I, r, h⟩ hn hd

/-! ### arithmetic -/
variable {a b : Expr} {ta tb : TE} {pos : Pos}

/-! ### comparisons -/
/-- a comparison as a value, as a test -/
noncomputable def tB (t : TE) : TT := fun σ H Q => t σ H fun x H1 => ∃ c, x = .bl c ∧ Q c H1
/-- an expression whose value is a bool, as a test -/
theorem pt_val {e : Expr} {t : TE} (h : PE X e t) (he : ∀ whole, isTrue e X.env whole = (do let v ← whole; standAt e.pos; holding [v] (truthy v)) := by intro _; rfl) : PT X e (tB t) := by
  intro pins s σ H Q I hw
  refine isTrue_plain (thn (h pins s σ H _ I hw) fun v s1 zz => ?_) (he _)
  obtain ⟨x, H1, I1, r1, q1⟩ := zz
  obtain ⟨d, rfl, q⟩ := q1
  cases r1
  exact wpAny_truthy_bool ⟨H1, I1, q⟩

/-! ### and, or, not -/
variable {tA tB' : TT} {rest : List Expr}
noncomputable def tAnd (t u : TT) : TT := fun σ H Q => t σ H fun c H1 => if c = true then u σ H1 Q else Q false H1
noncomputable def tOr (t u : TT) : TT := fun σ H Q => t σ H fun c H1 => if c = true then Q true H1 else u σ H1 Q
noncomputable def tNot (t : TT) : TT := fun σ H Q => t σ H fun c H1 => Q (!c) H1
theorem pw_and1 (ha : PT X a tA) : PW X (.BoolOp .And [a] pos) tA := by
  intro wh pins s σ H Q I h
  refine isTrue_and (thn (ha pins s σ H Q I h) fun c s1 e => ?_)
  cases c with
  | true => exact isTrue_and_nil e
  | false => exact e
theorem pw_or1 (ha : PT X a tA) : PW X (.BoolOp .Or [a] pos) tA := by
  intro wh pins s σ H Q I h
  refine isTrue_or (thn (ha pins s σ H Q I h) fun c s1 e => ?_)
  cases c with
  | false => exact isTrue_or_nil e
  | true => exact e
theorem pw_and (ha : PT X a tA) (hb : PW X (.BoolOp .And (b :: rest) pos) tB') : PW X (.BoolOp .And (a :: b :: rest) pos) (tAnd tA tB') := by
  intro wh pins s σ H Q I h
  refine isTrue_and (thn (ha pins s σ H _ I h) fun c s1 zz => ?_)
  obtain ⟨H1, I1, q1⟩ := zz
  cases c with
  | true => exact hb wh pins s1 σ H1 Q I1 q1
  | false => exact ⟨H1, I1, q1⟩
theorem pw_or (ha : PT X a tA) (hb : PW X (.BoolOp .Or (b :: rest) pos) tB') : PW X (.BoolOp .Or (a :: b :: rest) pos) (tOr tA tB') := by
  intro wh pins s σ H Q I h
  refine isTrue_or (thn (ha pins s σ H _ I h) fun c s1 zz => ?_)
  obtain ⟨H1, I1, q1⟩ := zz
  cases c with
  | true => exact ⟨H1, I1, q1⟩
  | false => exact hb wh pins s1 σ H1 Q I1 q1
theorem pt_not (ha : PT X a tA) : PT X (.UnaryOp .Not a pos) (tNot tA) := by
  intro pins s σ H Q I h
  exact isTrue_not (ha pins s σ H (fun c H1 => Q (!c) H1) I h)
/-- .. as values (bools) -/
noncomputable def tAndV (ta tb : TE) : TE := fun σ H Q => ta σ H fun x H1 => ∃ c, x = .bl c ∧ if c = true then tb σ H1 Q else Q (.bl false) H1
noncomputable def tOrV (ta tb : TE) : TE := fun σ H Q => ta σ H fun x H1 => ∃ c, x = .bl c ∧ if c = true then Q (.bl true) H1 else tb σ H1 Q
noncomputable def tNotV (ta : TE) : TE := fun σ H Q => ta σ H fun x H1 => ∃ c, x = .bl c ∧ Q (.bl (!c)) H1
theorem pe_one {op} {t : TE} (h : PE X a t) : PE X (.BoolOp op [a] pos) t := fun pins s σ H Q I hw => BoolOp_one (h pins s σ H Q I hw)
theorem pe_and (ha : PE X a ta) (hb : PE X (.BoolOp .And (b :: rest) pos) tb) : PE X (.BoolOp .And (a :: b :: rest) pos) (tAndV ta tb) := by
  intro pins s σ H Q I h
  refine BoolOp_and (thn (ha pins s σ H _ I h) fun v s1 zz => ?_)
  obtain ⟨x, H1, I1, r1, q1⟩ := zz
  obtain ⟨c, rfl, q1⟩ := q1
  cases r1
  refine wpAny_truthy_bool ?_
  cases c with
  | true => exact hb pins s1 σ H1 Q I1 q1
  | false => exact ⟨.bl false, H1, I1, rfl, q1⟩
theorem pe_or (ha : PE X a ta) (hb : PE X (.BoolOp .Or (b :: rest) pos) tb) : PE X (.BoolOp .Or (a :: b :: rest) pos) (tOrV ta tb) := by
  intro pins s σ H Q I h
  refine BoolOp_or (thn (ha pins s σ H _ I h) fun v s1 zz => ?_)
  obtain ⟨x, H1, I1, r1, q1⟩ := zz
  obtain ⟨c, rfl, q1⟩ := q1
  cases r1
  refine wpAny_truthy_bool ?_
  cases c with
  | false => exact hb pins s1 σ H1 Q I1 q1
  | true => exact ⟨.bl true, H1, I1, rfl, q1⟩
theorem pe_not (ha : PE X a ta) : PE X (.UnaryOp .Not a pos) (tNotV ta) := by
  intro pins s σ H Q I h
  refine UnaryOp_ (thn (ha pins s σ H _ I h) fun v s1 zz => ?_)
  obtain ⟨x, H1, I1, r1, q1⟩ := zz
  obtain ⟨c, rfl, q1⟩ := q1
  cases r1
  exact not_of (wpAny_truthy_bool ⟨.bl (!c), H1, I1, rfl, q1⟩)
end
end L2

namespace L2
open PySem PySem.Spec PyProof.Rows

/-! ### a list, a tuple that is read: tracked, frozen, or an object of the module -/
noncomputable def SqL (K : PySem.W.Frag) (H : Hp) (a : Addr) (xs : List V) : Prop :=
  Rd H a (.lst xs) ∨
    ∃ (o : Obj) (its : Array Value) (n : Nat), K.lookup a = some o ∧ o.cls = .type "list" ∧ o.dict = none ∧ o.data = .seq its n ∧ its.size ≤ sizeLine ∧ Vals xs its.toList
noncomputable def SqT (K : PySem.W.Frag) (H : Hp) (a : Addr) (xs : List V) : Prop :=
  Rd H a (.tup xs) ∨
    ∃ (o : Obj) (its : Array Value) (n : Nat), K.lookup a = some o ∧ o.cls = .type "tuple" ∧ o.data = .seq its n ∧ its.size ≤ sizeLine ∧ Vals xs its.toList
noncomputable def absV : Value → Option V
  | .none => some .non
  | .bool b => some (.bl b)
  | .int i _ => some (.int i)
  | .str x _ => some (.str x)
  | .bytes b _ => some (.byt b)
  | .float b _ => some (.flt b)
  | .ref a => some (.ref a)
  | .type n => some (.ty n)
  | _ => none
theorem RelV.abs {x : V} {u : Value} (r : RelV x u) : absV u = some x := by
  cases x with
  | non => cases r; rfl
  | bl _ => cases r; rfl
  | int _ => obtain ⟨t, rfl⟩ := r; rfl
  | str _ => obtain ⟨t, rfl⟩ := r; rfl
  | byt _ => obtain ⟨t, rfl⟩ := r; rfl
  | flt _ => obtain ⟨t, rfl⟩ := r; rfl
  | ref _ => cases r; rfl
  | ty _ => cases r; rfl
theorem RelV.inj {x y : V} {u : Value} (r : RelV x u) (q : RelV y u) : x = y := Option.some.inj (r.abs.symm.trans q.abs)
theorem Vals.inj : ∀ {xs ys : List V} {us : List Value}, Vals xs us → Vals ys us → xs = ys
  | _, _, _, .nil, .nil => rfl
  | _, _, _, .cons r t, .cons r' t' => by rw [r.inj r', Vals.inj t t']
section
variable {X : Cx} {pins : List (Addr × Obj)} {σ : St} {H : Hp} {s : Shared} {a : Addr} {xs ys : List V}
theorem SqL.of {K : PySem.W.Frag} (h : H a = some (.lst xs)) : SqL K H a xs := .inl (.inl h)
theorem SqT.of {K : PySem.W.Frag} (h : H a = some (.tup xs)) : SqT K H a xs := .inl (.inl h)
theorem Inv.list (I : Inv X pins σ H s) (h : SqL X.K H a xs) : ∃ its : List Value, Vals xs its ∧ PlainL s.heap a its.toArray ∧ xs.length ≤ sizeLine := by
  rcases h with h | ⟨o, its, n, hk, hc, hd, hs, hz, r⟩
  · obtain ⟨z, its, n, r, e⟩ := h.ok I.hok
    exact ⟨its, r, ⟨_, n, e, rfl, rfl, rfl⟩, z⟩
  · refine ⟨its.toList, r, ⟨o, n, I.kIn a o hk, hc, hd, by simpa using hs⟩, ?_⟩
    have e := r.length
    simp only [Array.length_toList] at e
    omega
theorem Inv.tuple (I : Inv X pins σ H s) (h : SqT X.K H a xs) : ∃ its : List Value, Vals xs its ∧ IsTup s.heap a its.toArray ∧ xs.length ≤ sizeLine := by
  rcases h with h | ⟨o, its, n, hk, hc, hs, hz, r⟩
  · obtain ⟨z, its, r, p⟩ := h.ok I.hok
    exact ⟨its, r, p, z⟩
  · refine ⟨its.toList, r, ⟨o, I.kIn a o hk, hc, n, by simpa using hs⟩, ?_⟩
    have e := r.length
    simp only [Array.length_toList] at e
    omega
theorem Inv.list_inj (I : Inv X pins σ H s) (h : SqL X.K H a xs) (h' : SqL X.K H a ys) : xs = ys := by
  obtain ⟨its, r, ⟨o, n, e, _, _, d⟩, _⟩ := I.list h
  obtain ⟨its', r', ⟨o', n', e', _, _, d'⟩, _⟩ := I.list h'
  rw [e] at e'; cases e'
  rw [d] at d'
  injection d' with d1 _
  have : its = its' := by simpa using congrArg Array.toList d1
  subst this
  exact r.inj r'
end

/-! ### another wish about exceptions -/
noncomputable abbrev Cx.wish (X : Cx) (E : Value → Shared → Prop) : Cx := { X with xe := E }
/-- no exception leaves -/
noncomputable abbrev Cx.nox (X : Cx) : Cx := X.wish fun _ _ => False
theorem Cx.Ok.wish {X : Cx} (ok : X.Ok) (E : Value → Shared → Prop) : (X.wish E).Ok :=
  ⟨ok.mod, ok.kind, ok.glob, ok.blt, ok.above, ok.inj, ok.has, ok.cab, ok.hd, ok.frames, ok.stk, ok.exf, ok.bs, ok.bsz, ok.noex, ok.exfs, ok.funs, ok.frf⟩
theorem Cx.Ok.unwish {X : Cx} {E : Value → Shared → Prop} (ok : (X.wish E).Ok) : X.Ok :=
  ⟨ok.mod, ok.kind, ok.glob, ok.blt, ok.above, ok.inj, ok.has, ok.cab, ok.hd, ok.frames, ok.stk, ok.exf, ok.bs, ok.bsz, ok.noex, ok.exfs, ok.funs, ok.frf⟩
section
variable {X : Cx} {pins : List (Addr × Obj)} {σ : St} {H : Hp} {s : Shared} {E : Value → Shared → Prop}
theorem Inv.wish (I : Inv X pins σ H s) (E : Value → Shared → Prop) : Inv (X.wish E) pins σ H s := ⟨I.ok.wish E, I.os, I.bare, I.base, I.loc, I.cell, I.free, I.freeC, I.pin, I.hok, I.len⟩
theorem Inv.unwish (I : Inv (X.wish E) pins σ H s) : Inv X pins σ H s := ⟨I.ok.unwish, I.os, I.bare, I.base, I.loc, I.cell, I.free, I.freeC, I.pin, I.hok, I.len⟩
theorem SP.unwish {D : Ends} {f : Flow} {s' : Shared} (h : SP (X.wish E) pins D f s') : SP X pins D f s' := by
  cases f with
  | next => obtain ⟨σ', H', I, q⟩ := h; exact ⟨σ', H', I.unwish, q⟩
  | brk => obtain ⟨σ', H', I, q⟩ := h; exact ⟨σ', H', I.unwish, q⟩
  | cont => obtain ⟨σ', H', I, q⟩ := h; exact ⟨σ', H', I.unwish, q⟩
  | ret u => obtain ⟨v, σ', H', I, r, q⟩ := h; exact ⟨v, σ', H', I.unwish, r, q⟩
theorem PSs.nox {st : List Stmt} {t : TS} (h : PSs X.nox st t) : PSs X st t := fun pins s σ H D I hw =>
  wpAny_mono (h pins s σ H D (I.wish _) hw) (fun _ _ q => q.unwish) fun _ _ z => False.elim z
end

/-! ### blocks and small statements -/
section
variable {X : Cx} {st : Stmt} {rest : List Stmt} {t u : TS} {e : Expr} {te : TE} {pos : Pos}
noncomputable def tNext : TS := fun D σ H => D.nx σ H
noncomputable def tSeq (t u : TS) : TS := fun D σ H => t { D with nx := u D } σ H
theorem pss_nil : PSs X [] tNext := fun _ _ σ H _ I h => wpAny_execs_nil ⟨σ, H, I, h⟩
theorem pss_cons (h1 : PS X st t) (h2 : PSs X rest u) : PSs X (st :: rest) (tSeq t u) := by
  intro pins s σ H D I h
  refine wpAny_execs_cons (thn (h1 pins s σ H { D with nx := u D } I h) fun f s1 q => ?_)
  cases f with
  | next =>
    obtain ⟨σ', H', I', q⟩ := q
    exact h2 pins s1 σ' H' D I' q
  | ret v => exact q
  | brk => exact q
  | cont => exact q
theorem pss_one (h1 : PS X st t) : PSs X [st] t := by
  intro pins s σ H D I h
  refine wpAny_execs_cons (thn (h1 pins s σ H D I h) fun f s1 q => ?_)
  cases f with
  | next => exact wpAny_execs_nil q
  | ret v => exact q
  | brk => exact q
  | cont => exact q
/-- in a def's body nothing is shown -/
theorem Inv.quiet {pins : List (Addr × Obj)} {σ : St} {H : Hp} {s : Shared} (I : Inv X pins σ H s) : interactive X.env = false := by simp [interactive, I.ok.kind]
/-- an expression whose value is dropped -/
noncomputable def tDrop (te : TE) : TS := fun D σ H => te σ H fun _ H1 => D.nx σ H1
theorem ps_expr (he : PE X e te) (hs : swapsWith e none pos.line X.env = pure false := by rfl) : PS X (.Expr e pos) (tDrop te) := by
  intro pins s σ H D I h
  exact wpAny_Expr_any (thn (he pins s σ H _ I h) fun v s1 ⟨x, H1, I1, r1, q1⟩ => ⟨σ, H1, I1, q1⟩) I.quiet hs
noncomputable def tRet (te : TE) : TS := fun D σ H => te σ H D.rt
theorem ps_ret (he : PE X e te) : PS X (.Return (some e) pos) (tRet te) := by
  intro pins s σ H D I h
  exact wpAny_Return_some (thn (he pins s σ H _ I h) fun v s1 ⟨x, H1, I1, r1, q1⟩ => ⟨x, σ, H1, I1, r1, q1⟩)
noncomputable def tIfS (c : TT) (t u : TS) : TS := fun D σ H => c σ H fun b H1 => if b = true then t D σ H1 else u D σ H1
theorem ps_if {c : Expr} {a b : List Stmt} {tc : TT} (hc : PT X c tc) (ha : PSs X a t) (hb : PSs X b u) : PS X (.If c a b pos) (tIfS tc t u) := by
  intro pins s σ H D I h
  refine wpAny_If (thn (hc pins s σ H _ I h) fun d s1 zz => ?_)
  obtain ⟨H1, I1, q1⟩ := zz
  cases d with
  | true => exact ha pins s1 σ H1 D I1 q1
  | false => exact hb pins s1 σ H1 D I1 q1
end

/-! ### targets -/
noncomputable abbrev TG := V → St → Hp → (St → Hp → Prop) → Prop
noncomputable abbrev TGs := List V → St → Hp → (St → Hp → Prop) → Prop
noncomputable def PG (X : Cx) (target : Expr) (t : TG) : Prop :=
  ∀ (pins : List (Addr × Obj)) (s : Shared) (σ : St) (H : Hp) (v : V) (u : Value) (Q : St → Hp → Prop), Inv X pins σ H s → RelV v u → t v σ H Q →
    wpAny (model X.prog X.w) X.A (assign target X.env u) (fun _ s' => ∃ σ' H', Inv X pins σ' H' s' ∧ Q σ' H') X.xe s
/-- several targets, one after another -/
noncomputable def PGs (X : Cx) (ts : List Expr) (t : TGs) : Prop :=
  ∀ (pins : List (Addr × Obj)) (s : Shared) (σ : St) (H : Hp) (vs : List V) (us : List Value) (Q : St → Hp → Prop), Inv X pins σ H s → Vals vs us → t vs σ H Q →
    wpAny (model X.prog X.w) X.A (assignInOrder ((assignEach ts X.env).map (·.2)) us) (fun _ s' => ∃ σ' H', Inv X pins σ' H' s' ∧ Q σ' H') X.xe s
/-- o[i] = v, by values -/
noncomputable abbrev TSet := V → V → V → Hp → (Hp → Prop) → Prop
noncomputable def PSet (X : Cx) (t : TSet) : Prop :=
  ∀ (pins : List (Addr × Obj)) (s : Shared) (σ : St) (H : Hp) (o i v : V) (ov iv u : Value) (Q : Hp → Prop), Inv X pins σ H s → RelV o ov → RelV i iv → RelV v u → t o i v H Q →
    wpAny (model X.prog X.w) X.A (setItem ov iv u) (fun _ s' => ∃ H', Inv X pins σ H' s' ∧ Q H') X.xe s
section
variable {X : Cx} {pos : Pos}
noncomputable def gName (i : Nat) : TG := fun v σ H Q => Q (σ.set i (some v)) H
theorem pg_name {i : Nat} {x : Str} (hN : X.N.Nodup) (hi : X.N[i]? = some x) (hx : Loc X.env.scope x) (hf : X.fn x = true ∨ X.env.scope.names.lookup x = some .local := by first | exact .inl rfl | exact .inr rfl | assumption) : PG X (.Name x pos) (gName i) := by
  intro pins s σ H v u Q I r h
  exact wpAny_assign_Name (store_ok I hN hi hx r (fun s' I' => ⟨_, H, I', h⟩) hf)
noncomputable def gNil : TGs := fun vs σ H Q => vs = [] ∧ Q σ H
noncomputable def gCons (t : TG) (u : TGs) : TGs := fun vs σ H Q => ∃ v r, vs = v :: r ∧ t v σ H fun σ' H' => u r σ' H' Q
theorem pgs_nil : PGs X [] gNil := by
  intro pins s σ H vs us Q I r h
  obtain ⟨e, h⟩ := h
  subst e
  cases r
  exact assignInOrder_nil ⟨σ, H, I, h⟩
theorem pgs_cons {e : Expr} {es : List Expr} {t : TG} {u : TGs} (h1 : PG X e t) (h2 : PGs X es u)
    (hs : (assignEach (e :: es) X.env).map (·.2) = assign e X.env :: (assignEach es X.env).map (·.2) := by rfl) : PGs X (e :: es) (gCons t u) := by
  intro pins s σ H vs us Q I r h
  obtain ⟨v, vr, e1, h⟩ := h
  subst e1
  cases r with
  | cons r rr =>
    rw [hs]
    refine assignInOrder_cons (thn (h1 pins s σ H _ _ _ I r h) fun _ s1 zz => ?_)
    obtain ⟨σ1, H1, I1, q1⟩ := zz
    exact h2 pins s1 σ1 H1 _ _ Q I1 rr q1
/-- (a, b, ..) = a tuple of that length -/
noncomputable def gTup (K : PySem.W.Frag) (n : Nat) (t : TGs) : TG := fun v σ H Q => ∃ a xs, v = .ref a ∧ SqT K H a xs ∧ xs.length = n ∧ t xs σ H Q
theorem pg_tup {es : List Expr} {k : Nat} {t : TGs} {n : Nat} (hc : X.calm = true) (h : PGs X es t)
    (hn : (assignEach es X.env).length = n := by rfl) (hst : (assignEach es X.env).findIdx? (·.1) = none := by rfl) : PG X (.Tuple es k pos) (gTup X.K n t) := by
  intro pins s σ H v u Q I r hw
  obtain ⟨a, xs, e1, hq, hl, hw⟩ := hw
  subst e1
  cases r
  obtain ⟨its, rv, ht, hz⟩ := I.tuple hq
  refine assign_Tuple_tuple (I.ok.hd hc) ht (by simp [hn, ← hl, rv.length]) hst fun h' hx => ?_
  have I1 : Inv X pins σ H { s with heap := h' } := I.kept (t' := s.toks) fun b o e => hx b o (Nat.ne_of_lt (Heap.lt_size e)) e
  exact h pins _ σ H xs _ Q I1 (by simpa using rv) hw
/-- o[i] = .. -/
noncomputable def gSub (to ti : TE) (t : TSet) : TG := fun v σ H Q => to σ H fun o H1 => ti σ H1 fun i H2 => t o i v H2 fun H3 => Q σ H3
theorem pg_sub {o i : Expr} {to ti : TE} {t : TSet} (ho : PE X o to) (hi : PE X i ti) (hs : PSet X t)
    (ha : ∀ v, assign (.Subscript o i pos) X.env v = (do
      let ov ← holding [v] (eval o X.env)
      let iv ← holding [v, ov] (eval i X.env)
      standAt pos
      holding [v, ov, iv] (setItem ov iv v)
      release [v, ov, iv] []) := by intro _; rfl) : PG X (.Subscript o i pos) (gSub to ti t) := by
  intro pins s σ H v u Q I r h
  rw [ha]
  refine wpAny_bind (wpAny_holding (thn (ho pins s σ H _ I h) fun ov s1 zz => ?_))
  obtain ⟨x, H1, I1, r1, q1⟩ := zz
  refine wpAny_bind (wpAny_holding (thn (hi pins s1 σ H1 _ I1 q1) fun iv s2 zz => ?_))
  obtain ⟨y, H2, I2, r2, q2⟩ := zz
  refine wpAny_bind (wpAny_standAt (wpAny_bind (wpAny_holding (thn (hs pins s2 σ H2 x y v ov iv u _ I2 r1 r2 r q2) fun _ s3 zz => ?_))))
  obtain ⟨H3, I3, q3⟩ := zz
  exact wpAny_release ⟨σ, H3, I3, q3⟩
/-- target = value -/
noncomputable def tAsg (te : TE) (g : TG) : TS := fun D σ H => te σ H fun x H1 => g x σ H1 D.nx
theorem ps_asg {tg e : Expr} {te : TE} {g : TG} (he : PE X e te) (hg : PG X tg g) (hs : swapsWithSole [tg] e pos.line X.env = pure false := by rfl) (hw : swappedStores [tg] e X.env = pure none := by rfl)
    (h1 : (assignEach [tg] X.env).map (·.2) = [assign tg X.env] := by rfl) : PS X (.Assign [tg] e pos) (tAsg te g) := by
  intro pins s σ H D I h
  refine wpAny_Assign_stores (thn (he pins s σ H _ I h) fun v s1 zz => ?_) hs hw
  obtain ⟨x, H1, I1, r1, q1⟩ := zz
  rw [h1]
  exact thn (hg pins s1 σ H1 x v _ I1 r1 q1) fun _ s2 q => q
/-- name = value -/
theorem ps_set {i : Nat} {x : Str} {e : Expr} {te : TE} {pos' : Pos} (hN : X.N.Nodup) (hi : X.N[i]? = some x) (hx : Loc X.env.scope x) (he : PE X e te) (hs : swapsWith e (some (.Name x pos')) pos.line X.env = pure false := by rfl) (hf : X.fn x = true ∨ X.env.scope.names.lookup x = some .local := by first | exact .inl rfl | exact .inr rfl | assumption) :
    PS X (.Assign [.Name x pos'] e pos) (tAsg te (gName i)) := by
  intro pins s σ H D I h
  refine wpAny_Assign_Name (thn (he pins s σ H _ I h) fun v s1 zz => ?_) hs
  obtain ⟨y, H1, I1, r1, q1⟩ := zz
  exact store_ok I1 hN hi hx r1 (fun s2 I2 => ⟨_, H1, I2, q1⟩) hf
end

/-! ### while -/
section
variable {X : Cx} {pos : Pos}
end

/-! ### what a loop or a comprehension walks -/
/-- at turn i: it yields x (the heap may grow), or it stops -/
structure It where
  go : Nat → Hp → Prop
  yld : Nat → Hp → V → Hp → Prop
  stop : Nat → Hp → Prop
/-- the iterator's own objects may turn: they are not the frame's, not pinned, younger than the entry (or a comprehension's own) -/
noncomputable def FpOk (X : Cx) (pins : List (Addr × Obj)) (H : Hp) (b : Addr) : Prop :=
  H b = none ∧ b ≠ X.env.locals ∧ b ∉ X.fs ∧ (b ∈ X.ex ∨ X.s₀.heap.objs.size ≤ b) ∧ (∀ x c, X.env.cells.lookup x = some c → c ≠ b) ∧ ∀ p ∈ X.pn ++ pins, p.1 ≠ b
theorem Inv.fpOk {X : Cx} {pins : List (Addr × Obj)} {σ : St} {H H' : Hp} {s : Shared} {b : Addr} (I : Inv X pins σ H s) (hb : s.heap.objs.size ≤ b) (hn : H' b = none) : FpOk X pins H' b := by
  refine ⟨hn, Nat.ne_of_gt (Nat.lt_of_lt_of_le I.lt hb), I.nofs hb, .inr (Nat.le_trans I.sz hb), fun x c e z => ?_, fun p hp z => ?_⟩
  · obtain ⟨v, q⟩ := I.cell x c e
    exact absurd (Nat.lt_of_lt_of_le q.lt (by rw [z]; exact hb)) (Nat.lt_irrefl _)
  · exact absurd (Nat.lt_of_lt_of_le (Heap.lt_size (I.pin p hp).1) (by rw [z]; exact hb)) (Nat.lt_irrefl _)
structure Turn (P : Program) (w : World) (K : PySem.W.Frag) (tg : Expr) (J : It) (fp : List Addr) (it : Addr) (tn : Nat → Heap → Prop) : Prop where
  mem : it ∈ fp
  obj : ∀ i h, tn i h → ∀ b ∈ fp, ∃ o, h.get? b = some o ∧ ∀ v, o.data ≠ .cell v
  keep : ∀ i h h', tn i h → (∀ b ∈ fp, ∀ o, h.get? b = some o → h'.get? b = some o) → tn i h'
  item : ∀ (X : Cx), X.prog = P → X.w = w → X.K = K → X.calm = true → ∀ (i : Nat) (pins : List (Addr × Obj)) (s : Shared) (σ : St) (H : Hp) (E : Value → Shared → Prop), Inv X pins σ H s → (∀ b ∈ fp, FpOk X pins H b) → tn i s.heap → J.go i H →
    wpAny (model P w) X.A (pyNext (.ref it)) (fun r s1 => ∃ u, r = some u ∧
      wpAny (model P w) X.A (letOwnedTupleGo tg (.ref it) u) (fun _ s2 => ∃ x H', Inv X pins σ H' s2 ∧ RelV x u ∧ J.yld i H x H' ∧ tn (i + 1) s2.heap ∧ ∀ b ∈ fp, H' b = none) E s1) E s
  done : ∀ (X : Cx), X.prog = P → X.w = w → X.K = K → X.calm = true → ∀ (i : Nat) (pins : List (Addr × Obj)) (s : Shared) (σ : St) (H : Hp) (E : Value → Shared → Prop), Inv X pins σ H s → (∀ b ∈ fp, FpOk X pins H b) → tn i s.heap → J.stop i H →
    wpAny (model P w) X.A (pyNext (.ref it)) (fun r s1 => r = none ∧ Inv X pins σ H s1) E s
  self : ∀ (A : Around) (i : Nat) (s : Shared) (Q : Value → Shared → Prop) (E : Value → Shared → Prop), tn i s.heap → Q (.ref it) s → wpAny (model P w) A (pyIter (.ref it)) Q E s
noncomputable abbrev TI := St → Hp → (It → Hp → Prop) → Prop
/-- an iterator has come -/
noncomputable def PIE (X : Cx) (pins : List (Addr × Obj)) (σ : St) (tg : Expr) (R : It → Hp → Prop) (itv : Value) (s2 : Shared) : Prop :=
  ∃ (it : Addr) (fp : List Addr) (tn : Nat → Heap → Prop) (J : It) (H' : Hp), itv = .ref it ∧ Inv X pins σ H' s2 ∧ Turn X.prog X.w X.K tg J fp it tn ∧ tn 0 s2.heap ∧ (∀ b ∈ fp, FpOk X pins H' b) ∧ R J H'
noncomputable def PI (X : Cx) (tg iter : Expr) (wi : TI) : Prop :=
  ∀ (pins : List (Addr × Obj)) (s : Shared) (σ : St) (H : Hp) (R : It → Hp → Prop), Inv X pins σ H s → wi σ H R →
    wpAny (model X.prog X.w) X.A (eval iter X.env) (fun v s1 => wpAny (model X.prog X.w) X.A (pyIter v) (PIE X pins σ tg R) X.xe s1) X.xe s

/-- the step ahead of the store is nothing for an iterator that keeps no tuple -/
theorem go_of {M : Model} {A : Around} {E : Value → Shared → Prop} {s : Shared} {tg : Expr} {it : Addr} {u : Value} {o : Obj} {n : String} {vs : Array Value} {Q : Unit → Shared → Prop} (ho : s.heap.get? it = some o) (hc : o.cls = .type n) (hd : o.data = .fields vs)
    (hn : ["enumerate", "zip", "dict_itemiterator", "dict_reverseitemiterator", "odict_iterator", "itertools.zip_longest", "itertools.pairwise"].contains n = false) (hQ : Q () s) : wpAny M A (letOwnedTupleGo tg (.ref it) u) Q E s := by
  unfold letOwnedTupleGo
  cases tg <;> first
    | exact wpAny_pure hQ
    | (cases u <;> first
        | exact wpAny_pure hQ
        | (refine wpAny_bind (wpAny_load ho ?_)
           rw [hc, hd]
           show wpAny M A (if (["enumerate", "zip", "dict_itemiterator", "dict_reverseitemiterator", "odict_iterator", "itertools.zip_longest", "itertools.pairwise"].contains n && vs[0]? == some (rawInt _)) = true then _ else _) Q E s
           rw [if_neg (by intro h; rw [hn, Bool.false_and] at h; cases h)]
           exact wpAny_pure hQ))

/-- the list at a, as it stands at each turn (a loop may append to it) -/
noncomputable def Itl (K : PySem.W.Frag) (a : Addr) : It :=
  ⟨fun i H => ∃ xs x, SqL K H a xs ∧ xs[i]? = some x, fun i H x H' => H' = H ∧ ∀ xs, SqL K H a xs → xs[i]? = some x, fun i H => ∃ xs, SqL K H a xs ∧ xs.length ≤ i⟩
/-- lo, lo + 1, .. (n of them) -/
noncomputable def Itr (lo : Int) (n : Nat) : It := ⟨fun i _ => i < n, fun i H x H' => H' = H ∧ x = .int (lo + i), fun i _ => n ≤ i⟩
theorem turn_list {P : Program} {w : World} {K : PySem.W.Frag} {tg : Expr} (a it : Addr) : Turn P w K tg (Itl K a) [it] it (fun i h => h.IsListIter it a i) where
  mem := by simp
  obj := fun i h st b hb => by
    have e : b = it := by simpa using hb
    subst e
    obtain ⟨o, e, c, d⟩ := st
    exact ⟨o, e, fun v z => by rw [d] at z; cases z⟩
  keep := fun i h h' st k => st.at fun o e => k it (by simp) o e
  item := by
    intro X hP hw hK hc i pins s σ H E I hf st hg
    subst hP hw hK
    obtain ⟨xs, x, hq, hx⟩ := hg
    obtain ⟨its, rv, p, hz⟩ := I.list hq
    obtain ⟨u, hu, ru⟩ := rv.get hx
    obtain ⟨f0, f1, f2, f3, f4, f5⟩ := hf it (by simp)
    refine wpAny_pyNext_list_item st p.isList (x := u) (by simpa using hu) fun h' st' sb => ?_
    have I1 : Inv X pins σ H { s with heap := h' } := I.turned (t' := s.toks) (fun b o hb e => (sb.2 b hb).trans e) f0 f1 f3 f4 f5
    obtain ⟨o, e, c, d⟩ := id st'
    exact ⟨u, rfl, go_of (s := { s with heap := h' }) e c d (by decide) ⟨x, H, I1, ru, ⟨rfl, fun ys hy => by rw [I.list_inj hy hq]; exact hx⟩, st', fun b hb => (hf b hb).1⟩⟩
  done := by
    intro X hP hw hK hc i pins s σ H E I hf st hg
    subst hP hw hK
    obtain ⟨xs, hq, hx⟩ := hg
    obtain ⟨its, rv, p, hz⟩ := I.list hq
    obtain ⟨f0, f1, f2, f3, f4, f5⟩ := hf it (by simp)
    have hl := rv.length
    exact wpAny_pyNext_list_end (I.ok.hd hc) st p.isList (by simp; omega) fun h' eb => ⟨rfl, I.turned (t' := s.toks) (fun b o hb e => eb b o hb e) f0 f1 f3 f4 f5⟩
  self := fun _ _ _ _ _ st h => wpAny_pyIter_listiter st h
theorem turn_range {P : Program} {w : World} {K : PySem.W.Frag} {tg : Expr} (it : Addr) (lo : Int) (n : Nat) : Turn P w K tg (Itr lo n) [it] it (fun i h => IsRangeIter h it (lo + (i : Nat) * 1) ((n : Int) - (i : Nat)) 1) where
  mem := by simp
  obj := fun i h st b hb => by
    have e : b = it := by simpa using hb
    subst e
    exact ⟨_, st, fun v z => by
      have z' : Data.fields _ = Data.cell v := z
      cases z'⟩
  keep := fun i h h' st k => k it (by simp) _ st
  item := by
    intro X hP hw hK hc i pins s σ H E I hf st hg
    subst hP hw hK
    obtain ⟨f0, f1, f2, f3, f4, f5⟩ := hf it (by simp)
    have W := Walks.range (prog := X.prog) (w := X.w) (I.ok.hd hc) it lo 1 n
    refine W.item i s _ _ hg st fun v h' tk hv st' kk => ?_
    obtain ⟨t, rfl⟩ := hv
    have I1 : Inv X pins σ H { s with heap := h', toks := tk } := I.turned (fun b o hb e => kk b o (by simpa using hb) e) f0 f1 f3 f4 f5
    refine ⟨_, rfl, go_of (s := { s with heap := h', toks := tk }) (n := "range_iterator") st' rfl rfl (by decide) ⟨.int (lo + i), H, I1, ⟨t, ?_⟩, ⟨rfl, rfl⟩, st', fun b hb => (hf b hb).1⟩⟩
    rw [Int.mul_one]
  done := by
    intro X hP hw hK hc i pins s σ H E I hf st hg
    subst hP hw hK
    obtain ⟨f0, f1, f2, f3, f4, f5⟩ := hf it (by simp)
    exact wpAny_pyNext_range_end (I.ok.hd hc) st (by have : n ≤ i := hg; omega) fun h' eb => ⟨rfl, I.turned (t' := s.toks) (fun b o hb e => eb b o hb e) f0 f1 f3 f4 f5⟩
  self := fun _ _ _ _ _ st h => wpAny_pyIter_rangeiter st h
end L2

namespace L2
open PySem PySem.Spec PyProof.Rows
section
variable {X : Cx} {tg : Expr}
noncomputable def iList (K : PySem.W.Frag) (tl : TE) : TI := fun σ H R => tl σ H fun x H1 => ∃ a, x = .ref a ∧ (∃ xs, SqL K H1 a xs) ∧ R (Itl K a) H1
theorem pi_list {l : Expr} {tl : TE} (hl : PE X l tl) : PI X tg l (iList X.K tl) := by
  intro pins s σ H R I h
  refine thn (hl pins s σ H _ I h) fun v s1 zz => ?_
  obtain ⟨x, H1, I1, r1, q1⟩ := zz
  obtain ⟨a, e, ⟨xs, hq⟩, q⟩ := q1
  subst e
  cases r1
  obtain ⟨its, rv, p, hz⟩ := I1.list hq
  refine wpAny_pyIter_list p.isList ?_
  refine ⟨s1.heap.objs.size, [s1.heap.objs.size], _, _, H1, rfl, I1.kept (t' := s1.toks) fun b o e => Heap.get?_push_of_some _ e, turn_list a _, ⟨_, Heap.get?_push_size _ rfl, rfl, rfl⟩, fun b hb => ?_, q⟩
  have e : b = s1.heap.objs.size := by simpa using hb
  subst e
  exact I1.fpOk (Nat.le_refl _) (I1.hok.fresh (Nat.le_refl _))
/-- a range object just made, walked -/
theorem range_it {pins : List (Addr × Obj)} {σ : St} {H : Hp} {s : Shared} {R : It → Hp → Prop} {E : Value → Shared → Prop} {lo hi : Int} {t u v : Tok} {tk : Nat} (I : Inv X pins σ H s) (h1 : -(2 ^ 62) ≤ lo) (h2 : lo < 2 ^ 62) (h3 : -(2 ^ 62) ≤ hi) (h4 : hi < 2 ^ 62)
    (q : R (Itr lo (hi - lo).toNat) H) : wpAny (model X.prog X.w) X.A (pyIter (.ref s.heap.objs.size)) (PIE X pins σ tg R) E { s with heap := s.heap.push { cls := .type "range", data := .fields #[.int lo t, .int hi u, .int 1 v] }, toks := tk } := by
  refine wpAny_pyIter_range (IsRange.new ..) (small_one h1 h2 h3 h4) ?_
  have I1 : Inv X pins σ H { s with heap := s.heap.push { cls := .type "range", data := .fields #[.int lo t, .int hi u, .int 1 v] }, toks := tk } := I.kept fun b o e => Heap.get?_push_of_some _ e
  refine ⟨(s.heap.push { cls := .type "range", data := .fields #[.int lo t, .int hi u, .int 1 v] }).objs.size, [(s.heap.push { cls := .type "range", data := .fields #[.int lo t, .int hi u, .int 1 v] }).objs.size], _, _, H, rfl,
    I1.kept (t' := tk) fun b o e => Heap.get?_push_of_some _ e, turn_range _ lo (hi - lo).toNat, ?_, fun b hb => ?_, q⟩
  · have e1 : lo + ((0 : Nat) : Int) * 1 = lo := by simp
    have e2 : (((hi - lo).toNat : Nat) : Int) - ((0 : Nat) : Int) = Builtin.Range.rangeSize lo hi 1 := by rw [rangeSize_one]; split <;> omega
    show IsRangeIter _ _ (lo + ((0 : Nat) : Int) * 1) ((((hi - lo).toNat : Nat) : Int) - ((0 : Nat) : Int)) 1
    rw [e1, e2]
    exact Heap.get?_push_size _ rfl
  · have e : b = (s.heap.push { cls := .type "range", data := .fields #[.int lo t, .int hi u, .int 1 v] }).objs.size := by simpa using hb
    subst e
    exact I1.fpOk (Nat.le_refl _) (I1.hok.fresh (Nat.le_refl _))
noncomputable def iRng1 (ta : TA) : TI := fun σ H R => ta σ H fun vs H1 => ∃ j : Int, vs = [.int j] ∧ -(2 ^ 62) ≤ j ∧ j < 2 ^ 62 ∧ R (Itr 0 j.toNat) H1
theorem pi_range1 {a : Expr} {ta : TA} {p pos : Pos} (hg : Gl X "range") (hm : X.mg "range" = none) (ha : PA X [a] ta) (hs : starEach [a] X.env = [(false, eval a X.env)] := by rfl) : PI X tg (.Call (.Name "range" p) [a] [] pos) (iRng1 ta) := by
  intro pins s σ H R I h
  refine Call_ (ld_blt I hg hm boot_range (PyProof.Rows.callWith_type1 (thn (ha pos pins s σ H _ I h) fun us s1 zz => ?_) hs rfl))
  obtain ⟨vs, H1, I1, r1, q1⟩ := zz
  obtain ⟨j, e, q1, q2, q⟩ := q1
  subst e
  cases r1 with
  | cons r rr =>
    cases rr
    obtain ⟨t, rfl⟩ := r
    exact call_range_1 (range_it I1 (by omega) (by omega) q1 q2 (by simpa using q))

/-! ### for -/
/-- W: the invariant by the turn and a measure; N: what the body is to reach -/
noncomputable def tFor (wi : TI) (g : TG) (tb : TS) : TS := fun D σ H => wi σ H fun J H1 => ∃ W : Nat → Nat → St → Hp → Prop, (∃ m, W 0 m σ H1) ∧ ∀ i m σ H, W i m σ H →
  (J.stop i H ∧ D.nx σ H) ∨ (J.go i H ∧ ∃ N : St → Hp → Prop, (∀ σ' H', N σ' H' → ∃ m', m' < m ∧ W (i + 1) m' σ' H') ∧ ∀ x H', J.yld i H x H' → g x σ H' fun σ2 H2 => tb { D with nx := N, ct := N, bk := D.nx } σ2 H2)
/-- the records at fp as they stand -/
noncomputable def pinsAt (fp : List Addr) (h : Heap) : List (Addr × Obj) := fp.filterMap fun b => (h.get? b).map fun o => (b, o)
theorem mem_pinsAt {fp : List Addr} {h : Heap} {b : Addr} {o : Obj} (hb : b ∈ fp) (e : h.get? b = some o) : (b, o) ∈ pinsAt fp h := List.mem_filterMap.mpr ⟨b, hb, by rw [e]; rfl⟩
theorem of_pinsAt {fp : List Addr} {h : Heap} {p : Addr × Obj} (hp : p ∈ pinsAt fp h) : p.1 ∈ fp ∧ h.get? p.1 = some p.2 := by
  obtain ⟨b, hb, e⟩ := List.mem_filterMap.mp hp
  cases q : h.get? b with
  | none => rw [q] at e; cases e
  | some o =>
    rw [q] at e
    have e' : (b, o) = p := Option.some.inj e
    subst e'
    exact ⟨hb, q⟩
theorem Inv.pinned {pins : List (Addr × Obj)} {σ : St} {H : Hp} {s : Shared} {fp : List Addr} (I : Inv X pins σ H s) (hf : ∀ b ∈ fp, FpOk X pins H b) (ho : ∀ b ∈ fp, ∃ o, s.heap.get? b = some o ∧ ∀ v, o.data ≠ .cell v) : Inv X (pins ++ pinsAt fp s.heap) σ H s :=
  I.pins_of fun p hp => (List.mem_append.mp hp).elim (fun z => I.pin p (List.mem_append_right _ z)) fun z => by
    obtain ⟨hb, e⟩ := of_pinsAt z
    obtain ⟨f0, f1, f2, _⟩ := hf p.1 hb
    obtain ⟨o, e', d⟩ := ho p.1 hb
    rw [e] at e'; cases e'
    exact ⟨e, f0, f1, f2, d⟩
theorem Inv.unpinned {pins pl : List (Addr × Obj)} {σ : St} {H : Hp} {s : Shared} (I : Inv X (pins ++ pl) σ H s) : Inv X pins σ H s := I.pins_of fun p hp => I.pin p (List.mem_append_right _ (List.mem_append_left _ hp))
theorem ps_for {iter : Expr} {body : List Stmt} {wi : TI} {g : TG} {tb : TS} {pos : Pos} (hp : PassesOwn (model X.prog X.w) X.A X.env X.xe) (hc : X.calm = true) (hi : PI X tg iter wi) (hg : PG X tg g) (hb : PSs X body tb)
    (hs : ∀ x, foldedSetIterable iter X.env x = pure x := by intro _; rfl) : PS X (.For tg iter body [] pos) (tFor wi g tb) := by
  intro pins s σ H D I h
  refine wpAny_For (thn (hi pins s σ H _ I h) fun v s1 h1 => thn h1 fun itv s2 h2 => ?_) hs
  obtain ⟨it, fp, tn, J, H2, e, I2, T, st2, f2, W, ⟨m0, w0⟩, turn⟩ := h2
  subst e
  -- what stays true of the iterator's objects through the loop
  have stat : ∀ {H' : Hp}, (∀ b ∈ fp, H' b = none) → ∀ b ∈ fp, FpOk X pins H' b := fun hn b hb => ⟨hn b hb, (f2 b hb).2⟩
  refine codeAny_forLoop_any (fun n s' => ∃ i σ' H', Inv X pins σ' H' s' ∧ tn i s'.heap ∧ (∀ b ∈ fp, H' b = none) ∧ W i n σ' H') ?_ m0 ⟨0, σ, H2, I2, st2, fun b hb => (f2 b hb).1, w0⟩
  rintro n s3 ⟨i, σ3, H3, I3, st3, fr3, w3⟩
  rcases turn i n σ3 H3 w3 with ⟨stop, qn⟩ | ⟨go, N, hN, step⟩
  · refine wpAny_passesOwn hp (thn (T.done X rfl rfl rfl hc i pins s3 σ3 H3 X.xe I3 (stat fr3) st3 stop) fun r s4 zz => ?_)
    obtain ⟨hr, I4⟩ := zz
    subst hr
    exact wpAny_execs_nil ⟨σ3, H3, I4, qn⟩
  · refine wpAny_passesOwn hp (thn (T.item X rfl rfl rfl hc i pins s3 σ3 H3 X.xe I3 (stat fr3) st3 go) fun r s4 zz => ?_)
    obtain ⟨u, hr, h4⟩ := zz
    subst hr
    refine wpAny_passesOwn hp (thn h4 fun _ s5 zz => ?_)
    obtain ⟨x, H5, I5, r5, y5, st5, fr5⟩ := zz
    have I5' := I5.pinned (stat fr5) (T.obj _ _ st5)
    refine wpAny_passesOwn hp (thn (hg _ s5 σ3 H5 x u _ I5' r5 (step x H5 y5)) fun _ s6 zz => ?_)
    obtain ⟨σ6, H6, I6, q6⟩ := zz
    refine wpAny_passesOwn hp (thn (hb _ s6 σ6 H6 _ I6 q6) fun f s7 q7 => ?_)
    have again : ∀ {σ7 : St} {H7 : Hp}, Inv X (pins ++ pinsAt fp s5.heap) σ7 H7 s7 → N σ7 H7 → ∃ m, m < n ∧ ∃ i σ' H', Inv X pins σ' H' s7 ∧ tn i s7.heap ∧ (∀ b ∈ fp, H' b = none) ∧ W i m σ' H' := fun {σ7 H7} I7 n7 => by
      obtain ⟨m', hm, w7⟩ := hN σ7 H7 n7
      refine ⟨m', hm, i + 1, σ7, H7, I7.unpinned, T.keep _ _ _ st5 fun b hb o e => (I7.pin (b, o) (List.mem_append_right _ (List.mem_append_right _ (mem_pinsAt hb e)))).1, fun b hb => ?_, w7⟩
      obtain ⟨o, e, d⟩ := T.obj _ _ st5 b hb
      exact (I7.pin (b, o) (List.mem_append_right _ (List.mem_append_right _ (mem_pinsAt hb e)))).2.1
    cases f with
    | next => obtain ⟨σ7, H7, I7, n7⟩ := q7; exact again I7 n7
    | cont => obtain ⟨σ7, H7, I7, n7⟩ := q7; exact again I7 n7
    | brk => obtain ⟨σ7, H7, I7, q7⟩ := q7; exact ⟨σ7, H7, I7.unpinned, q7⟩
    | ret v => obtain ⟨x7, σ7, H7, I7, r7, q7⟩ := q7; exact ⟨x7, σ7, H7, I7.unpinned, r7, q7⟩
end

/-! ### the forms one uses -/
/-- over a list that the body leaves as it is -/
theorem for_list {K : PySem.W.Frag} {a : Addr} {xs : List V} {g : TG} {tb : TS} {D : Ends} {σ : St} {H : Hp} (Pv : Nat → St → Hp → Prop) (h0 : Pv 0 σ H) (hl : ∀ i σ H, i ≤ xs.length → Pv i σ H → SqL K H a xs)
    (hs : ∀ i x σ H, xs[i]? = some x → Pv i σ H → g x σ H fun σ2 H2 => tb { D with nx := Pv (i + 1), ct := Pv (i + 1), bk := D.nx } σ2 H2) (hd : ∀ σ H, Pv xs.length σ H → D.nx σ H) :
    ∃ W : Nat → Nat → St → Hp → Prop, (∃ m, W 0 m σ H) ∧ ∀ i m σ H, W i m σ H →
      ((Itl K a).stop i H ∧ D.nx σ H) ∨ ((Itl K a).go i H ∧ ∃ N : St → Hp → Prop, (∀ σ' H', N σ' H' → ∃ m', m' < m ∧ W (i + 1) m' σ' H') ∧ ∀ x H', (Itl K a).yld i H x H' → g x σ H' fun σ2 H2 => tb { D with nx := N, ct := N, bk := D.nx } σ2 H2) := by
  refine ⟨fun i m σ H => m = xs.length - i ∧ i ≤ xs.length ∧ Pv i σ H, ⟨xs.length, by simp, Nat.zero_le _, h0⟩, ?_⟩
  rintro i m σ H ⟨rfl, hi, p⟩
  have q := hl i σ H hi p
  by_cases hlt : i < xs.length
  · refine .inr ⟨⟨xs, xs[i], q, by simp [hlt]⟩, Pv (i + 1), fun σ' H' p' => ⟨xs.length - (i + 1), by omega, rfl, hlt, p'⟩, fun x H' y => ?_⟩
    obtain ⟨e, y⟩ := y
    subst e
    exact hs i x σ _ (y xs q) p
  · have e : i = xs.length := by omega
    subst e
    exact .inl ⟨⟨xs, q, Nat.le_refl _⟩, hd σ H p⟩
theorem for_range {lo : Int} {n : Nat} {g : TG} {tb : TS} {D : Ends} {σ : St} {H : Hp} (Pv : Nat → St → Hp → Prop) (h0 : Pv 0 σ H)
    (hs : ∀ i σ H, i < n → Pv i σ H → g (.int (lo + i)) σ H fun σ2 H2 => tb { D with nx := Pv (i + 1), ct := Pv (i + 1), bk := D.nx } σ2 H2) (hd : ∀ σ H, Pv n σ H → D.nx σ H) :
    ∃ W : Nat → Nat → St → Hp → Prop, (∃ m, W 0 m σ H) ∧ ∀ i m σ H, W i m σ H →
      ((Itr lo n).stop i H ∧ D.nx σ H) ∨ ((Itr lo n).go i H ∧ ∃ N : St → Hp → Prop, (∀ σ' H', N σ' H' → ∃ m', m' < m ∧ W (i + 1) m' σ' H') ∧ ∀ x H', (Itr lo n).yld i H x H' → g x σ H' fun σ2 H2 => tb { D with nx := N, ct := N, bk := D.nx } σ2 H2) := by
  refine ⟨fun i m σ H => m = n - i ∧ i ≤ n ∧ Pv i σ H, ⟨n, by simp, Nat.zero_le _, h0⟩, ?_⟩
  rintro i m σ H ⟨rfl, hi, p⟩
  by_cases hlt : i < n
  · refine .inr ⟨hlt, Pv (i + 1), fun σ' H' p' => ⟨n - (i + 1), by omega, rfl, hlt, p'⟩, fun x H' y => ?_⟩
    obtain ⟨e, y⟩ := y
    subst e y
    exact hs i σ _ hlt p
  · have e : i = n := by omega
    subst e
    exact .inl ⟨Nat.le_refl _, hd σ H p⟩
end L2

namespace L2
open PySem PySem.Spec PyProof.Rows

noncomputable abbrev R2 := V → V → Hp → VK → Prop
/-- a two-place operation on values: f is binaryOp op, inplaceOp op or compareOp op -/
noncomputable def OpR (X : Cx) (f : Value → Value → Sem Value) (r : R2) : Prop :=
  ∀ (pins : List (Addr × Obj)) (s : Shared) (σ : St) (H : Hp) (x y : V) (v u : Value) (Q : VK), Inv X pins σ H s → RelV x v → RelV y u → r x y H Q →
    wpAny (model X.prog X.w) X.A (f v u) (EP X pins σ Q) X.xe s
/-- a one-place operation -/
noncomputable def UnR (X : Cx) (f : Value → Sem Value) (r : V → Hp → VK → Prop) : Prop :=
  ∀ (pins : List (Addr × Obj)) (s : Shared) (σ : St) (H : Hp) (x : V) (v : Value) (Q : VK), Inv X pins σ H s → RelV x v → r x H Q →
    wpAny (model X.prog X.w) X.A (f v) (EP X pins σ Q) X.xe s
/-- a call of a value that is known (a builtin, a type) with values -/
noncomputable def CallR (X : Cx) (f : Value) (r : List V → Hp → VK → Prop) : Prop :=
  ∀ (pins : List (Addr × Obj)) (s : Shared) (σ : St) (H : Hp) (xs : List V) (us : List Value) (Q : VK), Inv X pins σ H s → Vals xs us → r xs H Q →
    wpAny (model X.prog X.w) X.A (call f us) (EP X pins σ Q) X.xe s

noncomputable def tOp (r : R2) (ta tb : TE) : TE := fun σ H Q => ta σ H fun x H1 => tb σ H1 fun y H2 => r x y H2 Q
noncomputable def tUn (r : V → Hp → VK → Prop) (ta : TE) : TE := fun σ H Q => ta σ H fun x H1 => r x H1 Q
/-- ints in, under C, and a value out -/
noncomputable def rI (C : Int → Int → Prop) (g : Int → Int → V) : R2 := fun x y H Q => ∃ i j, x = .int i ∧ y = .int j ∧ C i j ∧ Q (g i j) H
noncomputable def rI0 (g : Int → Int → V) : R2 := fun x y H Q => ∃ i j, x = .int i ∧ y = .int j ∧ Q (g i j) H
noncomputable def rU (g : Int → V) : V → Hp → VK → Prop := fun x H Q => ∃ i, x = .int i ∧ Q (g i) H

section
variable {X : Cx} {a b c : Expr} {ta tb tc : TE} {pos : Pos}

theorem binT (ha : PE X a ta) (hb : PE X b tb) {pins : List (Addr × Obj)} {s : Shared} {σ : St} {H : Hp} {R : V → V → Hp → Prop} (I : Inv X pins σ H s)
    (h : ta σ H fun x H1 => tb σ H1 fun y H2 => R x y H2) {Q : Value → Shared → Prop} {f : Value → Value → Sem Value}
    (hf : ∀ v u s2 x y H2, Inv X pins σ H2 s2 → RelV x v → RelV y u → R x y H2 → wpAny (model X.prog X.w) X.A (f v u) Q X.xe s2) :
    wpAny (model X.prog X.w) X.A (eval a X.env) (fun v s₁ => wpAny (model X.prog X.w) X.A (eval b X.env) (fun u s₂ => wpAny (model X.prog X.w) X.A (f v u) Q X.xe s₂) X.xe s₁) X.xe s := by
  refine thn (ha pins s σ H _ I h) fun v s1 zz => ?_
  obtain ⟨x, H1, I1, r1, q1⟩ := zz
  refine thn (hb pins s1 σ H1 _ I1 q1) fun u s2 zz => ?_
  obtain ⟨y, H2, I2, r2, q2⟩ := zz
  exact hf v u s2 x y H2 I2 r1 r2 q2

theorem pe_op {op : Operator} {r : R2} (ho : OpR X (binaryOp op) r) (ha : PE X a ta) (hb : PE X b tb) : PE X (.BinOp a op b pos) (tOp r ta tb) := by
  intro pins s σ H Q I h
  exact wpAny_BinOp (binT ha hb I h fun v u s2 x y H2 I2 rx ry q => ho pins s2 σ H2 x y v u Q I2 rx ry q)
theorem pe_un {op : UnaryOp} {r : V → Hp → VK → Prop} (ho : UnR X (unaryOp op) r) (ha : PE X a ta) : PE X (.UnaryOp op a pos) (tUn r ta) := by
  intro pins s σ H Q I h
  exact UnaryOp_ (thn (ha pins s σ H _ I h) fun v s1 ⟨x, H1, I1, r1, q1⟩ => ho pins s1 σ H1 x v Q I1 r1 q1)

/-! ### ints -/
theorem opI {f : Value → Value → Sem Value} {C : Int → Int → Prop} {g : Int → Int → Int}
    (rule : ∀ (i j : Int) (t u : Tok) (s : Shared) (Q : Value → Shared → Prop) (E : Value → Shared → Prop), C i j → Q (.int (g i j) s.toks) { s with toks := s.toks + 1 } → wpAny (model X.prog X.w) X.A (f (.int i t) (.int j u)) Q E s) :
    OpR X f (rI C fun i j => .int (g i j)) := by
  intro pins s σ H x y v u Q I rx ry h
  obtain ⟨i, j, rfl, rfl, hc, q⟩ := h
  obtain ⟨t, rfl⟩ := rx
  obtain ⟨t', rfl⟩ := ry
  exact rule i j t t' s _ _ hc ⟨.int (g i j), H, I.tok _, ⟨_, rfl⟩, q⟩
theorem opI0 {f : Value → Value → Sem Value} {g : Int → Int → Int}
    (rule : ∀ (i j : Int) (t u : Tok) (s : Shared) (Q : Value → Shared → Prop) (E : Value → Shared → Prop), Q (.int (g i j) s.toks) { s with toks := s.toks + 1 } → wpAny (model X.prog X.w) X.A (f (.int i t) (.int j u)) Q E s) :
    OpR X f (rI0 fun i j => .int (g i j)) := by
  intro pins s σ H x y v u Q I rx ry h
  obtain ⟨i, j, rfl, rfl, q⟩ := h
  obtain ⟨t, rfl⟩ := rx
  obtain ⟨t', rfl⟩ := ry
  exact rule i j t t' s _ _ ⟨.int (g i j), H, I.tok _, ⟨_, rfl⟩, q⟩
theorem opB0 {f : Value → Value → Sem Value} {g : Int → Int → Bool}
    (rule : ∀ (i j : Int) (t u : Tok) (s : Shared) (Q : Value → Shared → Prop) (E : Value → Shared → Prop), Q (.bool (g i j)) s → wpAny (model X.prog X.w) X.A (f (.int i t) (.int j u)) Q E s) :
    OpR X f (rI0 fun i j => .bl (g i j)) := by
  intro pins s σ H x y v u Q I rx ry h
  obtain ⟨i, j, rfl, rfl, q⟩ := h
  obtain ⟨t, rfl⟩ := rx
  obtain ⟨t', rfl⟩ := ry
  exact rule i j t t' s _ _ ⟨.bl (g i j), H, I, rfl, q⟩

noncomputable def CDiv (i j : Int) : Prop := 0 < j ∧ j < 1073741824
noncomputable def CPow (i j : Int) : Prop := 0 ≤ j ∧ j ≤ 1000000 ∧ i.natAbs < 2 ^ 64
theorem two_pow_nn (k : Nat) : (0 : Int) ≤ 2 ^ k := by
  rw [two_pow_cast]
  exact Int.natCast_nonneg _

theorem op_add : OpR X (binaryOp .Add) (rI0 fun i j => .int (i + j)) := opI0 fun _ _ _ _ _ _ _ q => add_int q
theorem op_sub : OpR X (binaryOp .Sub) (rI0 fun i j => .int (i - j)) := opI0 fun _ _ _ _ _ _ _ q => sub_int q
/-- // by a positive divisor -/
theorem op_fdiv : OpR X (binaryOp .FloorDiv) (rI CDiv fun i j => .int (i / j)) := opI fun i j _ _ _ _ _ hc q => by
  have h1 : (0 : Int) < j := hc.1
  have h2 : j < 1073741824 := hc.2
  exact floordiv_int (by omega) (by rw [Int.fdiv_eq_ediv_of_nonneg i (by omega)]; exact q) (.inl (PyProof.noPylong_small (by omega)))
/-- % by a positive divisor of any size -/
theorem op_mod : OpR X (binaryOp .Mod) (rI (fun _ j => 0 < j) fun i j => .int (i % j)) := opI fun i j _ _ _ _ _ hc q => by
  have h1 : (0 : Int) < j := hc
  exact mod_int' (by omega) (by rw [Int.fmod_eq_emod_of_nonneg i (by omega)]; exact q)
theorem op_pow : OpR X (binaryOp .Pow) (rI CPow fun i j => .int (i ^ j.toNat)) := opI fun _ _ _ _ _ _ _ hc q => pow_int_small hc.1 hc.2.1 hc.2.2 q
theorem op_shl : OpR X (binaryOp .LShift) (rI CPow fun i j => .int (i * 2 ^ j.toNat)) := opI fun _ _ _ _ _ _ _ hc q => lshift_int_small hc.1 hc.2.1 hc.2.2 q
theorem op_shr : OpR X (binaryOp .RShift) (rI (fun _ j => 0 ≤ j) fun i j => .int (i / 2 ^ j.toNat)) := opI fun i j _ _ _ _ _ hc q =>
  rshift_int hc (by rw [Int.fdiv_eq_ediv_of_nonneg i (two_pow_nn _)]; exact q)
theorem op_and : OpR X (binaryOp .BitAnd) (rI0 fun i j => .int (Builtin.bitAnd i j)) := opI0 fun _ _ _ _ _ _ _ q => and_int q
theorem op_or : OpR X (binaryOp .BitOr) (rI0 fun i j => .int (Builtin.bitOr i j)) := opI0 fun _ _ _ _ _ _ _ q => or_int q


theorem unI {f : Value → Sem Value} {g : Int → Int}
    (rule : ∀ (i : Int) (t : Tok) (s : Shared) (Q : Value → Shared → Prop) (E : Value → Shared → Prop), Q (.int (g i) s.toks) { s with toks := s.toks + 1 } → wpAny (model X.prog X.w) X.A (f (.int i t)) Q E s) :
    UnR X f (rU fun i => .int (g i)) := by
  intro pins s σ H x v Q I rx h
  obtain ⟨i, rfl, q⟩ := h
  obtain ⟨t, rfl⟩ := rx
  exact rule i t s _ _ ⟨.int (g i), H, I.tok _, ⟨_, rfl⟩, q⟩
theorem un_neg : UnR X (unaryOp .USub) (rU fun i => .int (-i)) := unI fun _ _ _ _ _ q => neg_int q

/-! ### bools among ints: n += (a < b) -/
end

/-! ### comparisons -/
/-- the scalars that == tells apart as data does -/
noncomputable def scal : V → V → Bool
  | .non, .non => true | .non, .int _ => true | .int _, .non => true | .non, .bl _ => true | .bl _, .non => true | .non, .str _ => true | .str _, .non => true
  | .int _, .int _ => true | .bl _, .bl _ => true | .str _, .str _ => true | .byt _, .byt _ => true
  | .int _, .str _ => true | .str _, .int _ => true | .bl _, .str _ => true | .str _, .bl _ => true
  | _, _ => false
noncomputable def rEq : R2 := fun x y H Q => scal x y = true ∧ Q (.bl (decide (x = y))) H
noncomputable def rNe : R2 := fun x y H Q => scal x y = true ∧ Q (.bl (!decide (x = y))) H

theorem dec_int {i j : Int} : decide (V.int i = V.int j) = (i == j) := by
  rw [Bool.eq_iff_iff]
  simp
theorem dec_bl {i j : Bool} : decide (V.bl i = V.bl j) = (i == j) := by
  rw [Bool.eq_iff_iff]
  simp
theorem dec_str {i j : Str} : decide (V.str i = V.str j) = (i == j) := by
  rw [Bool.eq_iff_iff]
  simp
theorem dec_byt {i j : Array UInt8} : decide (V.byt i = V.byt j) = (i.toList == j.toList) := by
  rw [Bool.eq_iff_iff]
  cases i
  cases j
  simp

section
variable {X : Cx} {a b c : Expr} {ta tb tc : TE} {pos : Pos}
theorem fin_bl {pins : List (Addr × Obj)} {σ : St} {H : Hp} {s : Shared} {Q : VK} {k k' : Bool} (I : Inv X pins σ H s) (q : Q (.bl k) H) (e : k = k') : EP X pins σ Q (.bool k') s := by
  subst e
  exact ⟨.bl k, H, I, rfl, q⟩
theorem op_eq : OpR X (compareOp .Eq) rEq := by
  intro pins s σ H x y v u Q I rx ry h
  obtain ⟨hs, q⟩ := h
  cases x with
  | non =>
    cases rx
    cases y with
    | non => cases ry; exact PySem.EqNone.eq_none_none (fin_bl I q (by simp))
    | bl j => cases ry; exact PySem.EqNone.eq_none_bool (fin_bl I q (by simp))
    | int j => obtain ⟨t', rfl⟩ := ry; exact PySem.EqNone.eq_none_int (fin_bl I q (by simp))
    | str j => obtain ⟨t', rfl⟩ := ry; exact PySem.EqNone.eq_none_str (fin_bl I q (by simp))
    | _ => exact absurd (show false = true from hs) Bool.false_ne_true
  | bl i =>
    cases rx
    cases y with
    | non => cases ry; exact PySem.EqNone.eq_bool_none (fin_bl I q (by simp))
    | bl j => cases ry; exact eq_bool (fin_bl I q dec_bl)
    | str j => obtain ⟨t', rfl⟩ := ry; exact PySem.EqMixed.eq_bool_str (fin_bl I q (by simp))
    | _ => exact absurd (show false = true from hs) Bool.false_ne_true
  | int i =>
    obtain ⟨t, rfl⟩ := rx
    cases y with
    | non => cases ry; exact PySem.EqNone.eq_int_none (fin_bl I q (by simp))
    | int j => obtain ⟨t', rfl⟩ := ry; exact eq_int (fin_bl I q dec_int)
    | str j => obtain ⟨t', rfl⟩ := ry; exact PySem.EqMixed.eq_int_str (fin_bl I q (by simp))
    | _ => exact absurd (show false = true from hs) Bool.false_ne_true
  | str i =>
    obtain ⟨t, rfl⟩ := rx
    cases y with
    | non => cases ry; exact PySem.EqNone.eq_str_none (fin_bl I q (by simp))
    | bl j => cases ry; exact PySem.EqMixed.eq_str_bool (fin_bl I q (by simp))
    | int j => obtain ⟨t', rfl⟩ := ry; exact PySem.EqMixed.eq_str_int (fin_bl I q (by simp))
    | str j => obtain ⟨t', rfl⟩ := ry; exact eq_str (fin_bl I q dec_str)
    | _ => exact absurd (show false = true from hs) Bool.false_ne_true
  | byt i =>
    obtain ⟨t, rfl⟩ := rx
    cases y with
    | byt j => obtain ⟨t', rfl⟩ := ry; exact PySem.W.eq_bytes (fin_bl I q dec_byt)
    | _ => exact absurd (show false = true from hs) Bool.false_ne_true
  | _ => cases y <;> exact absurd (show false = true from hs) Bool.false_ne_true
theorem op_ne : OpR X (compareOp .NotEq) rNe := by
  intro pins s σ H x y v u Q I rx ry h
  obtain ⟨hs, q⟩ := h
  cases x with
  | non =>
    cases rx
    cases y with
    | non => cases ry; exact PySem.EqNone.ne_none_none (fin_bl I q (by simp))
    | bl j => cases ry; exact PySem.EqNone.ne_none_bool (fin_bl I q (by simp))
    | int j => obtain ⟨t', rfl⟩ := ry; exact PySem.EqNone.ne_none_int (fin_bl I q (by simp))
    | str j => obtain ⟨t', rfl⟩ := ry; exact PySem.EqNone.ne_none_str (fin_bl I q (by simp))
    | _ => exact absurd (show false = true from hs) Bool.false_ne_true
  | bl i =>
    cases rx
    cases y with
    | non => cases ry; exact PySem.EqNone.ne_bool_none (fin_bl I q (by simp))
    | bl j => cases ry; exact ne_bool (fin_bl I q (congrArg not dec_bl))
    | str j => obtain ⟨t', rfl⟩ := ry; exact PySem.EqMixed.ne_bool_str (fin_bl I q (by simp))
    | _ => exact absurd (show false = true from hs) Bool.false_ne_true
  | int i =>
    obtain ⟨t, rfl⟩ := rx
    cases y with
    | non => cases ry; exact PySem.EqNone.ne_int_none (fin_bl I q (by simp))
    | int j => obtain ⟨t', rfl⟩ := ry; exact ne_int (fin_bl I q (congrArg not dec_int))
    | str j => obtain ⟨t', rfl⟩ := ry; exact PySem.EqMixed.ne_int_str (fin_bl I q (by simp))
    | _ => exact absurd (show false = true from hs) Bool.false_ne_true
  | str i =>
    obtain ⟨t, rfl⟩ := rx
    cases y with
    | non => cases ry; exact PySem.EqNone.ne_str_none (fin_bl I q (by simp))
    | bl j => cases ry; exact PySem.EqMixed.ne_str_bool (fin_bl I q (by simp))
    | int j => obtain ⟨t', rfl⟩ := ry; exact PySem.EqMixed.ne_str_int (fin_bl I q (by simp))
    | str j => obtain ⟨t', rfl⟩ := ry; exact ne_str (fin_bl I q (congrArg not dec_str))
    | _ => exact absurd (show false = true from hs) Bool.false_ne_true
  | byt i =>
    obtain ⟨t, rfl⟩ := rx
    cases y with
    | byt j => obtain ⟨t', rfl⟩ := ry; exact PySem.W.ne_bytes (fin_bl I q (congrArg not dec_byt))
    | _ => exact absurd (show false = true from hs) Bool.false_ne_true
  | _ => cases y <;> exact absurd (show false = true from hs) Bool.false_ne_true

theorem op_lt : OpR X (compareOp .Lt) (rI0 fun i j => .bl (decide (i < j))) := opB0 fun _ _ _ _ _ _ _ q => lt_int q
theorem op_gt : OpR X (compareOp .Gt) (rI0 fun i j => .bl (decide (j < i))) := opB0 fun _ _ _ _ _ _ _ q => gt_int q




theorem nomark (b : Expr) {op : CmpOp} (h : op ≠ .In := by decide) (h2 : op ≠ .NotIn := by decide) : behindInMarks op b = false := by
  have e1 : (op == CmpOp.In) = false := by cases op <;> first | rfl | exact absurd rfl h
  have e2 : (op == CmpOp.NotIn) = false := by cases op <;> first | rfl | exact absurd rfl h2
  cases b <;> simp [behindInMarks, e1, e2]
/-- a comparison as a value; hm: nomark b, or (for in, not in) by with_unfolding_all rfl -/
theorem pe_cmpR {op : CmpOp} {r : R2} (ho : OpR X (compareOp op) r) (ha : PE X a ta) (hb : PE X b tb) (hm : behindInMarks op b = false) : PE X (.Compare a [op] [b] pos) (tOp r ta tb) := by
  intro pins s σ H Q I h
  exact wpAny_Compare1 (binT ha hb I h fun v u s2 x y H2 I2 rx ry q => ho pins s2 σ H2 x y v u Q I2 rx ry q) hm
/-- a reading of a value as a test -/
noncomputable def tTest (t : TE) : TT := fun σ H Q => t σ H fun x H' => ∃ k, x = .bl k ∧ Q k H'
theorem pt_cmpR {op : CmpOp} {r : R2} (ho : OpR X (compareOp op) r) (ha : PE X a ta) (hb : PE X b tb) (hm : behindInMarks op b = false) : PT X (.Compare a [op] [b] pos) (tTest (tOp r ta tb)) := by
  intro pins s σ H Q I h
  refine wpAny_isTrue_Compare1 (thn (ha pins s σ H _ I h) fun v s1 ⟨x, H1, I1, r1, q1⟩ => thn (hb pins s1 σ H1 _ I1 q1) fun u s2 ⟨y, H2, I2, r2, q2⟩ =>
    thn (ho pins s2 σ H2 x y v u _ I2 r1 r2 q2) fun c s3 zz => ?_) hm
  obtain ⟨z, H3, I3, r3, k, e, q3⟩ := zz
  subst e
  cases r3
  exact wpAny_truthy_bool ⟨H3, I3, q3⟩

/-! ### truth -/
theorem line63 : (sizeLine : Nat) < 2 ^ 63 := by rw [sizeLine_eq]; decide

/-! ### strs and bytes -/


/-! ### scalar builtins, by CallR -/
theorem vals1 {x : V} {us : List Value} (r : Vals [x] us) : ∃ u, us = [u] ∧ RelV x u := by
  cases r with
  | cons r1 r2 => cases r2; exact ⟨_, rfl, r1⟩
theorem vals2 {x y : V} {us : List Value} (r : Vals [x, y] us) : ∃ u w', us = [u, w'] ∧ RelV x u ∧ RelV y w' := by
  cases r with
  | cons r1 r2 =>
    cases r2 with
    | cons r3 r4 => cases r4; exact ⟨_, _, rfl, r1, r3⟩
end
end L2

namespace L2
open PySem PySem.Spec PyProof.Rows

/-! ### an instance, its attributes a map -/
structure ObjM (h : Heap) (x dx C : Addr) (mA : Str → Option Value) : Prop where
  obj : h.get? x = some (PySem.W.instObj C dx)
  ns : h.Ns1 dx mA
  ne : dx ≠ x

theorem lookIn_ns {h : Heap} {dx : Addr} {mA : Str → Option Value} (n : h.Ns1 dx mA) : ∃ od, h.get? dx = some od ∧ ∀ name, PySem.W.lookIn name od = some (mA name) := by
  obtain ⟨o, es, ep, ho, hd, hk, _, hm⟩ := n
  refine ⟨o, ho, fun name => ?_⟩
  have e := hm name
  unfold nsFind findBy at e
  rw [← Array.find?_toList] at e
  unfold PySem.W.lookIn
  rw [hd]
  dsimp only
  split
  · rename_i y q
    rw [q] at e
    exact congrArg some e
  · rename_i q
    rw [q] at e
    have a : es.toList.any (·.refKey) = false := by
      rw [List.any_eq_false]
      intro y hy
      obtain ⟨z, t, hkey⟩ := hk y (Array.mem_toList_iff.mp hy)
      simp [DictEntry.refKey, hkey]
    have a' : ¬ es.toList.any (·.refKey) = true := by rw [a]; exact Bool.false_ne_true
    rw [if_neg a']
    exact congrArg some e

theorem ObjM.look {h : Heap} {x dx C : Addr} {mA : Str → Option Value} (I : ObjM h x dx C mA) : ∃ od, PySem.W.InstAt h x (PySem.W.instObj C dx) C (some od) ∧ ∀ name, PySem.W.lookIn name od = some (mA name) :=
  let ⟨od, ho, hl⟩ := lookIn_ns I.ns
  ⟨od, ⟨I.obj, rfl, rfl, ho⟩, hl⟩

section
variable {prog : Program} {w : World} {A : Around} {E : Value → Shared → Prop} {s : Shared} {K : PySem.W.Frag} {x dx C f : Addr} {mA : Str → Option Value} {name : Str} {v : Value}





end

/-! ### the attributes as a list of pairs -/


section
variable {P : Program} {w : World} {H H' : Hp} {h h' : Heap} {a C dx : Addr} {fs fs' : List (Str × V)}
theorem ins_get (hok : HOk P w H h) (e : H a = some (.ins C dx fs)) : ∃ mA, ObjM h a dx C mA ∧ (∀ f, RelO (fs.lookup f) (mA f)) ∧ PySem.Within mA (fs.map (·.1)) ∧ fs.length ≤ 1000 ∧ H dx = some (.own a) := by
  obtain ⟨d, z, ne, ob, mA, n, r, q⟩ := (show ObjOk P w H h a (.ins C dx fs) from hok a _ e)
  exact ⟨mA, ⟨ob, n, ne⟩, r, q, z, d⟩
end

/-! ### what of the text a class must have -/
structure Cls (K : PySem.W.Frag) (C : Addr) : Prop where
  pg : PySem.W.plainGet K C Str.empty = true
  hd : PySem.W.hasDictIn K C = true
  po : PySem.W.plainOver K C = true
  sa : PySem.W.findIn K (.ref C) "__setattr__" = some (some (.builtin "object.__setattr__"))
theorem Cls.get {K : PySem.W.Frag} {C : Addr} (c : Cls K C) (f : Str) : PySem.W.plainGet K C f = true := c.pg

section
variable {X : Cx} {pins : List (Addr × Obj)} {σ : St} {H : Hp} {s : Shared} {a C dx : Addr} {fs : List (Str × V)} {f : Str} {v : V} {A : Around} {E : Value → Shared → Prop}






end

/-! ### readings and rules -/

section
variable {X : Cx} {o e value : Expr} {f : Str} {pos pos' tpos : Pos} {ta tv : TE}

end

/-! ### isinstance -/
section
variable {X : Cx} {pins : List (Addr × Obj)} {σ : St} {H : Hp} {s : Shared} {A : Around} {E : Value → Shared → Prop} {Q : Value → Shared → Prop} {c : Value} {b : Bool}
/-- the type of a value, as the fragment's deciders take it; for an instance its class -/
inductive TyOf (K : PySem.W.Frag) (H : Hp) : V → Value → Prop where
  | non : TyOf K H .non (.type "NoneType")
  | bl (x : Bool) : TyOf K H (.bl x) (.type "bool")
  | int (i : Int) : TyOf K H (.int i) (.type "int")
  | str (x : Str) : TyOf K H (.str x) (.type "str")
  | flt (x : UInt64) : TyOf K H (.flt x) (.type "float")
  | lst {a : Addr} {xs : List V} (e : H a = some (.lst xs)) : TyOf K H (.ref a) (.type "list")
  | frz {a : Addr} {o : Obj} {xs : List V} (e : H a = some (.frz o (.lst xs))) : TyOf K H (.ref a) (.type "list")
  | tup {a : Addr} {xs : List V} (e : H a = some (.tup xs)) : TyOf K H (.ref a) (.type "tuple")
  | dK {a : Addr} {kvs : List (Key × V)} (e : H a = some (.dK kvs)) : TyOf K H (.ref a) (.type "dict")
  | dT {a : Addr} {kvs : List (List Key × V)} (e : H a = some (.dT kvs)) : TyOf K H (.ref a) (.type "dict")
  | ins {a C dx : Addr} {fs : List (Str × V)} (e : H a = some (.ins C dx fs)) (cl : Cls K C) (ha : PySem.W.findIn K (.ref C) "__class__" = some (some (.builtin "object.__class__")))
      (hn : PySem.W.specialIn K (.builtin "object.__class__") "__get__" = some (some (.builtin "getset_descriptor.__get__"))) (htk : PySem.W.takesIn K (.builtin "object.__class__") = some true)
      (hm : PySem.W.mroIn K C (.type "object") = some true) : TyOf K H (.ref a) (.ref C)
/-- isinstance(x, c) for one class c, a built-in or an own one: kitOne's answer -/
theorem isinst_ok {x : V} {u t : Value} (I : Inv X pins σ H s) (rx : RelV x u) (ty : TyOf X.K H x t) (e : PySem.W.kitOne X.K t c = some b) (h : ∀ tk, Q (.bool b) { s with toks := tk }) :
    wpAny (model X.prog X.w) A (call (.builtin "isinstance") [u, c]) Q E s := by
  cases ty with
  | non => cases (show u = Value.none from rx); exact PySem.W.kia_one PySem.W.kitx_none I.kIn True.intro e (fun z => nomatch z) h
  | bl y => cases (show u = Value.bool y from rx); exact PySem.W.kia_one PySem.W.kitx_bool I.kIn True.intro e (fun z => nomatch z) h
  | int i => obtain ⟨t, q⟩ := (show ∃ t, u = Value.int i t from rx); cases q; exact PySem.W.kia_one PySem.W.kitx_int I.kIn True.intro e (fun z => nomatch z) h
  | str y => obtain ⟨t, q⟩ := (show ∃ t, u = Value.str y t from rx); cases q; exact PySem.W.kia_one PySem.W.kitx_str I.kIn True.intro e (fun z => nomatch z) h
  | flt y => obtain ⟨t, q⟩ := (show ∃ t, u = Value.float y t from rx); cases q; exact PySem.W.kia_one PySem.W.kitx_float I.kIn True.intro e (fun z => nomatch z) h
  | @lst a xs ea =>
    cases (show u = Value.ref a from rx)
    obtain ⟨_, _, n, _, h1⟩ := (show ObjOk X.prog X.w H s.heap a (.lst xs) from I.hok a _ ea)
    exact PySem.W.kia_one PySem.W.kitx_list I.kIn ⟨_, h1, rfl⟩ e (fun z => nomatch z) h
  | @frz a ob xs ea =>
    cases (show u = Value.ref a from rx)
    obtain ⟨_, _, _, n, _, h1⟩ := (show ObjOk X.prog X.w H s.heap a (.frz ob (.lst xs)) from I.hok a _ ea)
    exact PySem.W.kia_one PySem.W.kitx_list I.kIn ⟨_, h1, rfl⟩ e (fun z => nomatch z) h
  | @tup a xs ea =>
    cases (show u = Value.ref a from rx)
    obtain ⟨_, _, _, p⟩ := (show ObjOk X.prog X.w H s.heap a (.tup xs) from I.hok a _ ea)
    obtain ⟨o, h1, h2, _⟩ := p
    exact PySem.W.kia_one PySem.W.kitx_tuple I.kIn ⟨o, h1, h2⟩ e (fun z => nomatch z) h
  | @dK a kvs ea =>
    cases (show u = Value.ref a from rx)
    obtain ⟨_, _, vs, _, p⟩ := (show ObjOk X.prog X.w H s.heap a (.dK kvs) from I.hok a _ ea)
    obtain ⟨o, es, ep, h1, h2, _⟩ := p
    exact PySem.W.kia_one PySem.W.kitx_dict I.kIn ⟨o, h1, h2.1⟩ e (fun z => nomatch z) h
  | @dT a kvs ea =>
    cases (show u = Value.ref a from rx)
    obtain ⟨_, _, xs, _, o, es, ep, h1, h2, _⟩ := (show ObjOk X.prog X.w H s.heap a (.dT kvs) from I.hok a _ ea)
    exact PySem.W.kia_one PySem.W.kitx_dict I.kIn ⟨o, h1, h2.1⟩ e (fun z => nomatch z) h
  | @ins a C dx fs ea cl ha hn htk hm =>
    cases (show u = Value.ref a from rx)
    obtain ⟨mA, O, _⟩ := ins_get I.hok ea
    obtain ⟨od, J, _⟩ := O.look
    exact PySem.W.kia_one (PySem.W.kitx_own (cl.get _) cl.hd ha hn htk hm) I.kIn J e (fun z => nomatch z) h
end
end L2

namespace L2
open PySem PySem.Spec PyProof.Rows

/-! ### room -/
structure Room (k : Nat) (A : Around) : Prop where
  hd : A.handled = none
  dp : A.depth + 3 * k + 5 < recursionLimit
  un : A.units + 16 * k + 200 < cLine
  gd : A.guards = some []
theorem Room.mono {j k : Nat} {A : Around} (r : Room k A) (h : j ≤ k) : Room j A := ⟨r.hd, by have := r.dp; omega, by have := r.un; omega, r.gd⟩
theorem Room.deeper {k : Nat} {A : Around} (r : Room (k + 1) A) (env : Env) : Room k (A.deeper env) :=
  ⟨r.hd, by have := r.dp; show A.depth + 1 + 3 * k + 5 < _; omega, by have := r.un; show A.units + 3 + 16 * k + 200 < _; omega, r.gd⟩
theorem Room.depth {k : Nat} {A : Around} (r : Room k A) : A.depth < recursionLimit := by have := r.dp; omega
theorem Room.units {k : Nat} {A : Around} (r : Room k A) : A.units + 64 < cLine := by have := r.un; omega
theorem Room.units0 {k : Nat} {A : Around} (r : Room k A) : A.units < cLine := by have := r.un; omega

/-! ### argument lists and displays -/
noncomputable def tNil : TA := fun _ H Q => Q [] H
noncomputable def tCons (ta : TE) (tr : TA) : TA := fun σ H Q => ta σ H fun x H1 => tr σ H1 fun xs H2 => Q (x :: xs) H2
section
variable {X : Cx} {e : Expr} {es : List Expr} {te : TE} {t : TA} {pos : Pos}
theorem pa_nil : PA X [] tNil := fun _ _ _ _ H Q I h => Calls.spliced_nil ⟨[], H, I, .nil, h⟩
theorem pa_cons (ha : PE X e te) (hr : PA X es t) (hs : starEach (e :: es) X.env = (false, eval e X.env) :: starEach es X.env := by rfl) : PA X (e :: es) (tCons te t) := by
  intro pos pins s σ H Q I h
  rw [hs]
  show wpAny _ _ (spliced ((false, eval e X.env) :: backTo pos (starEach es X.env))) _ _ s
  refine Calls.spliced_cons (thn (ha pins s σ H _ I h) fun u s1 zz => ?_)
  obtain ⟨x, H1, I1, r1, q1⟩ := zz
  exact thn (hr pos pins s1 σ H1 _ I1 q1) fun us s2 ⟨xs, H2, I2, r2, q2⟩ => ⟨x :: xs, H2, I2, .cons r1 r2, q2⟩

/-- a tuple, a list of written items -/
noncomputable def tTup (t : TA) : TE := fun σ H Q => t σ H fun xs H1 => xs.length ≤ sizeLine ∧ ∀ p, H1 p = none → Q (.ref p) (upd H1 p (.tup xs))
noncomputable def tLst (t : TA) : TE := fun σ H Q => t σ H fun xs H1 => xs.length ≤ sizeLine ∧ ∀ p, H1 p = none → Q (.ref p) (upd H1 p (.lst xs))
theorem pe_tup {x1} (h : PA X es t) : PE X (.Tuple es x1 pos) (tTup t) := by
  intro pins s σ H Q I hq
  refine wpAny_Tuple_spliced (thn (h pos pins s σ H _ I hq) fun us s1 ⟨xs, H1, I1, r, z, q⟩ => ⟨by rw [← r.length]; exact z, ?_⟩)
  have hf : H1 s1.heap.objs.size = none := I1.hok.fresh (Nat.le_refl _)
  refine ⟨.ref s1.heap.objs.size, upd H1 s1.heap.objs.size (.tup xs), I1.laid (t' := s1.toks) (fun b u e => Heap.get?_push_of_some _ e) (Nat.le_refl _) ?_, rfl, q _ hf⟩
  exact ⟨z, us, r, ⟨_, Heap.get?_push_size _ rfl, rfl, _, rfl⟩⟩
theorem pe_lst (h : PA X es t) : PE X (.List es pos) (tLst t) := by
  intro pins s σ H Q I hq
  refine wpAny_List_spliced (thn (h pos pins s σ H _ I hq) fun us s1 ⟨xs, H1, I1, r, z, q⟩ => ⟨by rw [← r.length]; exact z, ?_⟩)
  have hf : H1 s1.heap.objs.size = none := I1.hok.fresh (Nat.le_refl _)
  refine ⟨.ref s1.heap.objs.size, upd H1 s1.heap.objs.size (.lst xs), I1.laid (t' := s1.toks) (fun b u e => Heap.get?_push_of_some _ e) (Nat.le_refl _) ?_, rfl, q _ hf⟩
  exact ⟨z, us, 0, r, Heap.get?_push_size _ rfl⟩
end

/-! ### what a def promises -/
/-- a def's promise: the bound arguments in the parameters' order, the heap, the wanted end, the wanted exception -/
noncomputable abbrev Sp := List V → Hp → VK → XK → Prop
/-- how an exception lies behind a call (file 08 gives it): the callers' frames, abstract heap and state ahead of the call, the wish, the exception, the state -/
noncomputable abbrev CXT := List Env → Hp → Shared → XK → Value → Shared → Prop

/-- the state at a call -/
structure Env0 (P : Program) (w : World) (K : PySem.W.Frag) (mg : Str → Option Value) (base : Heap) (A : Around) (outer : List Env) (s : Shared) (H : Hp) : Prop where
  frames : A.frames = some outer
  mod : Mod K mg base
  bs : ∀ b o, base.get? b = some o → s.heap.get? b = some o ∧ H b = none
  bsz : base.objs.size ≤ s.heap.objs.size
  funs : s.heap.FunFrames base outer
  frf : ∀ b ∈ frs outer, H b = none
  hok : HOk P w H s.heap
  bare : AllBare s.gens
/-- a call's end -/
noncomputable def CE (outer : List Env) (P : Program) (w : World) (H : Hp) (s : Shared) (Q : VK) (u : Value) (s' : Shared) : Prop :=
  ∃ v H', s'.os = s.os ∧ AllBare s'.gens ∧ Un (frs outer) [] H H' s.heap s'.heap ∧ HOk P w H' s'.heap ∧ RelV v u ∧ Q v H'
noncomputable def CR (CX : CXT) (outer : List Env) (P : Program) (w : World) (H : Hp) (s : Shared) (Q : VK) (E : XK) (r : Result) (s' : Shared) : Prop :=
  match r with
  | .ok (.ret u) => CE outer P w H s Q u s'
  | .ok _ => False
  | .error e => CX outer H s E e s'
structure FnOk (P : Program) (w : World) (K : PySem.W.Frag) (mg : Str → Option Value) (base : Heap) (CX : CXT) (k : Nat) (f : Addr) (fd : FuncData) (ps : List Str) (sp : Sp) : Prop where
  len : ∀ vs H Q E, sp vs H Q E → vs.length = ps.length
  run : ∀ (A : Around) (outer : List Env) (s : Shared) (H : Hp) (args : Args) (us : List Value) (vs : List V) (Q : VK) (E : XK), Room k A → Env0 P w K mg base A outer s H → BindsTo s fd args (ps.zip us) → Vals vs us → sp vs H Q E →
    codeAny (model P w) A (.call (.ref f) args) (CR CX outer P w H s Q E) s


section
variable {X : Cx} {pins : List (Addr × Obj)} {σ : St} {H : Hp} {s s' : Shared}
/-- from a body: what a callee wants -/
theorem Inv.env0 (I : Inv X pins σ H s) : Env0 X.prog X.w X.K X.mg X.base X.A X.stack s H :=
  ⟨I.ok.frames, I.ok.mod, I.bs, Nat.le_trans I.ok.bsz I.sz, I.stack, I.stkFree, I.hok, I.bare⟩
/-- behind a call -/
theorem Inv.after {Q : VK} {u : Value} (I : Inv X pins σ H s) (h : CE X.stack X.prog X.w H s Q u s') : EP X pins σ Q u s' := by
  obtain ⟨v, H', os, bare, un, hok, r, q⟩ := h
  obtain ⟨hh, g, d, t, os'⟩ := s'
  obtain rfl : os' = s.os := os
  exact ⟨v, H', I.call (h' := hh) (g' := g) (d' := d) (t' := t) (ch := []) un hok bare (fun b z => absurd z (by simp)), r, q⟩
end

/-! ### calls -/
/-- f(..): the written arguments, then the defaults dvs; E: what is wanted of an exception -/
noncomputable def tCall (sp : Sp) (dvs : List V) (E : XK) (t : TA) : TE := fun σ H Q => t σ H fun vs H1 => sp (vs ++ dvs) H1 Q E

/-- how the parameters are bound: us the positional arguments, kw the keywords' values by name, ds the defaults that fill up -/
noncomputable def Binds (K : PySem.W.Frag) (fd : FuncData) (ps : List Str) (ds : List Value) : Prop :=
  ∀ (s : Shared) (us : List Value), K.In s.heap → (us ++ ds).length = ps.length → BindsTo s fd ⟨us, []⟩ (ps.zip (us ++ ds))
/-- every parameter is given -/
theorem Binds.all {K : PySem.W.Frag} {fd : FuncData} {ps : List Str} (h : ∀ us : List Value, us.length = ps.length → bindArgs fd ⟨us, []⟩ = pure (ps.zip us)) : Binds K fd ps [] := fun s us _ hl => by
  rw [List.append_nil] at hl ⊢
  exact .of_eq (h us hl)

/-- an exception of a callee reaches what this body wants of exceptions -/
noncomputable def Passes (CX : CXT) (X : Cx) (E : XK) : Prop := ∀ (pins : List (Addr × Obj)) (σ : St) (H : Hp) (s : Shared) (e : Value) (s' : Shared), Inv X pins σ H s → CX X.stack H s E e s' → X.xe e s'

section
variable {X : Cx} {CX : CXT} {k : Nat} {f C : Addr} {fd : FuncData} {ps : List Str} {sp : Sp} {dvs : List V} {ds : List Value} {E : XK} {x m : Str} {p pos apos : Pos} {e o : Expr} {es : List Expr} {ta : TE} {t : TA}

/-- the callee runs -/
theorem run_fn {pins : List (Addr × Obj)} {σ : St} {H : Hp} {s : Shared} {Q : VK} {us : List Value} {vs : List V} (F : FnOk X.prog X.w X.K X.mg X.base CX k f fd ps sp) (hr : Room k X.A) (hb : Binds X.K fd ps ds) (hd : Vals dvs ds) (hx : Passes CX X E)
    (I : Inv X pins σ H s) (r : Vals vs us) (h : sp (vs ++ dvs) H Q E) : wpAny (model X.prog X.w) X.A (call (.ref f) us) (EP X pins σ Q) X.xe s := by
  have r2 : Vals (vs ++ dvs) (us ++ ds) := r.append hd
  have hl : (us ++ ds).length = ps.length := by rw [← r2.length]; exact F.len _ _ _ _ h
  refine wpAny_call (codeAny_mono (F.run X.A X.stack s H ⟨us, []⟩ (us ++ ds) (vs ++ dvs) Q E hr I.env0 (hb s us I.kIn hl) r2 h) fun r s' hq => ?_)
  cases r with
  | error e => exact hx pins σ H s e s' I hq
  | ok fl =>
    cases fl with
    | ret u => exact I.after hq
    | next => exact False.elim hq
    | brk => exact False.elim hq
    | cont => exact False.elim hq

theorem pe_call (F : FnOk X.prog X.w X.K X.mg X.base CX k f fd ps sp) (hr : Room k X.A) (hg : Gl X x) (hm : X.mg x = some (.ref f)) (hk : PySem.W.keepIn X.K (.ref f) = true) (hb : Binds X.K fd ps ds) (hd : Vals dvs ds) (hx : Passes CX X E)
    (ha : PA X (e :: es) t) (hdb : (x == ("__debug__" : Str)) = false := by decide) (he : starEach (e :: es) X.env = (false, eval e X.env) :: starEach es X.env := by rfl) (hpl : (backTo pos (starEach es X.env)).any (·.1) = false := by rfl) :
    PE X (.Call (.Name x p) (e :: es) [] pos) (tCall sp dvs E t) := by
  intro pins s σ H Q I h
  refine wpAny_Call_Name_kw (ld_glob I hg hm ?_ hdb)
  refine PySem.W.callWith_K (h₀ := X.base) I.ok.mod.kin hk (thn (ha pos pins s σ H _ I h) fun us s1 ⟨vs, H1, I1, r, q⟩ => ⟨I1.kIn, ?_⟩) he hpl
  exact run_fn F hr hb hd hx I1 r q



end

/-! ### keywords -/
section
variable {X : Cx} {CX : CXT} {k : Nat} {f C : Addr} {fd : FuncData} {ps ks : List Str} {sp : Sp} {E : XK} {x m : Str} {p pos apos kpos : Pos} {e o : Expr} {es : List Expr} {kws : List Keyword} {te ta : TE} {t tk : TA} {nm : Option Str}

variable {g : List Value → List Value → List Value} {gV : List V → List V → List V}
end

/-! ### a def's body keeps its promise -/
/-- names: the parameters first -/
structure FnScope (N P : List Str) (sc : Scope) : Prop where
  kind : sc.kind = .function
  co : sc.isCoroutine = false
  gen : sc.isGenerator = false
  nd : N.Nodup
  pre : N.take P.length = P
  par : ∀ x ∈ P, sc.names.lookup x = some .local ∨ sc.names.lookup x = some .cell
  nofree : ∀ y ∈ sc.names, y.2 ≠ .free

theorem bindL_out {kindOf : Str → Option NameKind} {x : Str} : ∀ {binds : List (Str × Value)} {m : Str → Option Value}, (∀ v, (x, v) ∉ binds) → bindL kindOf binds m x = m x
  | [], _, _ => rfl
  | (n, v) :: r, m, h => by
    unfold bindL
    rw [bindL_out fun w hw => h w (List.mem_cons_of_mem _ hw)]
    split
    · have : x ≠ n := by rintro rfl; exact h v List.mem_cons_self
      simp [this]
    · rfl
theorem bindC_out {kindOf : Str → Option NameKind} {x : Str} : ∀ {binds : List (Str × Value)} {m : Str → Option Value}, (∀ v, (x, v) ∉ binds) → bindC kindOf binds m x = m x
  | [], _, _ => rfl
  | (n, v) :: r, m, h => by
    unfold bindC
    rw [bindC_out fun w hw => h w (List.mem_cons_of_mem _ hw)]
    split
    · rfl
    · have : x ≠ n := by rintro rfl; exact h v List.mem_cons_self
      simp [this]
theorem bindL_get {kindOf : Str → Option NameKind} {x : Str} {v : Value} : ∀ {P : List Str} {vs : List Value} {i : Nat} {m : Str → Option Value}, P.Nodup → P[i]? = some x → vs[i]? = some v → kindOf x = some .local →
    bindL kindOf (P.zip vs) m x = some v
  | [], _, _, _, _, h, _, _ => by simp at h
  | _ :: _, [], _, _, _, _, h, _ => by simp at h
  | p :: P, w :: vs, 0, m, nd, h1, h2, hk => by
    simp at h1 h2; subst h1; subst h2
    show bindL kindOf ((p, w) :: P.zip vs) m p = _
    unfold bindL
    rw [bindL_out fun v hv => (List.nodup_cons.mp nd).1 (List.of_mem_zip hv).1, if_pos hk]
    simp
  | p :: P, w :: vs, i + 1, m, nd, h1, h2, hk => by
    show bindL kindOf ((p, w) :: P.zip vs) m x = _
    unfold bindL
    exact bindL_get (i := i) (List.nodup_cons.mp nd).2 (by simpa using h1) (by simpa using h2) hk
theorem bindC_get {kindOf : Str → Option NameKind} {x : Str} {v : Value} : ∀ {P : List Str} {vs : List Value} {i : Nat} {m : Str → Option Value}, P.Nodup → P[i]? = some x → vs[i]? = some v → kindOf x ≠ some .local →
    bindC kindOf (P.zip vs) m x = some v
  | [], _, _, _, _, h, _, _ => by simp at h
  | _ :: _, [], _, _, _, _, h, _ => by simp at h
  | p :: P, w :: vs, 0, m, nd, h1, h2, hk => by
    simp at h1 h2; subst h1; subst h2
    show bindC kindOf ((p, w) :: P.zip vs) m p = _
    unfold bindC
    rw [bindC_out fun v hv => (List.nodup_cons.mp nd).1 (List.of_mem_zip hv).1, if_neg hk]
    simp
  | p :: P, w :: vs, i + 1, m, nd, h1, h2, hk => by
    show bindC kindOf ((p, w) :: P.zip vs) m x = _
    unfold bindC
    exact bindC_get (i := i) (List.nodup_cons.mp nd).2 (by simpa using h1) (by simpa using h2) hk

/-- the names' values at the entry -/
noncomputable def start (N : List Str) (vs : List V) : St := vs.map some ++ List.replicate (N.length - vs.length) none

/-- the context of a def's body, at its entry; an exception leaves the frame, then lies as CX says -/
noncomputable def cxOf (CX : CXT) (P : Program) (w : World) (K : PySem.W.Frag) (mg : Str → Option Value) (base : Heap) (N : List Str) (qual : Str) (scope : Scope) (f : Addr) (cd : Value) (A : Around) (outer : List Env) (s : Shared) (H : Hp) (E : XK) : Cx where
  prog := P
  w := w
  K := K
  mg := mg
  base := base
  A := A.deeper (envOfC qual scope s.heap.objs.size f cd)
  N := N
  s₀ := s
  H₀ := H
  env := envOfC qual scope s.heap.objs.size f cd
  outer := outer
  stack := envOfC qual scope s.heap.objs.size f cd :: outer
  ex := []
  calm := true
  fn := fun _ => true
  pn := []
  xe := fun e s' => wpAny (model P w) (A.deeper (envOfC qual scope s.heap.objs.size f cd)) (leaving (envOfC qual scope s.heap.objs.size f cd) e) (fun _ s'' => CX outer H s E e s'') (fun e' s'' => CX outer H s E e' s'') s'

theorem cell_has {sc : Scope} {n : Nat} {x : Str} (h : sc.names.lookup x = some .cell) : ∃ c, (cellsFrom n sc.names []).lookup x = some c := by
  have q := PySem.W.cellsFrom_some sc.names n [] (.inl h)
  exact Option.isSome_iff_exists.mp q

theorem inv_start {CX : CXT} {P : Program} {w : World} {K : PySem.W.Frag} {mg : Str → Option Value} {base : Heap} {N ps : List Str} {qual : Str} {scope : Scope} {f : Addr} {cd : Value} {A : Around} {outer : List Env} {s s1 : Shared} {H : Hp} {E : XK} {us : List Value} {vs : List V}
    (S : FnScope N ps scope) (hd : A.handled = none) (e0 : Env0 P w K mg base A outer s H) (hl : vs.length = ps.length) (r : Vals vs us)
    (x : InCallC s s.heap.objs.size (bindL (envOfC qual scope s.heap.objs.size f cd).kindOf (ps.zip us) fun _ => none) (cellsFrom (s.heap.objs.size + 1) scope.names []) (bindC (envOfC qual scope s.heap.objs.size f cd).kindOf (ps.zip us) fun _ => none) s1) :
    Inv (cxOf CX P w K mg base N qual scope f cd A outer s H E) [] (start N vs) H s1 := by
  have hpl : ps.length ≤ N.length := by have := congrArg List.length S.pre; rw [List.length_take] at this; omega
  obtain ⟨h1, tk, rfl, hk⟩ := x.done
  have noA : ∀ b : Addr, b ∉ (cxOf CX P w K mg base N qual scope f cd A outer s H E).ex := fun b z => absurd (show b ∈ ([] : List Addr) from z) (by simp)
  refine ⟨⟨e0.mod, S.kind, rfl, rfl, Nat.le_refl _, fun y z c h1 h2 => ?_, fun y hy => ?_, fun y c _ h => ?_, fun _ => hd, Around.frames_deeper e0.frames, .inr ⟨rfl, rfl⟩, fun b z => absurd z (noA b), e0.bs, e0.bsz, fun b _ _ => noA b, fun b z => absurd z (noA b), e0.funs, e0.frf⟩,
    rfl, e0.bare, Un.kept hk, ⟨_, x.toInCall.ns, fun i y v h1 h2 h3 => ?_⟩, fun y c h => ⟨_, x.cell y c h⟩, e0.hok.fresh (Nat.le_refl _), fun y c h => ?_, fun p hp => absurd (show p ∈ ([] : List (Addr × Obj)) from hp) (by simp), e0.hok.kept hk, ?_⟩
  · exact name_of_addr x.apart (PySem.mem_of_lookup h1) (PySem.mem_of_lookup h2)
  · have hy : scope.names.lookup y = some .cell ∨ scope.names.lookup y = some .free := hy
    rcases hy with hy | hy
    · exact cell_has hy
    · exact absurd rfl (S.nofree _ (PySem.mem_of_lookup hy))
  · exact Nat.le_of_lt (x.above y c (PySem.mem_of_lookup h))
  · have hi : i < vs.length := by
      unfold start at h2
      by_cases hi : i < vs.length
      · exact hi
      · rw [List.getElem?_append_right (by simpa using hi)] at h2
        rw [List.getElem?_replicate] at h2
        split at h2 <;> cases h2
    have ha : vs[i]? = some v := by
      unfold start at h2
      rw [List.getElem?_append_left (by simpa using hi), List.getElem?_map] at h2
      cases e : vs[i]? with
      | none => rw [e] at h2; cases h2
      | some a => rw [e] at h2; cases h2; rfl
    obtain ⟨u, hu, rv⟩ := r.get ha
    have hp : ps[i]? = some y := by
      rw [← S.pre, List.getElem?_take_of_lt (by omega)]; exact h1
    have ndP : ps.Nodup := by rw [← S.pre]; exact S.nd.sublist (List.take_sublist _ _)
    refine ⟨u, rv, ?_⟩
    rcases S.par y (List.mem_of_getElem? hp) with k | k
    · exact .inl ⟨k, bindL_get ndP hp hu k⟩
    · obtain ⟨c, e⟩ := cell_has (n := s.heap.objs.size + 1) k
      refine .inr ⟨.inl k, c, e, ?_⟩
      have q := x.cell y c e
      rw [bindC_get ndP hp hu (by show scope.names.lookup y ≠ _; rw [k]; decide)] at q
      exact q
  · exact e0.hok.fresh (Nat.le_of_lt (x.above y c (PySem.mem_of_lookup h)))
  · unfold start
    show _ = N.length
    rw [List.length_append, List.length_map, List.length_replicate]
    omega

/-- THE RULE: a def (or a method) of the text, by its body. The body's reading t is chosen for each entry; it is run at the parameters' values -/
theorem fn_of {CX : CXT} {P : Program} {w : World} {K : PySem.W.Frag} {mg : Str → Option Value} {base : Heap} {k : Nat} {f : Addr} {name qual : Str} {params : Arguments} {body : List Stmt} {scope : Scope} {dV kV doc pm cdv ct oc : Value} {an od : Option Addr}
    {osl : Array (Option Value)} {N ps : List Str} {sp : Sp} (lk : K.lookup f = some ⟨oc, od, .func (PySem.W.fnOf name qual params body scope dV kV doc pm an cdv ct), osl⟩) (hcd : PySem.W.codeIn K cdv qual = true) (S : FnScope N ps scope)
    (len : ∀ vs H Q E, sp vs H Q E → vs.length = ps.length)
    (hbody : ∀ (A : Around) (outer : List Env) (s : Shared) (H : Hp) (vs : List V) (Q : VK) (E : XK), Room k (A.deeper (envOfC qual scope s.heap.objs.size f cdv)) → sp vs H Q E →
      ∃ t, PSs (cxOf CX P w K mg base N qual scope f cdv A outer s H E) body t ∧ t { nx := fun _ H' => Q .non H', rt := Q } (start N vs) H) :
    FnOk P w K mg base CX (k + 1) f (PySem.W.fnOf name qual params body scope dV kV doc pm an cdv ct) ps sp := by
  refine ⟨len, fun A outer s H args us vs Q E hr e0 hb r hsp => ?_⟩
  have hl := len _ _ _ _ hsp
  have KX : K.In s.heap := e0.mod.kin.keeps fun b o e => (e0.bs b o e).1
  have lim : s.heap.NoLimit := e0.mod.nolimit.keeps fun b o e => (e0.bs b o e).1
  have hkind : ∀ y ∈ ps.zip us, scope.names.lookup y.1 = some .local ∨ (scope.names.lookup y.1 = some .cell ∧ ((cellsFrom (s.heap.objs.size + 1) scope.names []).lookup y.1).isSome = true) := fun ⟨n, v⟩ hy => by
    rcases S.par n (List.of_mem_zip hy).1 with q | q
    · exact .inl q
    · exact .inr ⟨q, PySem.W.cellsFrom_some _ _ _ (.inl q)⟩
  refine codeAny_call_function hr.depth (KX _ _ lk) rfl S.co S.gen rfl (PySem.W.codeRec_of KX hcd) (hb _ _ _ _ ?_)
  refine wpAny_newFunctionEnv_cells S.kind hkind fun env he s1 x => ?_
  subst he
  refine ⟨lim.keeps x.toInCall.keep, codeAny_func ?_⟩
  obtain ⟨t, ht, hq⟩ := hbody A outer s H vs Q E (hr.deeper _) hsp
  have I : Inv (cxOf CX P w K mg base N qual scope f cdv A outer s H E) [] (start N vs) H s1 := inv_start S hr.hd e0 hl r x
  refine wpAny_mono (ht [] s1 (start N vs) H _ I hq) (fun fl s' hs => ?_) fun e s' hs => hs
  have fin : ∀ {σ' : St} {H' : Hp} {v : V} {u : Value}, Inv (cxOf CX P w K mg base N qual scope f cdv A outer s H E) [] σ' H' s' → RelV v u → Q v H' → CE outer P w H s Q u s' :=
    fun {σ' H' v u} J rv q => ⟨v, H', J.os, J.bare, J.base, J.hok, rv, q⟩
  cases fl with
  | ret u =>
    obtain ⟨v, σ', H', J, rv, q⟩ := hs
    exact fin J rv q
  | next =>
    obtain ⟨σ', H', J, q⟩ := hs
    exact fin (v := V.non) (u := Value.none) J rfl q
  | brk =>
    obtain ⟨_, _, _, q⟩ := hs
    exact False.elim q
  | cont =>
    obtain ⟨_, _, _, q⟩ := hs
    exact False.elim q
end L2

namespace L2
open PySem PySem.Spec PyProof.Rows
section
variable {X : Cx} {x : Str} {p pos : Pos} {e : Expr} {es : List Expr} {t : TA} {id T : String} {r : List V → Hp → VK → Prop}

noncomputable def tCB (r : List V → Hp → VK → Prop) (t : TA) : TE := fun σ H Q => t σ H fun vs H1 => r vs H1 Q
/-- f(e, ..), f a built-in function -/
theorem pe_callB (hc : CallR X (.builtin id) r) (hg : Gl X x) (hm : X.mg x = none) (hv : bootBuiltins x = some (.builtin id)) (ha : PA X (e :: es) t) (hn : x ≠ "__name__" := by decide) (hdb : (x == ("__debug__" : Str)) = false := by decide)
    (he : starEach (e :: es) X.env = (false, eval e X.env) :: starEach es X.env := by rfl) (hpl : (backTo pos (starEach es X.env)).any (·.1) = false := by rfl) : PE X (.Call (.Name x p) (e :: es) [] pos) (tCB r t) := by
  intro pins s σ H Q I h
  refine wpAny_Call_Name_kw (ld_blt I hg hm hv ?_ hn hdb)
  exact PyProof.Rows.callWith_builtin1 (thn (ha pos pins s σ H _ I h) fun us s1 ⟨vs, H1, I1, r1, q1⟩ => hc pins s1 σ H1 vs us Q I1 r1 q1) he hpl
/-- T(e, ..), T a built-in type -/
theorem pe_callTy (hc : CallR X (.type T) r) (hg : Gl X x) (hm : X.mg x = none) (hv : bootBuiltins x = some (.type T)) (ha : PA X (e :: es) t) (hn : x ≠ "__name__" := by decide) (hdb : (x == ("__debug__" : Str)) = false := by decide)
    (he : starEach (e :: es) X.env = (false, eval e X.env) :: starEach es X.env := by rfl) (hpl : (backTo pos (starEach es X.env)).any (·.1) = false := by rfl) : PE X (.Call (.Name x p) (e :: es) [] pos) (tCB r t) := by
  intro pins s σ H Q I h
  refine wpAny_Call_Name_kw (ld_blt I hg hm hv ?_ hn hdb)
  exact PyProof.Rows.callWith_type1 (thn (ha pos pins s σ H _ I h) fun us s1 ⟨vs, H1, I1, r1, q1⟩ => hc pins s1 σ H1 vs us Q I1 r1 q1) he hpl
end
end L2

namespace HT
open PySem PyProof.Rows



section
open PySem.SeqAt
open PySem.AutoSeq1 (wpAny_loadPart')
open PySem.MeetsSeq PySem.MeetsSeq2 PySem.MeetsSeq3

end

section
variable {prog : Program} {w : World} {A : Around} {E : Value → Shared → Prop} {s : Shared}



/-! ### t[a:b], not the whole -/
/-- a slice's bound as a place among n (d where it is left out) -/
noncomputable def sIx (n d : Nat) : Option Int → Nat
  | none => d
  | some v => if v < 0 then (v + (n : Int)).toNat else min v.toNat n

end
end HT

namespace L2
open PySem PySem.Spec PyProof.Rows

/-! ### the parts of a slice -/
noncomputable abbrev TO := St → Hp → (Option Int → Hp → Prop) → Prop
/-- a slice's part (left out, or an int) -/
noncomputable def PO (X : Cx) (e : Option Expr) (t : TO) : Prop :=
  ∀ (pins : List (Addr × Obj)) (s : Shared) (σ : St) (H : Hp) (Q : Option Int → Hp → Prop), Inv X pins σ H s → t σ H Q →
    wpAny (model X.prog X.w) X.A (evalPart e X.env) (fun u s' => ∃ o H', Inv X pins σ H' s' ∧ IsPart u o ∧ Q o H') X.xe s
noncomputable def tNoPart : TO := fun _ H Q => Q none H
noncomputable def tPart (t : TE) : TO := fun σ H Q => t σ H fun x H1 => ∃ i, x = .int i ∧ Q (some i) H1


section
variable {X : Cx} {e : Expr} {te : TE} {lo hi : Option Expr} {tl th : TO} {pos p2 : Pos}

theorem po_none : PO X none tNoPart := by
  intro pins s σ H Q I h
  rw [evalPart_none]
  exact wpAny_pure ⟨none, H, I, .none, h⟩
theorem po_some (h : PE X e te) : PO X (some e) (tPart te) := by
  intro pins s σ H Q I hw
  rw [evalPart_some]
  refine thn (h pins s σ H _ I hw) fun u s1 zz => ?_
  obtain ⟨x, H1, I1, r1, q1⟩ := zz
  obtain ⟨i, rfl, q⟩ := q1
  obtain ⟨t, rfl⟩ := r1
  exact ⟨some i, H1, I1, .int i t, q⟩

/-- what a slice of a value is, by values: the slice object stands at sl -/
noncomputable def SlR (X : Cx) (r : V → Option Int → Option Int → Hp → VK → Prop) : Prop :=
  ∀ (pins : List (Addr × Obj)) (s : Shared) (σ : St) (H : Hp) (x : V) (v vl vu : Value) (lo hi : Option Int) (sl : Addr) (Q : VK), Inv X pins σ H s → RelV x v → s.heap.IsSliceOf sl vl vu .none → IsPart vl lo → IsPart vu hi → r x lo hi H Q →
    ∃ T id, typeLookup (.type T) "__getitem__" = pure (some (.builtin id)) ∧ s.TypeIs v T ∧ wpAny (model X.prog X.w) X.A (getItem v (.ref sl)) (EP X pins σ Q) X.xe s
noncomputable def tSl (r : V → Option Int → Option Int → Hp → VK → Prop) (te : TE) (tl th : TO) : TE := fun σ H Q => te σ H fun x H1 => tl σ H1 fun l H2 => th σ H2 fun u H3 => r x l u H3 Q
/-- a[lo:hi], any a -/
theorem pe_slice {r : V → Option Int → Option Int → Hp → VK → Prop} (hr : SlR X r) (he : PE X e te) (hl : PO X lo tl) (hu : PO X hi th) : PE X (.Subscript e (.Slice lo hi none p2) pos) (tSl r te tl th) := by
  intro pins s σ H Q I h
  refine Subscript_ (thn (he pins s σ H _ I h) fun v s1 zz => ?_)
  obtain ⟨x, H1, I1, r1, q1⟩ := zz
  refine wpAny_Slice (thn (hl pins s1 σ H1 _ I1 q1) fun vl s2 ⟨l, H2, I2, pl, q2⟩ => thn (hu pins s2 σ H2 _ I2 q2) fun vu s3 zz => ?_)
  obtain ⟨u, H3, I3, pu, q3⟩ := zz
  rw [evalPart_none]
  refine wpAny_pure ?_
  have I4 : Inv X pins σ H3 { s3 with heap := s3.heap.push { cls := .type "slice", data := .fields #[vl, vu, .none] } } := I3.kept (t' := s3.toks) fun b ob q => Heap.get?_push_of_some _ q
  obtain ⟨T, id, hT, ht, hg⟩ := hr pins { s3 with heap := s3.heap.push { cls := .type "slice", data := .fields #[vl, vu, .none] } } σ H3 x v vl vu l u s3.heap.objs.size Q I4 r1 (Heap.IsSliceOf.new ..) pl pu q3
  show wpAny (model X.prog X.w) X.A (subscriptTail e (.Slice lo hi none p2) v (.ref s3.heap.objs.size)) (EP X pins σ Q) X.xe { s3 with heap := s3.heap.push { cls := .type "slice", data := .fields #[vl, vu, .none] } }
  exact tail_any (ops := [.ref s3.heap.objs.size, v]) ht hT hg (by with_unfolding_all rfl)

/-- the items of xs[lo:hi] -/
noncomputable def cutV (xs : List V) (lo hi : Option Int) : List V := (xs.drop (HT.sIx xs.length 0 lo)).take (HT.sIx xs.length xs.length hi - HT.sIx xs.length 0 lo)
theorem cutV_length (xs : List V) (lo hi : Option Int) : (cutV xs lo hi).length ≤ xs.length := by
  unfold cutV
  rw [List.length_take, List.length_drop]
  omega

/-! ### t < u, t + u -/
end
end L2

namespace L2
open PySem PySem.Spec PyProof.Rows

/-! ### places -/
/-- the place that an index of any sign means -/
noncomputable def ixN (n : Nat) (i : Int) : Option Nat := if 0 ≤ i then (if i < n then some i.toNat else none) else if -(n : Int) ≤ i then some (i + n).toNat else none
noncomputable def atI {α : Type} (xs : List α) (i : Int) : Option α := (ixN xs.length i).bind fun j => xs[j]?
theorem ixN_seq {n : Nat} {i : Int} {j : Nat} (h : ixN n i = some j) : seqIndex? i n = some j ∧ j < n ∧ -(n : Int) ≤ i ∧ i < n := by
  unfold ixN at h
  by_cases h0 : 0 ≤ i
  · rw [if_pos h0] at h
    by_cases h1 : i < n
    · rw [if_pos h1] at h
      have e : i.toNat = j := Option.some.inj h
      exact ⟨by rw [seqIndex_of h0 h1, e], by omega, by omega, h1⟩
    · rw [if_neg h1] at h; cases h
  · rw [if_neg h0] at h
    by_cases h1 : -(n : Int) ≤ i
    · rw [if_pos h1] at h
      have e : (i + n).toNat = j := Option.some.inj h
      exact ⟨by rw [seqIndex_neg (by omega) h1, e], by omega, h1, by omega⟩
    · rw [if_neg h1] at h; cases h
theorem atI_get {α : Type} {xs : List α} {i : Int} {v : α} (h : atI xs i = some v) : ∃ j, seqIndex? i xs.length = some j ∧ xs[j]? = some v ∧ j < xs.length ∧ -(xs.length : Int) ≤ i ∧ i < xs.length := by
  unfold atI at h
  cases e : ixN xs.length i with
  | none => rw [e] at h; cases h
  | some j =>
    rw [e] at h
    obtain ⟨h1, h2, h3, h4⟩ := ixN_seq e
    exact ⟨j, h1, h, h2, h3, h4⟩
theorem atI_nat {α : Type} {xs : List α} {j : Nat} {v : α} (h : xs[j]? = some v) : atI xs (j : Int) = some v := by
  have hj : j < xs.length := (List.getElem?_eq_some_iff.mp h).1
  have e : ixN xs.length (j : Int) = some j := by
    unfold ixN
    rw [if_pos (by omega), if_pos (by omega)]; simp
  unfold atI; rw [e]; exact h

/-! ### what may be subscripted -/
/-- what stands as an index of a plain subscript -/
noncomputable def PlainIx (b : Expr) : Prop := ∀ o i, subscripted b false o i = operate [o, i] (getItem o i)
/-- a subscript by values -/
noncomputable def IxR (X : Cx) (r : R2) : Prop :=
  ∀ (value slice : Expr) (pins : List (Addr × Obj)) (s : Shared) (σ : St) (H : Hp) (x y : V) (v u : Value) (Q : VK), Inv X pins σ H s → RelV x v → RelV y u → r x y H Q →
    subscripted slice false v u = operate [v, u] (getItem v u) → wpAny (model X.prog X.w) X.A (subscriptTail value slice v u) (EP X pins σ Q) X.xe s
/-- a call of a builtin's method by values: the receiver, the arguments -/
noncomputable def MtR (X : Cx) (id : String) (r : V → List V → Hp → VK → Prop) : Prop :=
  ∀ (pins : List (Addr × Obj)) (s : Shared) (σ : St) (H : Hp) (x : V) (xs : List V) (v : Value) (us : List Value) (Q : VK), Inv X pins σ H s → RelV x v → Vals xs us → r x xs H Q →
    wpAny (model X.prog X.w) X.A (call (.builtin id) (v :: us)) (EP X pins σ Q) X.xe s
section
variable {X : Cx} {a b : Expr} {ta tb : TE} {pos : Pos}
/-- a[b] -/
theorem pe_ix {r : R2} (hr : IxR X r) (ha : PE X a ta) (hb : PE X b tb) (hs : PlainIx b) : PE X (.Subscript a b pos) (tOp r ta tb) := by
  intro pins s σ H Q I h
  exact Subscript_ (binT ha hb I h fun v u s2 x y H2 I2 rx ry q => hr a b pins s2 σ H2 x y v u Q I2 rx ry q (hs _ _))

noncomputable def rIxL (K : PySem.W.Frag) : R2 := fun x y H Q => ∃ p xs i v, x = .ref p ∧ y = .int i ∧ SqL K H p xs ∧ atI xs i = some v ∧ Q v H
noncomputable def rIxT (K : PySem.W.Frag) : R2 := fun x y H Q => ∃ p xs i v, x = .ref p ∧ y = .int i ∧ SqT K H p xs ∧ atI xs i = some v ∧ Q v H
theorem ix_list : IxR X (rIxL X.K) := by
  intro value slice pins s σ H x y v u Q I rx ry h hs
  obtain ⟨p, xs, i, z, rfl, rfl, hq, he, q⟩ := h
  cases rx
  obtain ⟨t, rfl⟩ := ry
  obtain ⟨its, r, pl, hz⟩ := I.list hq
  obtain ⟨j, h1, h2, h3, h4, h5⟩ := atI_get he
  obtain ⟨w, ew, rw'⟩ := r.get h2
  have hl := r.length
  have hn := line63
  have fin : EP X pins σ Q w s := ⟨z, H, I, rw', q⟩
  by_cases h0 : 0 ≤ i
  · have hj : i.toNat = j := by
      rw [seqIndex_of h0 h5] at h1
      exact Option.some.inj h1
    exact item_listR pl.isList h0 (by omega) (by rw [hj]; simpa using ew) fin hs
  · have hj : (i + (its.toArray.size : Int)).toNat = j := by
      rw [seqIndex_neg (by omega) h4] at h1
      rw [List.size_toArray, ← hl]
      exact Option.some.inj h1
    exact subscriptTail_builtinR (x := w) pl.isList.typeIs slot_list_getitem.lookup
      (wpAny_getItem_list_neg (Q := fun r s' => r = w ∧ EP X pins σ Q r s') pl.isList (by omega) (by rw [List.size_toArray] <;> omega) (by omega) (by rw [hj]; simpa using ew) ⟨rfl, fin⟩) hs
theorem ix_tup : IxR X (rIxT X.K) := by
  intro value slice pins s σ H x y v u Q I rx ry h hs
  obtain ⟨p, xs, i, z, rfl, rfl, hq, he, q⟩ := h
  cases rx
  obtain ⟨t, rfl⟩ := ry
  obtain ⟨its, r, pl, hz⟩ := I.tuple hq
  obtain ⟨j, h1, h2, h3, h4, h5⟩ := atI_get he
  obtain ⟨w, ew, rw'⟩ := r.get h2
  have hl := r.length
  have hn := line63
  have fin : EP X pins σ Q w s := ⟨z, H, I, rw', q⟩
  exact subscriptTail_builtinR (x := w) pl.typeIs slot_tuple_getitem.lookup
    (getItem_tuple (j := j) (Q := fun r s' => r = w ∧ EP X pins σ Q r s') pl (by omega) (by omega) (by rw [List.size_toArray, ← hl]; exact h1) (by simpa using ew) ⟨rfl, fin⟩) hs

/-! ### xs[i] = v, any sign -/
/-- the list's object behind a store -/
theorem mapSeq_set (its : List Value) (n j : Nat) (u : Value) : Obj.mapSeq (·.setIfInBounds j u) { cls := .type "list", data := .seq its.toArray n } = { cls := .type "list", data := .seq (its.set j u).toArray n } := by
  simp [Obj.mapSeq]
theorem Inv.lst {pins : List (Addr × Obj)} {σ : St} {H : Hp} {s : Shared} {p : Addr} {xs : List V} (I : Inv X pins σ H s) (h : H p = some (.lst xs)) :
    ∃ (its : List Value) (n : Nat), Vals xs its ∧ s.heap.get? p = some { cls := .type "list", data := .seq its.toArray n } ∧ xs.length ≤ sizeLine := by
  obtain ⟨z, its, n, r, e⟩ := I.hok p _ h
  exact ⟨its, n, r, e, z⟩
/-- the list at p is written by an update of its object -/
theorem Inv.lstUpd {pins : List (Addr × Obj)} {σ : St} {H : Hp} {s : Shared} {p : Addr} {xs ys : List V} {its its' : List Value} {n n' : Nat} {f : Obj → Obj} (I : Inv X pins σ H s) (h : H p = some (.lst xs))
    (ho : s.heap.get? p = some { cls := .type "list", data := .seq its.toArray n }) (hf : f { cls := .type "list", data := .seq its.toArray n } = { cls := .type "list", data := .seq its'.toArray n' }) (r : Vals ys its') (hz : ys.length ≤ sizeLine) (t : Nat) :
    Inv X pins σ (upd H p (.lst ys)) { s with heap := s.heap.update p f, toks := t } := by
  have e : (s.heap.update p f).get? p = some { cls := .type "list", data := .seq its'.toArray n' } := by
    rw [Heap.get?_update_self f ho (by rw [hf] <;> rfl), hf]
  refine I.write (x := p) (e := p) (by rw [h]; trivial) (.inl rfl) (fun b u hb q => (Heap.get?_update_other _ _ (Ne.symm hb)).trans q) ⟨_, e⟩ ?_
  exact ⟨hz, its', n', r, e⟩
noncomputable def rSetL : V → V → V → Hp → (Hp → Prop) → Prop := fun o i v H Q => ∃ p xs k j, o = .ref p ∧ i = .int k ∧ H p = some (.lst xs) ∧ ixN xs.length k = some j ∧ Q (upd H p (.lst (xs.set j v)))
theorem set_list : PSet X rSetL := by
  intro pins s σ H o i v ov iv u Q I ro ri rv h
  obtain ⟨p, xs, k, j, rfl, rfl, hp, hj, q⟩ := h
  cases ro
  obtain ⟨t, rfl⟩ := ri
  obtain ⟨its, n, r, ho, hz⟩ := I.lst hp
  obtain ⟨h1, h2, h3, h4⟩ := ixN_seq hj
  have hl := r.length
  have hn := line63
  have I' : Inv X pins σ (upd H p (.lst (xs.set j v))) { s with heap := s.heap.update p (Obj.mapSeq (·.setIfInBounds j u)) } :=
    I.lstUpd hp ho (mapSeq_set its n j u) (r.set rv j) (by rw [List.length_set]; exact hz) s.toks
  by_cases h0 : 0 ≤ k
  · have hk : k.toNat = j := by
      rw [seqIndex_of h0 h4] at h1
      exact Option.some.inj h1
    exact PySem.W.ki_setAt ho h0 (by omega) (by rw [List.size_toArray, ← hl]; exact h4) (by rw [hk]; exact ⟨_, I', q⟩)
  · have hk : (k + (its.toArray.size : Int)).toNat = j := by
      rw [seqIndex_neg (by omega) h3] at h1
      rw [List.size_toArray, ← hl]
      exact Option.some.inj h1
    exact PySem.W.ki_setBack ho (by omega) (by rw [List.size_toArray, ← hl]; exact h3) (by omega) (by rw [hk]; exact ⟨_, I', q⟩)

/-! ### slices -/
theorem slice_bounds (lo hi : Option Int) (n : Nat) : (sliceBounds lo hi none n).1 = ((HT.sIx n 0 lo : Nat) : Int) ∧ (sliceBounds lo hi none n).2.1 = ((HT.sIx n n hi : Nat) : Int) ∧ (sliceBounds lo hi none n).2.2 = 1 := by
  refine ⟨?_, ?_, rfl⟩
  · cases lo with
    | none => simp [sliceBounds, HT.sIx]
    | some i =>
      simp only [sliceBounds, HT.sIx, Option.getD_none, show (1 : Int) > 0 by decide, if_true]
      by_cases h : i < 0
      · simp only [h, if_true] <;> omega
      · simp only [h, if_false] <;> omega
  · cases hi with
    | none => simp [sliceBounds, HT.sIx]
    | some i =>
      simp only [sliceBounds, HT.sIx, Option.getD_none, show (1 : Int) > 0 by decide, if_true]
      by_cases h : i < 0
      · simp only [h, if_true] <;> omega
      · simp only [h, if_false] <;> omega
theorem slicePick_cut (its : List Value) (lo hi : Option Int) : slicePick its.toArray lo hi none = ((its.drop (HT.sIx its.length 0 lo)).take (HT.sIx its.length its.length hi - HT.sIx its.length 0 lo)).toArray := by
  obtain ⟨h1, h2, h3⟩ := slice_bounds lo hi its.toArray.size
  unfold slicePick
  rw [h1, h2, h3]
  simp only [sliceRange_one, pick_run, List.size_toArray] <;> rfl
/-- xs[lo:hi] of a list: a new list -/
noncomputable def rSlL (K : PySem.W.Frag) : V → Option Int → Option Int → Hp → VK → Prop := fun x lo hi H Q => ∃ a xs, x = .ref a ∧ SqL K H a xs ∧ ∀ p, H p = none → Q (.ref p) (upd H p (.lst (cutV xs lo hi)))
theorem sl_list : SlR X (rSlL X.K) := by
  intro pins s σ H x v vl vu lo hi sl Q I rx hs pl pu h
  obtain ⟨a, xs, rfl, hx, q⟩ := h
  cases rx
  obtain ⟨its, r, ht, hz⟩ := I.list hx
  have hlen := r.length
  refine ⟨"list", _, slot_list_getitem.lookup, ht.isList.typeIs, ?_⟩
  refine wpAny_getItem_list_slice ht.isList hs pl pu .none (by simp) ?_ (by rw [List.size_toArray] <;> omega)
  rw [slicePick_cut, ← hlen]
  refine ⟨.ref s.heap.objs.size, _, I.laid (t' := s.toks) (o := .lst (cutV xs lo hi)) (fun b ob q => Heap.get?_push_of_some _ q) (Nat.le_refl _) ?_, rfl, q _ (I.hok.fresh (Nat.le_refl _))⟩
  exact ⟨Nat.le_trans (cutV_length xs lo hi) hz, _, 0, (r.drop (HT.sIx xs.length 0 lo)).take (HT.sIx xs.length xs.length hi - HT.sIx xs.length 0 lo), Heap.get?_push_size _ rfl⟩

/-! ### in, not in: flat items -/
noncomputable def flatV : V → Bool
  | .non => true
  | .bl _ => true
  | .int _ => true
  | .str _ => true
  | _ => false
/-- == of flat values -/
noncomputable def eqV : V → V → Bool
  | .non, .non => true
  | .bl a, .bl b => a == b
  | .bl a, .int b => (if a then 1 else 0) == b
  | .int a, .bl b => a == (if b then 1 else 0)
  | .int a, .int b => a == b
  | .str a, .str b => a == b
  | _, _ => false
theorem eqAt_V {A : Around} {s : Shared} {y x : V} {u v : Value} (ry : RelV y u) (rx : RelV x v) (fy : flatV y = true) (fx : flatV x = true) : SeqAt.EqAt A s u v (eqV y x) := by
  cases y with
  | non =>
    cases ry
    cases x with
    | non => cases rx; exact SeqAt.EqAt.same _
    | bl b => cases rx; exact SeqAt.EqAt.none_bool b
    | int b => obtain ⟨t, rfl⟩ := rx; exact SeqAt.EqAt.none_int b t
    | str b => obtain ⟨t, rfl⟩ := rx; exact SeqAt.EqAt.none_str b t
    | _ => exact absurd (show false = true from fx) Bool.false_ne_true
  | bl a =>
    cases ry
    cases x with
    | non => cases rx; exact SeqAt.EqAt.bool_none a
    | bl b => cases rx; exact SeqAt.EqAt.bool_bool a b
    | int b => obtain ⟨t, rfl⟩ := rx; exact SeqAt.EqAt.bool_int a b t
    | str b => obtain ⟨t, rfl⟩ := rx; exact SeqAt.EqAt.bool_str a b t
    | _ => exact absurd (show false = true from fx) Bool.false_ne_true
  | int a =>
    obtain ⟨t', rfl⟩ := ry
    cases x with
    | non => cases rx; exact SeqAt.EqAt.int_none a t'
    | bl b => cases rx; exact SeqAt.EqAt.int_bool a t' b
    | int b => obtain ⟨t, rfl⟩ := rx; exact SeqAt.EqAt.int_int a t' b t
    | str b => obtain ⟨t, rfl⟩ := rx; exact SeqAt.EqAt.int_str a t' b t
    | _ => exact absurd (show false = true from fx) Bool.false_ne_true
  | str a =>
    obtain ⟨t', rfl⟩ := ry
    cases x with
    | non => cases rx; exact SeqAt.EqAt.str_none a t'
    | bl b => cases rx; exact SeqAt.EqAt.str_bool a t' b
    | int b => obtain ⟨t, rfl⟩ := rx; exact SeqAt.EqAt.str_int a t' b t
    | str b => obtain ⟨t, rfl⟩ := rx; exact SeqAt.EqAt.str_str a t' b t
    | _ => exact absurd (show false = true from fx) Bool.false_ne_true
  | _ => exact absurd (show false = true from fy) Bool.false_ne_true
/-- the items' answers, read off the values (a value's own answer does not lean on its token) -/
noncomputable def eqU (x : V) (u : Value) : Bool := match u with
  | .none => eqV .non x
  | .bool b => eqV (.bl b) x
  | .int i _ => eqV (.int i) x
  | .str z _ => eqV (.str z) x
  | _ => false
theorem eqU_of {x y : V} {u : Value} (r : RelV y u) (f : flatV y = true) : eqU x u = eqV y x := by
  cases y with
  | non => cases r; rfl
  | bl b => cases r; rfl
  | int i => obtain ⟨t, rfl⟩ := r; rfl
  | str z => obtain ⟨t, rfl⟩ := r; rfl
  | _ => exact absurd (show false = true from f) Bool.false_ne_true
theorem any_eqU {x : V} : ∀ {xs : List V} {us : List Value}, Vals xs us → xs.all flatV = true → us.any (eqU x) = xs.any fun y => eqV y x
  | _, _, .nil, _ => rfl
  | y :: xs, u :: us, .cons r t, f => by
    rw [List.all_cons, Bool.and_eq_true] at f
    rw [List.any_cons, List.any_cons, eqU_of r f.1, any_eqU t f.2]
theorem mem_eqAt {A : Around} {s : Shared} {x : V} {v : Value} (rx : RelV x v) (fx : flatV x = true) : ∀ {xs : List V} {us : List Value}, Vals xs us → xs.all flatV = true → ∀ u ∈ us, SeqAt.EqAt A s u v (eqU x u)
  | _, _, .nil, _ => fun u hu => by cases hu
  | y :: xs, u :: us, .cons r t, f => fun u' hu => by
    rw [List.all_cons, Bool.and_eq_true] at f
    rcases List.mem_cons.mp hu with rfl | hu
    · rw [eqU_of r f.1]; exact eqAt_V r rx f.1 fx
    · exact mem_eqAt rx fx t f.2 u' hu
noncomputable def inV (x : V) (xs : List V) : Bool := xs.any fun y => eqV y x
/-- x in a list or tuple of flat items -/
noncomputable def rIn (K : PySem.W.Frag) (neg : Bool) : R2 := fun x y H Q => ∃ p xs, y = .ref p ∧ (SqL K H p xs ∨ SqT K H p xs) ∧ flatV x = true ∧ xs.all flatV = true ∧ Q (.bl (if neg then !inV x xs else inV x xs)) H
theorem op_in_seq : OpR X (compareOp .In) (rIn X.K false) := by
  intro pins s σ H x y v u Q I rx ry h
  obtain ⟨p, xs, rfl, hq, fx, fs, q⟩ := h
  cases ry
  rcases hq with hq | hq
  · obtain ⟨its, r, pl, hz⟩ := I.list hq
    refine SeqAt.in_listAt (eqU x) pl.isList (fun w hw => mem_eqAt rx fx r fs w (by simpa using hw)) ⟨.bl _, H, I, rfl, ?_⟩
    rw [show its.toArray.any (eqU x) = its.any (eqU x) by simp, any_eqU r fs]
    exact q
  · obtain ⟨its, r, pl, hz⟩ := I.tuple hq
    refine SeqAt.in_tupleAt (eqU x) pl (fun w hw => mem_eqAt rx fx r fs w (by simpa using hw)) ⟨.bl _, H, I, rfl, ?_⟩
    rw [show its.toArray.any (eqU x) = its.any (eqU x) by simp, any_eqU r fs]
    exact q
theorem op_notIn_seq : OpR X (compareOp .NotIn) (rIn X.K true) := by
  intro pins s σ H x y v u Q I rx ry h
  obtain ⟨p, xs, rfl, hq, fx, fs, q⟩ := h
  cases ry
  rcases hq with hq | hq
  · obtain ⟨its, r, pl, hz⟩ := I.list hq
    refine SeqAt.notIn_listAt (eqU x) pl.isList (fun w hw => mem_eqAt rx fx r fs w (by simpa using hw)) ⟨.bl _, H, I, rfl, ?_⟩
    rw [show its.toArray.any (eqU x) = its.any (eqU x) by simp, any_eqU r fs]
    exact q
  · obtain ⟨its, r, pl, hz⟩ := I.tuple hq
    refine SeqAt.notIn_tupleAt (eqU x) pl (fun w hw => mem_eqAt rx fx r fs w (by simpa using hw)) ⟨.bl _, H, I, rfl, ?_⟩
    rw [show its.toArray.any (eqU x) = its.any (eqU x) by simp, any_eqU r fs]
    exact q

/-! ### len, list(x), tuple(x) of any list or tuple that is read -/
theorem call_len_seq : CallR X (.builtin "len") (fun xs H Q => ∃ p ys, xs = [.ref p] ∧ (SqL X.K H p ys ∨ SqT X.K H p ys) ∧ Q (.int ys.length) H) := by
  intro pins s σ H xs us Q I r h
  obtain ⟨p, ys, rfl, hq, q⟩ := h
  obtain ⟨u, rfl, rx⟩ := vals1 r
  cases rx
  have hn := line63
  rcases hq with hq | hq
  · obtain ⟨its, r', pl, hz⟩ := I.list hq
    have hlen := r'.length
    exact Calls.call_len_list pl.isList (by simp only [List.size_toArray] <;> omega) ⟨.int ys.length, H, I.tok _, ⟨s.toks + 1, by rw [List.size_toArray, hlen]⟩, q⟩
  · obtain ⟨its, r', pl, hz⟩ := I.tuple hq
    have hlen := r'.length
    exact len_tuple pl (by simp only [List.size_toArray] <;> omega) ⟨.int ys.length, H, I.tok _, ⟨s.toks + 1, by rw [List.size_toArray, hlen]⟩, q⟩
theorem call_list_of : CallR X (.type "list") (fun xs H Q => ∃ p ys, xs = [.ref p] ∧ (SqL X.K H p ys ∨ SqT X.K H p ys) ∧ ∀ l, H l = none → Q (.ref l) (upd H l (.lst ys))) := by
  intro pins s σ H xs us Q I r h
  obtain ⟨p, ys, rfl, hq, q⟩ := h
  obtain ⟨u, rfl, rx⟩ := vals1 r
  cases rx
  have fin : ∀ (its : List Value), Vals ys its → ys.length ≤ sizeLine → ∀ (h' : Heap) (c' : Nat), (∀ b o', s.heap.get? b = some o' → h'.get? b = some o') →
      h'.get? s.heap.objs.size = some { cls := .type "list", dict := none, data := .seq its.toArray c', slots := #[] } → EP X pins σ Q (.ref s.heap.objs.size) { s with heap := h' } := fun its r' hz h' c' kp e =>
    ⟨.ref s.heap.objs.size, _, I.laid (t' := s.toks) kp (Nat.le_refl _) (show ObjOk X.prog X.w _ h' _ (.lst ys) from ⟨hz, its, c', r', e⟩), rfl, q _ (I.hok.fresh (Nat.le_refl _))⟩
  rcases hq with hq | hq
  · obtain ⟨its, r', pl, hz⟩ := I.list hq
    have hlen := r'.length
    obtain ⟨o, ho, hc, n, hd⟩ := pl.isList
    exact call_list_seq p (.inl rfl) ho hc hd (fun h' c' kp e => fin its r' hz h' c' kp e) (by simp only [List.size_toArray] <;> omega)
  · obtain ⟨its, r', pl, hz⟩ := I.tuple hq
    have hlen := r'.length
    obtain ⟨o, ho, hc, n, hd⟩ := pl
    exact call_list_seq p (.inr rfl) ho hc hd (fun h' c' kp e => fin its r' hz h' c' kp e) (by simp only [List.size_toArray] <;> omega)
theorem call_tuple_of : CallR X (.type "tuple") (fun xs H Q => ∃ p ys, xs = [.ref p] ∧ ((SqL X.K H p ys ∧ ∀ l, H l = none → Q (.ref l) (upd H l (.tup ys))) ∨ (SqT X.K H p ys ∧ Q (.ref p) H))) := by
  intro pins s σ H xs us Q I r h
  obtain ⟨p, ys, rfl, h⟩ := h
  obtain ⟨u, rfl, rx⟩ := vals1 r
  cases rx
  rcases h with ⟨hq, q⟩ | ⟨hq, q⟩
  · obtain ⟨its, r', pl, hz⟩ := I.list hq
    have hlen := r'.length
    refine call_tuple_list pl.isList (fun h' kp => ?_) (by simp only [List.size_toArray] <;> omega)
    have I1 : Inv X pins σ H { s with heap := h' } := I.kept (t' := s.toks) kp
    have I2 : Inv X pins σ (upd H h'.objs.size (.tup ys)) { s with heap := h'.push { cls := .type "tuple", data := .seq its.toArray } } :=
      I1.laid (t' := s.toks) (fun b o e => Heap.get?_push_of_some _ e) (Nat.le_refl _) (show ObjOk X.prog X.w _ _ _ (.tup ys) from ⟨hz, its, r', IsTup.new _ _⟩)
    exact ⟨.ref h'.objs.size, _, I2, rfl, q _ (I1.hok.fresh (Nat.le_refl _))⟩
  · obtain ⟨its, r', pl, hz⟩ := I.tuple hq
    exact call_tuple_same pl ⟨.ref p, H, I, rfl, q⟩

/-! ### the call of a builtin's method: o.m(..) -/
/-- the value is of that builtin type -/
noncomputable def tyV (K : PySem.W.Frag) (T : String) (x : V) (H : Hp) : Prop := match x with
  | .str _ => T = "str"
  | .int _ => T = "int"
  | .ref p => (T = "list" ∧ ∃ xs, SqL K H p xs) ∨ (T = "tuple" ∧ ∃ o, K.lookup p = some o ∧ o.cls = .type "tuple" ∧ o.dict = none) ∨
      (T = "dict" ∧ ((∃ kvs, H p = some (.dK kvs)) ∨ ∃ kvs, H p = some (.dT kvs))) ∨ (T = "set" ∧ ∃ S n, H p = some (.set S n))
  | _ => False
theorem tyV_is {pins : List (Addr × Obj)} {σ : St} {H : Hp} {s : Shared} {T : String} {x : V} {v : Value} (I : Inv X pins σ H s) (r : RelV x v) (ty : tyV X.K T x H) :
    s.TypeIs v T ∧ ∀ a, v = .ref a → ∃ ob, s.heap.get? a = some ob ∧ ob.dict = none := by
  cases x with
  | str z =>
    obtain ⟨t, rfl⟩ := r
    cases (show T = "str" from ty)
    exact ⟨typeIs_str s z t, fun _ e => nomatch e⟩
  | int i =>
    obtain ⟨t, rfl⟩ := r
    cases (show T = "int" from ty)
    exact ⟨typeIs_int s i t, fun _ e => nomatch e⟩
  | ref p =>
    cases r
    rcases ty with ⟨rfl, xs, hq⟩ | ⟨rfl, o, hk, hc, hd⟩ | ⟨rfl, hk⟩ | ⟨rfl, S, n, hk⟩
    · obtain ⟨its, _, pl, _⟩ := I.list hq
      refine ⟨pl.isList.typeIs, fun a e => ?_⟩
      cases e
      obtain ⟨o, n, e, c, hd, _⟩ := pl
      exact ⟨o, e, hd⟩
    · refine ⟨⟨o, I.kIn p o hk, hc⟩, fun a e => ?_⟩
      cases e
      exact ⟨o, I.kIn _ o hk, hd⟩
    · have z : ∃ o, s.heap.get? p = some o ∧ o.ExactDict := by
        rcases hk with ⟨kvs, hk⟩ | ⟨kvs, hk⟩
        · obtain ⟨_, _, _, _, o, _, _, e, ex, _⟩ := I.hok p _ hk
          exact ⟨o, e, ex⟩
        · obtain ⟨_, _, _, _, o, _, _, e, ex, _⟩ := I.hok p _ hk
          exact ⟨o, e, ex⟩
      obtain ⟨o, e, ex⟩ := z
      refine ⟨⟨o, e, ex.1⟩, fun a e2 => ?_⟩
      cases e2
      exact ⟨o, e, ex.2.1⟩
    · obtain ⟨o, _, _, _, e, ex, _⟩ := I.hok p _ hk
      refine ⟨⟨o, e, ex.1⟩, fun a e2 => ?_⟩
      cases e2
      exact ⟨o, e, ex.2.1⟩
  | _ => exact False.elim ty
noncomputable def tBM (K : PySem.W.Frag) (T : String) (r : V → List V → Hp → VK → Prop) (to : TE) (t : TA) : TE := fun σ H Q => to σ H fun x H1 => tyV K T x H1 ∧ t σ H1 fun xs H2 => r x xs H2 Q
variable {o e : Expr} {es : List Expr} {to : TE} {t : TA} {name : Str} {apos cpos : Pos} {T id : String} {r : V → List V → Hp → VK → Prop}
theorem pe_bm (pa : PlainAttrs T) (slot : Slot T name id) (hty : typeOf (.builtin id) = pure (.type "method_descriptor")) (hm : MtR X id r) (ho : PE X o to) (ha : PA X (e :: es) t)
    (hbase : attributeBase o name X.env (eval o X.env) = eval o X.env := by rfl)
    (hfew : ((backTo cpos (starEach (e :: es) X.env)).all (fun x => !x.1) && (backToKw cpos (keywordEach [] X.env)).all (fun x => x.1.isSome)
      && decide ((e :: es).length + ([] : List Keyword).length + (if ([] : List Keyword).isEmpty then 0 else 1) < 30)) = true := by rfl)
    (hline : (apos.endLine == cpos.line) = true := by rfl) (hs : starEach (e :: es) X.env = (false, eval e X.env) :: starEach es X.env := by rfl) (hplain : (backTo cpos (starEach es X.env)).any (·.1) = false := by rfl) :
    PE X (.Call (.Attribute o name apos) (e :: es) [] cpos) (tBM X.K T r to t) := by
  intro pins s σ H Q I h
  refine wpAny_Call_method_late hbase hfew hline rfl (thn (ho pins s σ H _ I h) fun v s1 zz => ?_)
  obtain ⟨x, H1, I1, r1, ty, q1⟩ := zz
  obtain ⟨h1, h2⟩ := tyV_is I1 r1 ty
  refine ⟨T, id, pa, slot, hty, h1, h2, ?_⟩
  have hA := ha cpos pins s1 σ H1 _ I1 q1
  rw [hs] at hA ⊢
  refine Calls.callWith_builtin (by show (false || (backTo cpos (starEach es X.env)).any (·.1)) = false; rw [hplain] <;> rfl) (Calls.evalArgs_plain ?_)
  exact thn hA fun us s2 ⟨vs, H2, I2, r2, q2⟩ => hm pins s2 σ H2 x vs v us Q I2 r1 r2 q2
/- xs.append(e), list.index on a module's tuple .. are MtR facts of 06m -/
end
end L2

namespace L2
open PySem PySem.Spec PyProof.Rows

noncomputable def MtM (X : Cx) (id : String) (r : V → List V → Hp → VK → Prop) : Prop :=
  ∀ (pins : List (Addr × Obj)) (s : Shared) (σ : St) (H : Hp) (x : V) (xs : List V) (v : Value) (us : List Value) (Q : VK), Inv X pins σ H s → RelV x v → Vals xs us → r x xs H Q →
    wpAny (model X.prog X.w) X.A (call (.builtin id) (v :: us)) (EP X pins σ Q) X.xe s

/-! ### lists of values -/
theorem Vals.one {x : V} {us : List Value} (h : Vals [x] us) : ∃ u, us = [u] ∧ RelV x u := by
  cases h with | cons r h => cases h with | nil => exact ⟨_, rfl, r⟩
theorem Vals.two {x y : V} {us : List Value} (h : Vals [x, y] us) : ∃ u v, us = [u, v] ∧ RelV x u ∧ RelV y v := by
  cases h with | cons r h => cases h with | cons q h => cases h with | nil => exact ⟨_, _, rfl, r, q⟩

section
variable {X : Cx} {pins : List (Addr × Obj)} {σ : St} {H : Hp} {s : Shared} {l b : Addr} {xs ys zs : List V}

/-! ### the two steps: a tracked list is rewritten, a new list is laid -/
theorem Inv.lset {its its' : List Value} {n : Nat} {f : Array Value → Array Value} {t' : Nat} (I : Inv X pins σ H s) (hH : H l = some (.lst xs))
    (e : s.heap.get? l = some { cls := .type "list", data := .seq its.toArray n }) (hf : f its.toArray = its'.toArray) (hv : Vals ys its') (hz : ys.length ≤ sizeLine) :
    Inv X pins σ (upd H l (.lst ys)) { s with heap := s.heap.update l (Obj.mapSeq f), toks := t' } := by
  have q := PySem.IsL.update e f
  rw [hf] at q
  refine I.write (x := l) (e := l) (by rw [hH]; exact trivial) (.inl rfl) (fun b' u hb hu => (Heap.get?_update_other s.heap (Obj.mapSeq f) (Ne.symm hb)).trans hu) ⟨_, q⟩ ?_
  exact ⟨hz, its', _, hv, q⟩
theorem Inv.lnew {its : List Value} {t' : Nat} (I : Inv X pins σ H s) (hv : Vals ys its) (hz : ys.length ≤ sizeLine) :
    Inv X pins σ (upd H s.heap.objs.size (.lst ys)) { s with heap := s.heap.push { cls := .type "list", data := .seq its.toArray }, toks := t' } :=
  I.laid (fun _ _ q => Heap.get?_push_of_some _ q) (Nat.le_refl _) ⟨hz, its, 0, hv, Heap.get?_push_size _ rfl⟩
theorem Inv.fresh (I : Inv X pins σ H s) : H s.heap.objs.size = none := I.hok.fresh (Nat.le_refl _)
theorem Inv.lstM (I : Inv X pins σ H s) (hH : H l = some (.lst xs)) : xs.length ≤ sizeLine ∧ ∃ (its : List Value) (n : Nat), Vals xs its ∧ xs.length = its.length ∧ s.heap.get? l = some { cls := .type "list", data := .seq its.toArray n } := by
  obtain ⟨z, its, n, r, e⟩ := I.hok l _ hH
  exact ⟨z, its, n, r, r.length, e⟩

end

section
variable {X : Cx}

/-! ### methods -/
noncomputable def rAppend : V → List V → Hp → VK → Prop := fun x vs H Q => ∃ l xs y, x = .ref l ∧ vs = [y] ∧ H l = some (.lst xs) ∧ xs.length < sizeLine ∧ Q .non (upd H l (.lst (xs ++ [y])))
theorem mt_append : MtM X "list.append" rAppend := by
  intro pins s σ H x vs v us Q I rx rv h
  obtain ⟨l, xs, y, rfl, rfl, hH, hz, q⟩ := h
  cases rx
  obtain ⟨u, rfl, ru⟩ := rv.one
  obtain ⟨z, its, n, r, hl, e⟩ := I.lstM hH
  refine call_meets F.slot_list_append ⟨_, e, rfl⟩ F.entry_list_append (F.args_list_append_2 _ _) (PySem.list_append l its.toArray n u (by rw [List.size_toArray]; omega)) ⟨e, ?_⟩
  refine ⟨.non, _, I.lset (its' := its ++ [u]) hH e (by simp) (r.append (.cons ru .nil)) ?_, rfl, q⟩
  rw [List.length_append, List.length_singleton]
  omega






/-! ### list + list, list += list, list * int -/
noncomputable def rCat : R2 := fun x y H Q => ∃ l b xs zs, x = .ref l ∧ y = .ref b ∧ H l = some (.lst xs) ∧ H b = some (.lst zs) ∧ xs.length + zs.length ≤ sizeLine ∧ ∀ p, H p = none → Q (.ref p) (upd H p (.lst (xs ++ zs)))
theorem op_cat : OpR X (binaryOp .Add) rCat := by
  intro pins s σ H x y v u Q I rx ry h
  obtain ⟨l, b, xs, zs, rfl, rfl, hH, hB, hz, q⟩ := h
  cases rx
  cases ry
  obtain ⟨z, its, n, r, hl, e⟩ := I.lstM hH
  obtain ⟨z2, its2, n2, r2, hl2, e2⟩ := I.lstM hB
  refine PySem.P.add_list e e2 ?_ (by rw [List.size_toArray, List.size_toArray]; omega)
  have ea : its.toArray ++ its2.toArray = (its ++ its2).toArray := by simp
  rw [ea]
  exact ⟨.ref _, _, I.lnew (t' := s.toks) (r.append r2) (by rw [List.length_append]; omega), rfl, q _ I.fresh⟩

/-! ### del xs[i] -/
end

/-! ### xs[a:b] = ys -/
section
variable {prog : Program} {w : World} {A : Around} {E : Value → Shared → Prop} {s : Shared}
set_option maxRecDepth 100000 in
end

section
variable {X : Cx}
end
end L2


namespace L2
open PySem PySem.Spec PyProof.Rows

/-! ### lists of pairs as tables -/
section
variable {κ : Type} [DecidableEq κ]
noncomputable def valV (kvs : List (κ × V)) (k : κ) : Option V := (kvs.find? fun kv => decide (kv.1 = k)).map (·.2)

theorem valV_pos {p : κ × V} {r : List (κ × V)} {k : κ} (e : p.1 = k) : valV (p :: r) k = some p.2 := by simp [valV, List.find?_cons, e]
theorem valV_neg {p : κ × V} {r : List (κ × V)} {k : κ} (e : ¬ p.1 = k) : valV (p :: r) k = valV r k := by simp [valV, List.find?_cons, e]

theorem RelO.getD {o : Option V} {u : Option Value} {d : V} {d' : Value} (r : RelO o u) (rd : RelV d d') : RelV (o.getD d) (u.getD d') := by
  cases o with
  | none => cases u with
    | none => exact rd
    | some _ => exact (show False from r).elim
  | some _ => cases u with
    | none => exact (show False from r).elim
    | some _ => exact r

/-- raw tables of the same keys -/
theorem KV.val {kvs : List (κ × V)} {vs : List (κ × Value)} (r : KV kvs vs) (k : κ) : RelO (valV kvs k) (valueAt vs k) := by
  unfold KV at r
  induction r with
  | nil => exact True.intro
  | @cons p q ps qs h t ih =>
    obtain ⟨h1, h2⟩ := h
    by_cases e : p.1 = k
    · have e' : q.1 = k := h1.symm.trans e
      have b : valueAt (q :: qs) k = some q.2 := by simp [valueAt, List.find?_cons, e']
      rw [valV_pos e, b]; exact h2
    · have e' : ¬ q.1 = k := fun z => e (h1.trans z)
      have b : valueAt (q :: qs) k = valueAt qs k := by simp [valueAt, List.find?_cons, e']
      rw [valV_neg e, b]; exact ih
end


/-! ### a tracked dict, its keys ints and texts or tuples of these -/
theorem kV_is {P : Program} {w : World} {k : Key} {u : Value} (r : RelV (kV k) u) : (mixKind P w).is k u = true := by
  cases k with
  | inl i => obtain ⟨t, e⟩ := (show ∃ t, u = Value.int i t from r); subst e; exact mixKind_int P w i t
  | inr x => obtain ⟨t, e⟩ := (show ∃ t, u = Value.str x t from r); subst e; exact mixKind_str P w x t
theorem items_are {P : Program} {w : World} : ∀ {ks : List Key} {us : List Value}, Vals (ks.map kV) us → ItemsAre (mixKind P w) ks us
  | [], _, r => by rw [List.map_nil] at r; cases r; exact .nil
  | k :: ks, _, r => by
    rw [List.map_cons] at r
    cases r with
    | cons h t => exact .cons (kV_is h) (items_are t)

/-- raw entries of a dict with tuple keys -/
noncomputable abbrev KT (H : Hp) : List (List Key × V) → List (List Key × Addr × Value) → Prop := Paired fun p q => p.1 = q.1 ∧ H q.2.1 = some (.tup (p.1.map kV)) ∧ RelV p.2 q.2.2
theorem KT.val {H : Hp} {kvs : List (List Key × V)} {xs : List (List Key × Addr × Value)} (r : KT H kvs xs) (k : List Key) : RelO (valV kvs k) ((atKey xs k).map (·.2)) := by
  induction r with
  | nil => exact True.intro
  | @cons p q ps qs h t ih =>
    obtain ⟨h1, _, h2⟩ := h
    by_cases e : p.1 = k
    · have e' : q.1 = k := h1.symm.trans e
      have b : atKey (q :: qs) k = some q.2 := by simp [atKey, List.find?_cons, e']
      rw [valV_pos e, b]; exact h2
    · have e' : ¬ q.1 = k := fun z => e (h1.trans z)
      have b : atKey (q :: qs) k = atKey qs k := by simp [atKey, List.find?_cons, e']
      rw [valV_neg e, b]; exact ih

section
variable {P : Program} {w : World} {H : Hp} {h : Heap} {a : Addr}
theorem rd_of {u : HO} (ok : HOk P w H h) (e : Rd H a u) : ObjOk P w H h a u := e.ok ok
theorem dk_rd {kvs : List (Key × V)} (ok : HOk P w H h) (e : Rd H a (.dK kvs)) : kvs.length ≤ sizeLine ∧ (a == sysModules) = false ∧ ∃ vs, KV kvs vs ∧ h.DictOf (mixKind P w) a vs :=
  show ObjOk P w H h a (.dK kvs) from rd_of ok e
theorem dk_of {kvs : List (Key × V)} (ok : HOk P w H h) (e : H a = some (.dK kvs)) : kvs.length ≤ sizeLine ∧ (a == sysModules) = false ∧ ∃ vs, KV kvs vs ∧ h.DictOf (mixKind P w) a vs := dk_rd ok (.inl e)
/-- a tracked tuple of ints and texts is a key -/
theorem key_of {ks : List Key} (ok : HOk P w H h) (e : H a = some (.tup (ks.map kV))) : (tupleKind (mixKind P w)).is h ks a := by
  obtain ⟨_, its, r, o, h1, h2, n, h3⟩ := (show ObjOk P w H h a (.tup (ks.map kV)) from ok a _ e)
  exact ⟨o, its.toArray, n, h1, h2, h3, by simpa using items_are r⟩
theorem dt_rd {kvs : List (List Key × V)} (ok : HOk P w H h) (e : Rd H a (.dT kvs)) : kvs.length ≤ sizeLine ∧ (a == sysModules) = false ∧
    ∃ xs, KT H kvs xs ∧ h.DictOfH (tupleKind (mixKind P w)) a xs := by
  obtain ⟨z, y, xs, r, o, es, ep, h1, h2, h3, h4, h5⟩ := (show ObjOk P w H h a (.dT kvs) from rd_of ok e)
  refine ⟨z, y, xs, r, o, es, ep, h1, h2, h3, h4, fun x hx => ?_, h5⟩
  have all : ∀ {l : List (List Key × V)} {m : List (List Key × Addr × Value)}, KT H l m → ∀ x ∈ m, (tupleKind (mixKind P w)).is h x.1 x.2.1 := by
    intro l m q
    induction q with
    | nil => intro x hx; exact nomatch hx
    | @cons p q ps qs hq t ih =>
      intro x hx
      rcases List.mem_cons.mp hx with e | hx
      · subst e
        exact key_of ok (by rw [← hq.1]; exact hq.2.1)
      · exact ih x hx
  exact all r x hx
end

/-- what the dict at a holds at the key y -/
noncomputable def DGet (H : Hp) (a : Addr) (y : V) (r : Option V) : Prop :=
  (∃ kvs k, Rd H a (.dK kvs) ∧ y = kV k ∧ r = valV kvs k) ∨ ∃ kvs k b, Rd H a (.dT kvs) ∧ y = .ref b ∧ H b = some (.tup (k.map kV)) ∧ r = valV kvs k
theorem DGet.k {H : Hp} {a : Addr} {kvs : List (Key × V)} {k : Key} (e : H a = some (.dK kvs)) : DGet H a (kV k) (valV kvs k) := .inl ⟨kvs, k, .inl e, rfl, rfl⟩


section
variable {X : Cx} {pins : List (Addr × Obj)} {σ : St} {H : Hp} {s : Shared} {a : Addr} {y v : V} {u r : Value} {o : Option V} {A : Around} {E : Value → Shared → Prop}

theorem Inv.big (I : Inv X pins σ H s) : sysModules < s.heap.objs.size := by
  have h : mainGlobals < s.heap.objs.size := (I.mod.glob.keeps I.bk).lt
  exact Nat.lt_trans (by decide) h

theorem dk_new {P : Program} {w : World} {H' : Hp} {h' : Heap} {kvs : List (Key × V)} {vs : List (Key × Value)} (z : kvs.length ≤ sizeLine) (hd : (a == sysModules) = false) (rel : KV kvs vs) (dd : h'.DictOf (mixKind P w) a vs) :
    ObjOk P w H' h' a (.dK kvs) := ⟨z, hd, vs, rel, dd⟩
end

section
variable {X : Cx} {pins : List (Addr × Obj)} {σ : St} {H : Hp} {s : Shared} {a : Addr} {kvs : List (Key × V)} {k : Key} {u : Value} {A : Around} {E : Value → Shared → Prop}
end


/-! ### readings and rules -/



section
variable {X : Cx} {o i e value : Expr} {pos pos' tpos : Pos} {td ty tv : TE}
end


/-! ### displays -/
theorem dk_empty {P : Program} {w : World} {H : Hp} (h : Heap) (hb : sysModules < h.objs.size) : ObjOk P w H (h.push { cls := .type "dict", data := .dict #[] }) h.objs.size (.dK []) :=
  ⟨Nat.zero_le _, beq_eq_false_iff_ne.mpr (Ne.symm (Nat.ne_of_lt hb)), [], .nil, Heap.DictOf.new h⟩
/-- {}, to be a dict of the kind that is wanted -/
noncomputable def tDNewK : TE := fun _ H Q => ∀ p, H p = none → Q (.ref p) (upd H p (.dK []))
section
variable {X : Cx} {pos : Pos}
theorem pe_dnewK : PE X (.Dict [] [] pos) tDNewK := fun pins s σ H Q I h =>
  wpAny_Dict_empty ⟨.ref s.heap.objs.size, _, I.laid (a := s.heap.objs.size) (o := .dK []) (t' := s.toks) (fun _ _ q => Heap.get?_push_of_some _ q) (Nat.le_refl _) (dk_empty s.heap I.big), rfl, h _ (I.hok.fresh (Nat.le_refl _))⟩
end




/-! ### methods -/
structure M2 (X : Cx) (o : Expr) (m : Str) (apos : Pos) (e f : Expr) (cpos : Pos) : Prop where
  base : attributeBase o m X.env (eval o X.env) = eval o X.env
  few : ((backTo cpos (starEach [e, f] X.env)).all (fun x => !x.1) && (backToKw cpos (keywordEach [] X.env)).all (fun x => x.1.isSome)
    && decide (([e, f] : List Expr).length + ([] : List Keyword).length + (if ([] : List Keyword).isEmpty then 0 else 1) < 30)) = true
  line : (apos.endLine == cpos.line) = true
  trees : backTo cpos (starEach [e, f] X.env) = [(false, eval e X.env), (false, eval f X.env)]

/-- a is a dict, whatever its keys -/
noncomputable def IsD (H : Hp) (a : Addr) : Prop := (∃ kvs, Rd H a (.dK kvs)) ∨ ∃ kvs, Rd H a (.dT kvs)
theorem isD_at {X : Cx} {pins : List (Addr × Obj)} {σ : St} {H : Hp} {s : Shared} {a : Addr} (I : Inv X pins σ H s) (d : IsD H a) :
    s.TypeIs (.ref a) "dict" ∧ (∀ b, Value.ref a = .ref b → ∃ ob, s.heap.get? b = some ob ∧ ob.dict = none) ∧ (a == sysModules) = false := by
  rcases d with ⟨kvs, e⟩ | ⟨kvs, e⟩
  · obtain ⟨_, hd, vs, _, dd⟩ := dk_rd I.hok e
    refine ⟨dd.typeIs, fun b q => ?_, hd⟩
    cases q
    obtain ⟨ob, _, _, h1, h2, _⟩ := dd
    exact ⟨ob, h1, h2.2.1⟩
  · obtain ⟨_, hd, xs, _, dd⟩ := dt_rd I.hok e
    refine ⟨dd.typeIs, fun b q => ?_, hd⟩
    cases q
    obtain ⟨ob, _, _, h1, h2, _⟩ := dd
    exact ⟨ob, h1, h2.2.1⟩

section
variable {X : Cx} {pins : List (Addr × Obj)} {σ : St} {H : Hp} {s : Shared} {a : Addr} {y d : V} {u r : Value} {o : Option V} {A : Around} {E : Value → Shared → Prop}
/-- d.get(y, x) -/
theorem d_get2 {Q : Value → Shared → Prop} (hu : A.units + 1 < cLine) (I : Inv X pins σ H s) (g : DGet H a y o) (ry : RelV y u) (rd : RelV d r) (h : ∀ w' s', Inv X pins σ H s' → RelV (o.getD d) w' → Q w' s') :
    wpAny (model X.prog X.w) A (call (.builtin "dict.get") [.ref a, u, r]) Q E s := by
  rcases g with ⟨kvs, k, e, ey, l⟩ | ⟨kvs, k, b, e, ey, eb, l⟩
  · subst ey
    obtain ⟨z, hd, vs, rel, dd⟩ := dk_rd I.hok e
    refine call_meetsIn PySem.F.slot_dict_get dd.typeIs PySem.F.entry_dict_get (PySem.F.args_dict_get_3 _ _ _) (meets_dict_get_default (mixKind X.prog X.w) a (kV_is ry) hd r) ⟨_, dd.mapOf, h _ _ (I.tok _) ?_⟩
    rw [l]
    exact (rel.val k).getD rd
  · subst ey
    cases (show u = Value.ref b from ry)
    obtain ⟨z, hd, xs, rel, dd⟩ := dt_rd I.hok e
    refine call_meetsIn PySem.F.slot_dict_get dd.typeIs PySem.F.entry_dict_get (PySem.F.args_dict_get_3 _ _ _) (meetsH_dict_get_default (tupleKind (mixKind X.prog X.w)) a b hd r) ⟨tupleKind_room_in1 hu, k, xs, key_of I.hok eb, dd, h _ _ (I.tok _) ?_⟩
    rw [l]
    exact (rel.val k).getD rd
end

noncomputable def tDGet2 (td ty tx : TE) : TE := fun σ H Q => td σ H fun x H1 => ∃ a, x = .ref a ∧ IsD H1 a ∧ ty σ H1 fun y H2 => tx σ H2 fun z H3 => ∃ o, DGet H3 a y o ∧ Q (o.getD z) H3
section
variable {X : Cx} {o e f : Expr} {apos cpos : Pos} {td ty tx : TE}
theorem pe_dget2 (hu : X.A.units + 1 < cLine) (ho : PE X o td) (he : PE X e ty) (hf : PE X f tx) (m : M2 X o "get" apos e f cpos) : PE X (.Call (.Attribute o "get" apos) [e, f] [] cpos) (tDGet2 td ty tx) := by
  intro pins s σ H Q I h
  refine wpAny_Call_method m.base m.few m.line PySem.F.plainAttrs_dict PySem.F.slot_dict_get PySem.F.type_dict_get (thn (ho pins s σ H _ I h) fun u s1 zz => ?_)
  obtain ⟨x, H1, I1, rx, a, ex, d, q1⟩ := zz
  subst ex
  obtain rfl : u = Value.ref a := rx
  obtain ⟨t1, t2, _⟩ := isD_at I1 d
  refine ⟨t1, t2, ?_⟩
  rw [m.trees]
  refine Calls.callWith_builtin rfl (Calls.evalArgs_plain (Calls.spliced_cons (thn (he pins s1 σ H1 _ I1 q1) fun iv s2 ⟨y, H2, I2, ry, q2⟩ =>
    Calls.spliced_cons (thn (hf pins s2 σ H2 _ I2 q2) fun fv s3 ⟨z, H3, I3, rz, ov, g, q3⟩ => Calls.spliced_nil ?_))))
  exact d_get2 hu I3 g ry rz fun w' s4 I4 rw' => ⟨_, H3, I4, rw', q3⟩
end

/-! ### dict(d): a copy -/
section
variable {X : Cx} {pins : List (Addr × Obj)} {σ : St} {H : Hp} {s : Shared} {a : Addr} {kvs : List (Key × V)} {A : Around} {E : Value → Shared → Prop}
end


section
variable {X : Cx} {pins : List (Addr × Obj)} {σ : St} {H : Hp} {s : Shared} {a : Addr} {y : V} {u : Value} {A : Around} {E : Value → Shared → Prop}
end
end L2

namespace Att
open PySem PySem.W PySem.Calls PyProof.Rows

/-! ### the script -/
theorem ints_of_wellAll {P : Params} {h : Heap} : ∀ (ns : List Int) (vs : List Value), WellAll P h vs (ns.map WData.int) → IntsAre vs ns := by
  intro ns
  induction ns with
  | nil =>
    intro vs w
    rw [List.map_nil] at w
    cases w
    exact .nil
  | cons n ns ih =>
    intro vs w
    rw [List.map_cons] at w
    cases w with
    | cons a b =>
      cases a
      exact .cons _ _ (ih _ b)

theorem script_of {l : OpenLaw} {n : Nat} (hn : l.most = some n) {P : Params} {h : Heap} {args : List WData} {vals : List Value}
    (hpre : l.row.toRowW.claim.pre args = true) (hwl : WellAll P h vals args) :
    ∃ a vs ns, vals = [Value.ref a] ∧ args = [WData.list (ns.map WData.int)] ∧ h.get? a = some { cls := .type "list", data := .seq vs.toArray } ∧ IntsAre vs ns ∧ ns.length ≤ n := by
  have hsh : WShape.hasAll [] args [.list .int] = true := (pre_splitW hpre).1
  have hc : l.pre.holds [] { args := args } = true := (pre_splitW hpre).2
  obtain ⟨d, r, rfl, h1, h2⟩ := hasAllW_cons hsh
  obtain rfl := hasAllW_nil h2
  obtain ⟨xs, rfl, h3⟩ := hasW_list h1
  obtain ⟨ns, rfl⟩ := items_int h3
  have hlen : ns.length ≤ n := by
    unfold OpenLaw.pre at hc
    have h4 : (WTm.not (.lt (.lit (.int (n : Int))) (.len (.arg 0)))).holds [] { args := [.list (ns.map .int)] } = true := by
      have h4 := (holds_andW hc).1
      rw [hn] at h4
      exact h4
    have h5 := condW_of h4 (w_not (w_lt w_lit (w_len_list (w_arg rfl))))
    rw [List.length_map] at h5
    refine Nat.le_of_not_lt fun q => ?_
    have q' : (n : Int) < ((ns.length : Nat) : Int) := by omega
    first
      | (rw [decide_eq_true q'] at h5; exact absurd h5 (by decide))
      | (simp at h5; omega)
  cases hwl with
  | cons w1 w2 =>
    cases w2
    cases w1 with
    | list ho hall => exact ⟨_, _, ns, rfl, rfl, ho, ints_of_wellAll ns _ hall, hlen⟩

theorem post_true (l : OpenLaw) (args : List WData) : l.row.toRowW.claim.post args (.bool true) args = true :=
  postW_of (r := l.row.toRowW) (X := (true == true))
    (show WShape.has [] (.bool true) .bool = true by first | rfl | decide | simp [WShape.has, WShape.arms, WShape.armsAll])
    (show (WTm.eq .res (.lit (.bool true))).value [] { args := args, res := some (.bool true), after := args } = some (.bool (true == true)) from w_eq_bool (w_res rfl) w_lit) rfl

/-! ### the attachment: holds_open's last premise (the goal 'hc' behind k_head) from a wpAny of the law's body -/

/-- the same from a codeAny of the CALL (for a layer whose function contracts speak of calls) -/
theorem attach_call {l : OpenLaw} {n : Nat} {q : Program} {loose : List Str} {XP : (Str → Option Value) → Heap → Prop} {YP : World → Heap → Prop} {d : DefRec}
    (hn : l.most = some n) (hdf : d.params.defaults = [])
    (call : ∀ (w : World) (s₀ s₁ : Shared) (mg mb : Str → Option Value) (fa : Addr) (o : Obj) (pm cd doc : Value) (a : Addr) (vs : List Value) (ns : List Int),
      Ground q loose [] XP w s₀ mg mb s₁.heap → YP w s₁.heap →
      s₁.heap.get? fa = some o → o.data = .func (docDef d.name d.params d.body d.scope pm cd doc) → s₁.heap.CodeRec cd d.name → mg d.name = some (.ref fa) →
      s₁.heap.get? a = some { cls := .type "list", data := .seq vs.toArray } → IntsAre vs ns → ns.length ≤ n → s₁.gens = #[] →
      codeAny (model l.prog w) callerA (.call (.ref fa) ⟨[.ref a], []⟩) (fun r s' => r = .ok (.ret (.bool true)) ∧ OldK s₁.heap s'.heap ∧ s'.os = s₁.os ∧ AllBare s'.gens) s₁) :
    WalkO q loose XP YP l.row.toRowW d [] (fun f vs => PySem.call f vs) := by
  intro w s₀ s₁ mg mb G Y fa o pm cd doc dV kV ho hd hcd hD hmg hg args vals as hpre hlay hrd hwl hlo
  obtain rfl : dV = .none := Dflts.none hD hdf
  obtain rfl : kV = .none := Dflts.noKw hD
  obtain ⟨a, vs, ns, rfl, rfl, hobj, hints, hlen⟩ := script_of hn hpre hwl
  refine enter_call (codeAny_mono (call w s₀ s₁ mg mb fa o pm cd doc a vs ns G Y ho (fd_plain hd) hcd hmg hobj hints hlen hg) fun r s' hq => ?_)
  obtain ⟨rfl, h2, h3, h4⟩ := hq
  exact ⟨.inl ⟨.bool true, .bool true, [], rfl, fun _ => rfl, .bool true, post_true l _, fun _ => ⟨List.Pairwise.nil, fun _ hm => (nomatch hm)⟩⟩, h2, h3, h4⟩


/-! ### rules over ANY heap (no ledger) from facts about the written part K: the library's own take a ledger (News) for what they write -/
section
variable {prog : Program} {w : World} {A : Around} {E : Value → Shared → Prop} {s : Shared} {K : Frag}





/-! the whole heap as the ledger: makes every rule that writes through a ledger a rule over any heap -/

end
end Att

namespace L2
open PySem PySem.Spec PyProof.Rows

theorem vals_ints : ∀ {vs : List Value} {ns : List Int}, IntsAre vs ns → Vals (ns.map V.int) vs
  | _, _, .nil => .nil
  | _, _, .cons n t h => .cons ⟨t, rfl⟩ (vals_ints h)

/-- nothing is tracked but the script, known to the object (or it is an object of the module) -/
noncomputable def Only (H : Hp) : Prop := ∀ b, H b = none ∨ ∃ o xs, H b = some (.frz o (.lst xs))

/-- THE HEAD: the law's promise, at the heap behind the top. F, the promise of the law's def, may use that base is part of the heap (so K.In base, base.Ns mainGlobals mg stand in Mod) -/
theorem law_call {P : Program} {w : World} {K : PySem.W.Frag} {mg mb : Str → Option Value} {CX : CXT} {k : Nat} {fa a : Addr} {fd : FuncData} {x : Str} {sp : Sp} {s₁ : Shared} {vs : List Value} {ns : List Int}
    (KX : K.In s₁.heap) (hns : s₁.heap.Ns mainGlobals mg) (hb : s₁.heap.Ns builtinsNs mb) (hbb : ∀ x : Str, x ≠ "__name__" → mb x = bootBuiltins x) (hlim : s₁.heap.NoLimit) (hg : s₁.gens = #[])
    (ha : s₁.heap.get? a = some { cls := .type "list", data := .seq vs.toArray }) (hi : IntsAre vs ns) (hl : ns.length ≤ sizeLine) (hr : Room k callerA)
    (F : ∀ base : Heap, K.In base → base.Ns mainGlobals mg → FnOk P w K mg base CX k fa fd [x] sp) (hbind : ∀ (s : Shared) (u : Value), BindsTo s fd ⟨[u], []⟩ [(x, u)])
    (hsp : ∀ H : Hp, Only H → SqL K H a (ns.map V.int) → sp [.ref a] H (fun v _ => v = .bl true) fun _ _ _ => False)
    (hCX : ∀ H e s', CX [] H s₁ (fun _ _ _ => False) e s' → False) :
    codeAny (model P w) callerA (.call (.ref fa) ⟨[.ref a], []⟩) (fun r s' => r = .ok (.ret (.bool true)) ∧ OldK s₁.heap s'.heap ∧ s'.os = s₁.os ∧ AllBare s'.gens) s₁ := by
  have rv := vals_ints hi
  have lenV := hi.length
  -- from an abstract heap in which nothing but the script may be tracked
  have core : ∀ H : Hp, Only H → SqL K H a (ns.map V.int) → HOk P w H s₁.heap → (∀ b, H b ≠ none → b = a) → (H a ≠ none → K.lookup a = none) →
      codeAny (model P w) callerA (.call (.ref fa) ⟨[.ref a], []⟩) (fun r s' => r = .ok (.ret (.bool true)) ∧ OldK s₁.heap s'.heap ∧ s'.os = s₁.os ∧ AllBare s'.gens) s₁ := by
    intro H hO hS hok hA hK
    have base_of : ∀ {b : Addr} {o : Obj}, s₁.heap.get? b = some o → H b = none → (hidT s₁.heap H).get? b = some o := fun e n => hidT_get e n
    have noA : ∀ {b : Addr} {o : Obj} {es : Array DictEntry} {ep : Nat}, s₁.heap.get? b = some o → o.data = .dict es ep → H b = none := fun {b o es ep} e d => by
      cases q : H b with
      | none => rfl
      | some u =>
        have e' : b = a := hA b (by rw [q]; simp)
        subst e'
        rw [ha] at e; cases e
        have d' : Data.seq vs.toArray _ = Data.dict es ep := d
        cases d'
    have nsK : ∀ {b : Addr} {m : Str → Option Value}, s₁.heap.Ns b m → (hidT s₁.heap H).Ns b m := fun {b m} ⟨o, es, ep, e, d, r⟩ => ⟨o, es, ep, base_of e (noA e d), d, r⟩
    have hKb : K.In (hidT s₁.heap H) := fun b o e => base_of (KX b o e) (by
      cases q : H b with
      | none => rfl
      | some u =>
        have e' : b = a := hA b (by rw [q]; simp)
        subst e'
        rw [hK (by rw [q]; simp)] at e; cases e)
    have hM : Mod K mg (hidT s₁.heap H) := ⟨hKb, nsK hns, ⟨mb, nsK hb, hbb⟩, let ⟨mc, h1, h2⟩ := hlim; ⟨mc, nsK h1, h2⟩⟩
    have e0 : Env0 P w K mg (hidT s₁.heap H) callerA [] s₁ H := ⟨rfl, hM, fun b o e => of_hidT e, Nat.le_of_eq (hidT_size _ _), trivial, fun b hb => absurd (show b ∈ ([] : List Addr) from hb) (by simp), hok, .of_eq hg⟩
    refine codeAny_mono ((F _ hKb (nsK hns)).run callerA [] s₁ H ⟨[.ref a], []⟩ [.ref a] [.ref a] _ _ hr e0 (hbind s₁ (.ref a)) (.cons rfl .nil) (hsp H hO hS)) fun r s' h => ?_
    cases r with
    | error e => exact (hCX H e s' h).elim
    | ok fl =>
      cases fl with
      | next => exact False.elim h
      | brk => exact False.elim h
      | cont => exact False.elim h
      | ret u =>
        obtain ⟨v, H', os, bare, un, hok', r', q⟩ := h
        have q' : v = .bl true := q
        subst q'
        obtain rfl : u = Value.bool true := r'
        refine ⟨rfl, OldK.of_keep fun b o e => ?_, os, bare⟩
        cases q : H b with
        | none => exact un.keep b o e q (by intro z; exact absurd (show b ∈ ([] : List Addr) from z) (by simp)) (by simp)
        | some u =>
          rcases hO b with z | ⟨ob, xs, z⟩
          · rw [q] at z; cases z
          · have z2 := un.frzs b ob _ z
            obtain ⟨e1, _⟩ := hok b _ z
            obtain ⟨e2, _⟩ := hok' b _ z2
            rw [e] at e1; cases e1
            exact e2
  cases hk : K.lookup a with
  | some o =>
    -- the script is one of the module's own objects
    have e := KX a o hk
    rw [ha] at e
    cases e
    refine core (fun _ => none) (fun _ => .inl rfl) (.inr ⟨_, vs.toArray, _, hk, rfl, rfl, rfl, by rw [List.size_toArray, lenV]; exact hl, by simpa using rv⟩) (fun b u z => by have z' : (none : Option HO) = some u := z; cases z') (fun b z => absurd rfl z) fun z => absurd rfl z
  | none =>
    refine core (fun b => if b = a then some (.frz { cls := .type "list", data := .seq vs.toArray } (.lst (ns.map V.int))) else none) (fun b => ?_) (.inl (.inr ⟨{ cls := .type "list", data := .seq vs.toArray }, if_pos rfl⟩)) (fun b u z => ?_) (fun b z => ?_) fun _ => hk
    · by_cases hb : b = a
      · exact .inr ⟨_, _, if_pos hb⟩
      · exact .inl (if_neg hb)
    · by_cases hb : b = a
      · have z' := (if_pos hb).symm.trans z
        cases z'
        subst hb
        exact ⟨ha, by rw [List.length_map]; exact hl, vs, _, rv, ha⟩
      · have z' := (if_neg hb).symm.trans z
        cases z'
    · by_cases hb : b = a
      · exact hb
      · exact absurd (if_neg hb) z
end L2

namespace L2
open PySem PySem.Spec PyProof.Rows


/-- the goal that k_head leaves (case hc), from the law's promise. F gives the function object fd (K's own) once, then the promise over every base -/
theorem walk_of {l : PySem.W.OpenLaw} {n k : Nat} {q : Program} {loose : List Str} {XP : (Str → Option Value) → Heap → Prop} {YP : World → Heap → Prop} {d : DefRec} {K : Params → PySem.W.Frag} {CX : World → CXT} {sp : World → Sp} {x : Str}
    (hn : l.most = some n) (hn2 : n ≤ sizeLine) (hdf : d.params.defaults = []) (hr : Room k callerA)
    (hY : ∀ (w : World) (h : Heap), YP w h → (K w.params).In h)
    (F : ∀ (w : World) (mg : Str → Option Value) (fa : Addr) (h : Heap), (K w.params).In h → h.Ns mainGlobals mg → mg d.name = some (.ref fa) →
      ∃ fd : FuncData, (∀ (s : Shared) (u : Value), BindsTo s fd ⟨[u], []⟩ [(x, u)]) ∧
        ∀ base : Heap, (K w.params).In base → base.Ns mainGlobals mg → FnOk l.prog w (K w.params) mg base (CX w) k fa fd [x] (sp w))
    (hsp : ∀ (w : World) (H : Hp) (a : Addr) (ns : List Int), ns.length ≤ n → Only H → SqL (K w.params) H a (ns.map V.int) → sp w [.ref a] H (fun v _ => v = .bl true) fun _ _ _ => False)
    (hCX : ∀ (w : World) (H : Hp) (s : Shared) (e : Value) (s' : Shared), CX w [] H s (fun _ _ _ => False) e s' → False) :
    PySem.W.WalkO q loose XP YP l.row.toRowW d [] (fun f vs => PySem.call f vs) := by
  refine Att.attach_call hn hdf fun w s₀ s₁ mg mb fa o pm cd doc a vs ns G Y ho hd hcd hmg hobj hints hlen hg => ?_
  have KX := hY w _ Y
  obtain ⟨fd, hb, hF⟩ := F w mg fa _ KX G.T.g hmg
  exact law_call KX G.T.g G.T.b G.T.builtins G.T.nolimit hg hobj hints (Nat.le_trans hlen hn2) hr hF hb (fun H hO hS => hsp w H a ns hlen hO hS) fun H e s' => hCX w H s₁ e s'
end L2

/- THE LAST THEOREM (shape; LID, My.* are yours):
   My.Adr: a structure of the addresses that your layer names (classes, functions); My.Txt K t: a structure (Prop) of the equations over K;
   My.txt_mk : {K} {implicit addresses ..} (e1 : nsIn K mainGlobals "law" = some (some (.ref f))) (e2 : K.lookup f = some ⟨oc, od, .func (fnOf "law" "law" params body scope dV kV doc pm an cdv ct), sl⟩) (e3 : codeIn K cdv "law" = true) .. : ∃ t, My.Txt K t

set_option maxRecDepth 100000 in
set_option maxHeartbeats 0 in
theorem PySem.Challenge.cw_LID_holds : PySem.Challenge.rw_LID.Holds := by
  w_on; o_law; k_head; (case hw => w_witness2)
  k_fill
  refine L2.walk_of (l := PySem.Challenge.rw_LID) (n := 63) (k := 40) (x := "script") (CX := fun w => ..) (sp := fun _ => My.sp_law) rfl (by decide) rfl ⟨rfl, by decide, by decide⟩ (fun w h Y => PySem.W.kIn_of Y) ?F ?S ?C
  case F =>
    intro w mg fa h KX G hmg
    have T : ∃ t, My.Txt (L2.KOf KX) t := by
      dsimp only [L2.KOf]                          -- K must stand as «<heap const> w.params» for k_is
      refine' My.txt_mk ?e1 ?e2 ?e3 ..
      (case e1 => PySem.W.k_is)                    -- in the order: a name -> its address -> its object -> its parts
      (case e2 => PySem.W.k_is)
      ..
    obtain ⟨t, T⟩ := T
    have e0 := hmg.symm.trans (PySem.W.mg_of KX G T.law)
    cases e0                                       -- fa is the law's own address
    exact ⟨_, fun s u => .of_eq rfl, fun base kb nb => My.law_fn T kb nb⟩     -- if «.of_eq rfl» comes too early: refine' ⟨_, ?b, fun base kb nb => My.law_fn T kb nb⟩; exact fun s u => .of_eq rfl
  case S => exact fun w H a ns hl hO hS => ..
  case C => exact ..
(the tactic k_is has no namespace: write k_is) -/

/-! SHORT WORDS over the layer: a def of the text, its body, what a loop and a test want. -/
namespace L2
open PySem PySem.Spec PyProof.Rows

/-! ### the text by places -/
noncomputable def defArgs (s : Stmt) : Arguments := match s with
  | .FunctionDef _ a _ _ _ _ _ _ _ _ => a
  | _ => { posonlyargs := [], args := [], vararg := none, kwonlyargs := [], kw_defaults := [], kwarg := none, defaults := [] }
noncomputable def defBody (s : Stmt) : List Stmt := match s with
  | .FunctionDef _ _ b _ _ _ _ _ _ _ => b
  | _ => []
noncomputable def defScope (s : Stmt) : Scope := match s with
  | .FunctionDef _ _ _ _ _ _ sc _ _ _ => sc
  | _ => { kind := .function, names := [], isGenerator := false, isCoroutine := false }

/-! ### no exception leaves a def -/
noncomputable abbrev CX0 : CXT := fun _ _ _ _ _ _ => False
noncomputable abbrev E0 : XK := fun _ _ _ => False
theorem pass0 {X : Cx} : Passes CX0 X E0 := fun _ _ _ _ _ _ _ h => h.elim

/-! ### a def (or method) of the text as it stands behind the top -/
structure Fun (K : PySem.W.Frag) (x qual : Str) (st : Stmt) (f : Addr) (fd : FuncData) : Prop where
  ex : ∃ (oc : Value) (od : Option Addr) (kV doc pm : Value) (an : Option Addr) (cdv ct : Value) (osl : Array (Option Value)),
    fd = PySem.W.fnOf x qual (defArgs st) (defBody st) (defScope st) .none kV doc pm an cdv ct ∧ K.lookup f = some ⟨oc, od, .func fd, osl⟩ ∧ PySem.W.codeIn K cdv qual = true
  kp : PySem.W.keepIn K (.ref f) = true
section
variable {P : Program} {w : World} {K : PySem.W.Frag} {mg : Str → Option Value} {base : Heap}
/-- THE RULE for a def: its body as a term of rules, and the reading of that term -/
theorem Fun.ok {x qual : Str} {st : Stmt} {f : Addr} {fd : FuncData} {N ps : List Str} {k : Nat} {sp : Sp} (F : Fun K x qual st f fd) (S : FnScope N ps (defScope st)) (len : ∀ vs H Q E, sp vs H Q E → vs.length = ps.length)
    (hbody : ∀ (cdv : Value) (A : Around) (outer : List Env) (s : Shared) (H : Hp) (vs : List V) (Q : VK) (E : XK), Room k (A.deeper (envOfC qual (defScope st) s.heap.objs.size f cdv)) → sp vs H Q E →
      ∃ t, PSs (cxOf CX0 P w K mg base N qual (defScope st) f cdv A outer s H E).nox (defBody st) t ∧ t { nx := fun _ H' => Q .non H', rt := Q } (start N vs) H) : FnOk P w K mg base CX0 (k + 1) f fd ps sp := by
  obtain ⟨oc, od, kV, doc, pm, an, cdv, ct, osl, rfl, lk, hcd⟩ := F.ex
  refine fn_of lk hcd S len fun A outer s H vs Q E hr hsp => ?_
  obtain ⟨t, h, q⟩ := hbody cdv A outer s H vs Q E hr hsp
  exact ⟨t, h.nox, q⟩
/-- how its arguments bind (no defaults): h is «fun _ _ _ _ _ _ us hl => match us, hl with | [_, _], _ => rfl», one _ a parameter -/
theorem Fun.binds {x qual : Str} {st : Stmt} {f : Addr} {fd : FuncData} {ps : List Str} (F : Fun K x qual st f fd)
    (h : ∀ (kV doc pm : Value) (an : Option Addr) (cdv ct : Value) (us : List Value), us.length = ps.length → bindArgs (PySem.W.fnOf x qual (defArgs st) (defBody st) (defScope st) .none kV doc pm an cdv ct) ⟨us, []⟩ = pure (ps.zip us)) : Binds K fd ps [] := by
  obtain ⟨oc, od, kV, doc, pm, an, cdv, ct, osl, rfl, lk, hcd⟩ := F.ex
  exact .all (h kV doc pm an cdv ct)
theorem fun_mk {x qual : Str} {st : Stmt} {f : Addr} {oc : Value} {od an : Option Addr} {osl : Array (Option Value)} {kV doc pm cdv ct : Value} (l : K.lookup f = some ⟨oc, od, .func (PySem.W.fnOf x qual (defArgs st) (defBody st) (defScope st) .none kV doc pm an cdv ct), osl⟩)
    (c : PySem.W.codeIn K cdv qual = true) (k : PySem.W.keepIn K (.ref f) = true) : Fun K x qual st f (PySem.W.fnOf x qual (defArgs st) (defBody st) (defScope st) .none kV doc pm an cdv ct) := ⟨⟨oc, od, kV, doc, pm, an, cdv, ct, osl, rfl, l, c⟩, k⟩
end
theorem small1000 {n : Nat} (h : n ≤ 1000) : n < sizeLine := Nat.lt_of_le_of_lt h (by decide)

/-! ### expressions in short: the name that stands in the i-th slot -/
section
variable {X : Cx}
end

/-! ### tests -/
theorem iteF {A B : Prop} (h : B) : if false = true then A else B := by
  rw [if_neg Bool.false_ne_true]
  exact h
theorem iteT {A B : Prop} (h : A) : if true = true then A else B := by
  rw [if_pos rfl]
  exact h
theorem ite2 {c A B : Prop} [Decidable c] (h1 : c → A) (h2 : ¬ c → B) : if c then A else B := by
  by_cases h : c
  · rw [if_pos h]
    exact h1 h
  · rw [if_neg h]
    exact h2 h

/-! ### heaps -/
/-- all that was tracked is as it was -/
noncomputable def Same (H H' : Hp) : Prop := ∀ b o, H b = some o → H' b = some o
theorem Same.refl (H : Hp) : Same H H := fun _ _ h => h
theorem Same.trans {H H1 H2 : Hp} (a : Same H H1) (b : Same H1 H2) : Same H H2 := fun c o h => b c o (a c o h)
theorem Same.free {H H' : Hp} (e : Same H H') {l : Addr} (h : H' l = Option.none) : H l = Option.none := by
  cases q : H l with
  | none => rfl
  | some o =>
    rw [e l o q] at h
    cases h
theorem Same.seq {K : PySem.W.Frag} {H H' : Hp} {a : Addr} {xs : List V} (e : Same H H') (h : SqL K H a xs) : SqL K H' a xs := by
  rcases h with (h | ⟨o, h⟩) | h
  · exact .inl (.inl (e _ _ h))
  · exact .inl (.inr ⟨o, e _ _ h⟩)
  · exact .inr h

/-! ### a dict's pairs: keys that differ -/
section
variable {κ : Type} [DecidableEq κ]
end
end L2


namespace GM
/-! Whole numbers: divisors, lowest ratios, sizes. -/



end GM


set_option Elab.async false
set_option linter.all false
set_option maxRecDepth 100000
/-! MY RULES over the hand layer -/
namespace L2
open PySem PySem.Spec PyProof.Rows

/-! ### argument lists without stars: by a look at each item's head alone -/
noncomputable def noStar : Expr → Bool
  | .Starred _ _ => false
  | _ => true
theorem star_cons {e : Expr} {es : List Expr} {env : Env} (h : noStar e = true) : starEach (e :: es) env = (false, eval e env) :: starEach es env := by
  cases e <;> first | rfl | cases h
theorem star_any {pos : Pos} {env : Env} : ∀ {es : List Expr}, es.all noStar = true → (backTo pos (starEach es env)).any (·.1) = false
  | [], _ => rfl
  | e :: es, h => by
    rw [List.all_cons, Bool.and_eq_true] at h
    rw [star_cons h.1]
    show (false || (backTo pos (starEach es env)).any (·.1)) = false
    rw [star_any h.2]; rfl
theorem all_cons1 {e : Expr} {es : List Expr} (h : (e :: es).all noStar = true) : noStar e = true ∧ es.all noStar = true := by
  rw [List.all_cons, Bool.and_eq_true] at h; exact h
section
variable {X : Cx} {e o : Expr} {es : List Expr} {te : TE} {t : TA} {pos p : Pos}
theorem pa_c (ha : PE X e te) (hr : PA X es t) (hs : noStar e = true := by rfl) : PA X (e :: es) (tCons te t) := pa_cons ha hr (star_cons hs)
theorem pe_cB {x : Str} {id : String} {r : List V → Hp → VK → Prop} (hc : CallR X (.builtin id) r) (hg : Gl X x) (hm : X.mg x = none) (hv : bootBuiltins x = some (.builtin id)) (ha : PA X (e :: es) t) (hs : (e :: es).all noStar = true := by rfl)
    (hn : x ≠ "__name__" := by decide) (hdb : (x == ("__debug__" : Str)) = false := by decide) : PE X (.Call (.Name x p) (e :: es) [] pos) (tCB r t) :=
  pe_callB hc hg hm hv ha hn hdb (star_cons (all_cons1 hs).1) (star_any (all_cons1 hs).2)
theorem pe_cTy {x : Str} {T : String} {r : List V → Hp → VK → Prop} (hc : CallR X (.type T) r) (hg : Gl X x) (hm : X.mg x = none) (hv : bootBuiltins x = some (.type T)) (ha : PA X (e :: es) t) (hs : (e :: es).all noStar = true := by rfl)
    (hn : x ≠ "__name__" := by decide) (hdb : (x == ("__debug__" : Str)) = false := by decide) : PE X (.Call (.Name x p) (e :: es) [] pos) (tCB r t) :=
  pe_callTy hc hg hm hv ha hn hdb (star_cons (all_cons1 hs).1) (star_any (all_cons1 hs).2)
theorem few1 {env : Env} {cpos : Pos} (h : noStar e = true) : ((backTo cpos (starEach [e] env)).all (fun x => !x.1) && (backToKw cpos (keywordEach [] env)).all (fun x => x.1.isSome)
      && decide (([e] : List Expr).length + ([] : List Keyword).length + (if ([] : List Keyword).isEmpty then 0 else 1) < 30)) = true := by
  rw [star_cons h]; rfl
theorem pe_append {to : TE} {apos cpos : Pos} (ho : PE X o to) (ha : PA X [e] t) (hs : noStar e = true := by rfl) (hbase : attributeBase o "append" X.env (eval o X.env) = eval o X.env := by rfl) (hline : (apos.endLine == cpos.line) = true := by rfl) :
    PE X (.Call (.Attribute o "append" apos) [e] [] cpos) (tBM X.K "list" rAppend to t) :=
  pe_bm PySem.F.plainAttrs_list PySem.F.slot_list_append PySem.F.type_list_append mt_append ho ha hbase (few1 hs) hline (star_cons hs) rfl
end

/-! ### kinds of values, isinstance -/
inductive Nm where | non | bl | int | str | lst | tup | dct
  deriving DecidableEq
noncomputable def Nm.s : Nm → String
  | .non => "NoneType" | .bl => "bool" | .int => "int" | .str => "str" | .lst => "list" | .tup => "tuple" | .dct => "dict"
noncomputable def isN (n m : Nm) : Bool := decide (n = m) || (decide (n = .bl) && decide (m = .int))
noncomputable def bT (T U : String) : Option Bool := if (Value.type T == Value.type U) = true then some true else if PySem.W.kitMeta U = true then (fastBuiltinMro T).map (·.contains (Value.type U)) else none
theorem kitOne_bT (K : PySem.W.Frag) (T U : String) : PySem.W.kitOne K (.type T) (.type U) = bT T U := rfl
theorem bT_all (n m : Nm) : bT n.s m.s = some (isN n m) := by
  cases n <;> cases m <;> decide +kernel
noncomputable abbrev KindIs (K : PySem.W.Frag) (H : Hp) (v : V) (n : Nm) : Prop := TyOf K H v (.type (Nm.s n))
noncomputable def rIsi (K : PySem.W.Frag) (m : Nm) : List V → Hp → VK → Prop := fun xs H Q => ∃ x n, xs = [x, .ty (Nm.s m)] ∧ KindIs K H x n ∧ Q (.bl (isN n m)) H
theorem call_isinst {X : Cx} (m : Nm) : CallR X (.builtin "isinstance") (rIsi X.K m) := by
  intro pins s σ H xs us Q I r h
  obtain ⟨x, n, rfl, ty, q⟩ := h
  obtain ⟨u, u', rfl, ru, ru'⟩ := vals2 r
  cases ru'
  exact isinst_ok I ru ty ((kitOne_bT _ _ _).trans (bT_all n m)) fun tk => ⟨.bl (isN n m), H, I.tok tk, rfl, q⟩
theorem nm_ne (m : Nm) : (Str.ofString (Nm.s m)) ≠ "__name__" := by cases m <;> decide +kernel
theorem nm_db (m : Nm) : ((Str.ofString (Nm.s m)) == ("__debug__" : Str)) = false := by cases m <;> decide +kernel
theorem boot_nm (m : Nm) (h : m ≠ .non) : bootBuiltins (Str.ofString (Nm.s m)) = some (.type (Nm.s m)) := by
  cases m
  · exact absurd rfl h
  · exact boot_bool
  · exact boot_int
  · exact boot_str
  · exact boot_list
  · exact boot_tuple
  · exact boot_dict
theorem pe_isi {X : Cx} (m : Nm) {e : Expr} {te : TE} {p p2 pos : Pos} (hg : Gl X "isinstance") (hm : X.mg "isinstance" = none) (hgT : Gl X (Str.ofString (Nm.s m))) (hmT : X.mg (Str.ofString (Nm.s m)) = none) (ha : PE X e te) (h0 : m ≠ .non := by decide) (hs : noStar e = true := by rfl) :
    PE X (.Call (.Name "isinstance" p) [e, .Name (Str.ofString (Nm.s m)) p2] [] pos) (tCB (rIsi X.K m) (tCons te (tCons (tC (.ty (Nm.s m))) tNil))) :=
  pe_cB (call_isinst m) hg hm boot_isinstance (pa_c ha (pa_c (pe_bltn hgT hmT (boot_nm m h0) rfl (nm_ne m) (nm_db m)) pa_nil) hs) (by rw [List.all_cons, hs]; rfl)

/-! ### operations -/
section
variable {X : Cx} {a b c : Expr} {ta tb tc : TE} {pos : Pos}
theorem op_mulB : OpR X (binaryOp .Mult) (rI IntMulOk fun i j => .int (i * j)) := opI fun _ _ _ _ _ _ _ hc q => mul_int q hc
theorem op_isnotB : OpR X (compareOp .IsNot) (fun x y H Q => ∃ i j, x = .bl i ∧ y = .bl j ∧ Q (.bl (i != j)) H) := by
  intro pins s σ H x y v u Q I rx ry h
  obtain ⟨i, j, rfl, rfl, q⟩ := h
  cases rx; cases ry
  exact isnot_bool (fin_bl I q rfl)
end
theorem mulOk_small {i j : Int} (h : j.natAbs < 2 ^ 64) : IntMulOk i j := IntMulOk.of_right (intBits_le_64 (by omega) (by omega))
theorem mulOk_left {i j : Int} (h : i.natAbs < 2 ^ 64) : IntMulOk i j := IntMulOk.of_left (intBits_le_64 (by omega) (by omega))

/-! ### defs -/
structure DefOk (P : Program) (w : World) (K : PySem.W.Frag) (mg : Str → Option Value) (base : Heap) (k : Nat) (x : Str) (ps : List Str) (dvs : List V) (sp : Sp) : Prop where
  ex : ∃ (f : Addr) (fd : FuncData) (ds : List Value), FnOk P w K mg base CX0 k f fd ps sp ∧ Binds K fd ps ds ∧ Vals dvs ds ∧ PySem.W.keepIn K (.ref f) = true ∧ mg x = some (.ref f)
theorem pe_callD {X : Cx} {k j : Nat} {x : Str} {ps : List Str} {dvs : List V} {sp : Sp} {p pos : Pos} {e : Expr} {es : List Expr} {t : TA}
    (D : DefOk X.prog X.w X.K X.mg X.base k x ps dvs sp) (hr : Room j X.A) (hj : k ≤ j) (hg : Gl X x) (ha : PA X (e :: es) t) (hs : (e :: es).all noStar = true := by rfl)
    (hdb : (x == ("__debug__" : Str)) = false := by decide) :
    PE X (.Call (.Name x p) (e :: es) [] pos) (tCall sp dvs E0 t) := by
  obtain ⟨f, fd, ds, F, b, hd, kp, m⟩ := D.ex
  exact pe_call F (hr.mono hj) hg m kp b hd pass0 ha hdb (star_cons (all_cons1 hs).1) (star_any (all_cons1 hs).2)
section
variable {P : Program} {w : World} {K : PySem.W.Frag} {mg : Str → Option Value} {base : Heap}
end
theorem same_new {H : Hp} {p : Addr} (h : H p = none) (o : HO) : Same H (upd H p o) := fun b u q => by rw [upd_ne (ne_of_none q h)]; exact q
end L2


set_option Elab.async false
set_option linter.all false
set_option maxRecDepth 100000
/-! texts written by f-strings -/
namespace L2
open PySem PySem.Spec PyProof.Rows
end L2


set_option Elab.async false
set_option linter.all false
set_option maxRecDepth 100000
/-! THE RULES, their judgements shut: nothing is unfolded where a term of rules is elaborated -/
namespace L2
open PySem PySem.Spec PyProof.Rows
structure QE (X : Cx) (e : Expr) (t : TE) : Prop where h : PE X e t
structure QT (X : Cx) (e : Expr) (t : TT) : Prop where h : PT X e t
structure QW (X : Cx) (e : Expr) (t : TT) : Prop where h : PW X e t
structure QA (X : Cx) (es : List Expr) (t : TA) : Prop where h : PA X es t
structure QS (X : Cx) (st : Stmt) (t : TS) : Prop where h : PS X st t
structure QSs (X : Cx) (st : List Stmt) (t : TS) : Prop where h : PSs X st t
structure QO (X : Cx) (e : Option Expr) (t : TO) : Prop where h : PO X e t
structure QI (X : Cx) (tg iter : Expr) (wi : TI) : Prop where h : PI X tg iter wi
structure QG (X : Cx) (tg : Expr) (t : TG) : Prop where h : PG X tg t
/-- no comprehension -/
noncomputable def noComp : Expr → Bool
  | .ListComp _ _ _ _ => false
  | .SetComp _ _ _ _ => false
  | .DictComp _ _ _ _ _ => false
  | _ => true
theorem swaps_no {e : Expr} {tg : Option Expr} {l : Nat} {env : Env} (h : noComp e = true) : swapsWith e tg l env = pure false := by
  cases e <;> first | rfl | cases h
namespace R
section
variable {X : Cx} {a b c e o : Expr} {es rest : List Expr} {ta tb tc te : TE} {tA tB' : TT} {t : TA} {pos p : Pos}
theorem pv (i : Nat) {x : Str} (hN : X.N[i]? = some x := by rfl) (hv : Vis X.env.scope x := by first | exact Or.inl rfl | exact Or.inr (Or.inl rfl) | exact Or.inr (Or.inr rfl)) (hd : (x == ("__debug__" : Str)) = false := by decide)
    (hcd : (x == ("__classdict__" : Str)) = false := by decide) : QE X (.Name x pos) (tVar i) := ⟨pe_var hN hv hd hcd⟩
theorem pe_int {i : Int} {j : Nat} : QE X (.Constant (.int i) j pos) (tC (.int i)) := ⟨L2.pe_int⟩
theorem pe_bl {k : Bool} {j : Nat} : QE X (.Constant (.bool k) j pos) (tC (.bl k)) := ⟨L2.pe_bl⟩
theorem pe_non {j : Nat} : QE X (.Constant .none j pos) (tC .non) := ⟨L2.pe_non⟩
theorem pe_str {x : Str} {j : Nat} : QE X (.Constant (.str x) j pos) (tC (.str x)) := ⟨L2.pe_str⟩
theorem pe_op {op : Operator} {r : R2} (ho : OpR X (binaryOp op) r) (ha : QE X a ta) (hb : QE X b tb) : QE X (.BinOp a op b pos) (tOp r ta tb) := ⟨L2.pe_op ho ha.h hb.h⟩
theorem pe_un {op : UnaryOp} {r : V → Hp → VK → Prop} (ho : UnR X (unaryOp op) r) (ha : QE X a ta) : QE X (.UnaryOp op a pos) (tUn r ta) := ⟨L2.pe_un ho ha.h⟩
theorem pe_not (ha : QE X a ta) : QE X (.UnaryOp .Not a pos) (tNotV ta) := ⟨L2.pe_not ha.h⟩
theorem pe_one {op : BoolOp} (h : QE X a ta) : QE X (.BoolOp op [a] pos) ta := ⟨L2.pe_one h.h⟩
theorem pe_and (ha : QE X a ta) (hb : QE X (.BoolOp .And (b :: rest) pos) tb) : QE X (.BoolOp .And (a :: b :: rest) pos) (tAndV ta tb) := ⟨L2.pe_and ha.h hb.h⟩
theorem pe_or (ha : QE X a ta) (hb : QE X (.BoolOp .Or (b :: rest) pos) tb) : QE X (.BoolOp .Or (a :: b :: rest) pos) (tOrV ta tb) := ⟨L2.pe_or ha.h hb.h⟩
theorem pe_cmpR {op : CmpOp} {r : R2} (ho : OpR X (compareOp op) r) (ha : QE X a ta) (hb : QE X b tb) (hm : behindInMarks op b = false) : QE X (.Compare a [op] [b] pos) (tOp r ta tb) := ⟨L2.pe_cmpR ho ha.h hb.h hm⟩
theorem po_none : QO X none tNoPart := ⟨L2.po_none⟩
theorem po_some (h : QE X e te) : QO X (some e) (tPart te) := ⟨L2.po_some h.h⟩
theorem pe_slice {lo hi : Option Expr} {tl th : TO} {p2 : Pos} {r : V → Option Int → Option Int → Hp → VK → Prop} (hr : SlR X r) (he : QE X e te) (hl : QO X lo tl) (hu : QO X hi th) : QE X (.Subscript e (.Slice lo hi none p2) pos) (tSl r te tl th) := ⟨L2.pe_slice hr he.h hl.h hu.h⟩
theorem pe_ix {r : R2} (hr : IxR X r) (ha : QE X a ta) (hb : QE X b tb) (hs : PlainIx b) : QE X (.Subscript a b pos) (tOp r ta tb) := ⟨L2.pe_ix hr ha.h hb.h hs⟩
theorem pa_nil : QA X [] tNil := ⟨L2.pa_nil⟩
theorem pa_c (ha : QE X e te) (hr : QA X es t) (hs : noStar e = true := by rfl) : QA X (e :: es) (tCons te t) := ⟨L2.pa_c ha.h hr.h hs⟩
theorem pe_lst (h : QA X es t) : QE X (.List es pos) (tLst t) := ⟨L2.pe_lst h.h⟩
theorem pe_tup {x1 : Nat} (h : QA X es t) : QE X (.Tuple es x1 pos) (tTup t) := ⟨L2.pe_tup h.h⟩
theorem pe_dnewK : QE X (.Dict [] [] pos) tDNewK := ⟨L2.pe_dnewK⟩
theorem pe_callD {k j : Nat} {x : Str} {ps : List Str} {dvs : List V} {sp : Sp} (D : DefOk X.prog X.w X.K X.mg X.base k x ps dvs sp) (hr : Room j X.A) (hj : k ≤ j) (hg : Gl X x) (ha : QA X (e :: es) t) (hs : (e :: es).all noStar = true := by rfl)
    (hdb : (x == ("__debug__" : Str)) = false := by decide) : QE X (.Call (.Name x p) (e :: es) [] pos) (tCall sp dvs E0 t) := ⟨L2.pe_callD D hr hj hg ha.h hs hdb⟩
theorem pe_isi (m : Nm) {p2 : Pos} (hg : Gl X "isinstance") (hm : X.mg "isinstance" = none) (hgT : Gl X (Str.ofString (Nm.s m))) (hmT : X.mg (Str.ofString (Nm.s m)) = none) (ha : QE X e te) (h0 : m ≠ .non := by decide) (hs : noStar e = true := by rfl) :
    QE X (.Call (.Name "isinstance" p) [e, .Name (Str.ofString (Nm.s m)) p2] [] pos) (tCB (rIsi X.K m) (tCons te (tCons (tC (.ty (Nm.s m))) tNil))) := ⟨L2.pe_isi m hg hm hgT hmT ha.h h0 hs⟩
theorem pe_cB {x : Str} {id : String} {r : List V → Hp → VK → Prop} (hc : CallR X (.builtin id) r) (hg : Gl X x) (hm : X.mg x = none) (hv : bootBuiltins x = some (.builtin id)) (ha : QA X (e :: es) t) (hs : (e :: es).all noStar = true := by rfl)
    (hn : x ≠ "__name__" := by decide) (hdb : (x == ("__debug__" : Str)) = false := by decide) : QE X (.Call (.Name x p) (e :: es) [] pos) (tCB r t) := ⟨L2.pe_cB hc hg hm hv ha.h hs hn hdb⟩
theorem pe_cTy {x : Str} {T : String} {r : List V → Hp → VK → Prop} (hc : CallR X (.type T) r) (hg : Gl X x) (hm : X.mg x = none) (hv : bootBuiltins x = some (.type T)) (ha : QA X (e :: es) t) (hs : (e :: es).all noStar = true := by rfl)
    (hn : x ≠ "__name__" := by decide) (hdb : (x == ("__debug__" : Str)) = false := by decide) : QE X (.Call (.Name x p) (e :: es) [] pos) (tCB r t) := ⟨L2.pe_cTy hc hg hm hv ha.h hs hn hdb⟩
theorem pe_append {to : TE} {apos cpos : Pos} (ho : QE X o to) (ha : QA X [e] t) (hs : noStar e = true := by rfl) (hbase : attributeBase o "append" X.env (eval o X.env) = eval o X.env := by rfl) (hline : (apos.endLine == cpos.line) = true := by rfl) :
    QE X (.Call (.Attribute o "append" apos) [e] [] cpos) (tBM X.K "list" rAppend to t) := ⟨L2.pe_append ho.h ha.h hs hbase hline⟩
theorem pt_cmpR {op : CmpOp} {r : R2} (ho : OpR X (compareOp op) r) (ha : QE X a ta) (hb : QE X b tb) (hm : behindInMarks op b = false) : QT X (.Compare a [op] [b] pos) (tTest (tOp r ta tb)) := ⟨L2.pt_cmpR ho ha.h hb.h hm⟩
theorem pw_and1 (ha : QT X a tA) : QW X (.BoolOp .And [a] pos) tA := ⟨L2.pw_and1 ha.h⟩
theorem pw_or1 (ha : QT X a tA) : QW X (.BoolOp .Or [a] pos) tA := ⟨L2.pw_or1 ha.h⟩
theorem pw_and (ha : QT X a tA) (hb : QW X (.BoolOp .And (b :: rest) pos) tB') : QW X (.BoolOp .And (a :: b :: rest) pos) (tAnd tA tB') := ⟨L2.pw_and ha.h hb.h⟩
theorem pw_or (ha : QT X a tA) (hb : QW X (.BoolOp .Or (b :: rest) pos) tB') : QW X (.BoolOp .Or (a :: b :: rest) pos) (tOr tA tB') := ⟨L2.pw_or ha.h hb.h⟩
theorem pt (h : QW X e tA) : QT X e tA := ⟨PW.pt h.h⟩
theorem pt_not (ha : QT X a tA) : QT X (.UnaryOp .Not a pos) (tNot tA) := ⟨L2.pt_not ha.h⟩
theorem pt_val (h : QE X e te) (he : ∀ whole, isTrue e X.env whole = (do let v ← whole; standAt e.pos; holding [v] (truthy v)) := by intro _; rfl) : QT X e (tB te) := ⟨L2.pt_val h.h he⟩
end
section
variable {X : Cx} {c e : Expr} {te : TE} {tc : TT} {st : Stmt} {sts body orelse : List Stmt} {t u tb : TS} {pos : Pos}
theorem ps_ret (he : QE X e te) : QS X (.Return (some e) pos) (tRet te) := ⟨L2.ps_ret he.h⟩
theorem ps_expr (he : QE X e te) (hs : noComp e = true := by rfl) : QS X (.Expr e pos) (tDrop te) := ⟨L2.ps_expr he.h (swaps_no hs)⟩
theorem ps_set {i : Nat} {x : Str} {pos' : Pos} (hN : X.N.Nodup) (hi : X.N[i]? = some x) (hx : Loc X.env.scope x) (he : QE X e te) (hs : noComp e = true := by rfl) (hf : X.fn x = true ∨ X.env.scope.names.lookup x = some .local := by first | exact .inl rfl | exact .inr rfl | assumption) :
    QS X (.Assign [.Name x pos'] e pos) (tAsg te (gName i)) := ⟨L2.ps_set hN hi hx he.h (swaps_no hs) hf⟩
theorem ps_if (hc : QT X c tc) (ha : QSs X body t) (hb : QSs X orelse u) : QS X (.If c body orelse pos) (tIfS tc t u) := ⟨L2.ps_if hc.h ha.h hb.h⟩
theorem ps_for {tg iter : Expr} {wi : TI} {g : TG} (hp : PassesOwn (model X.prog X.w) X.A X.env X.xe) (hc : X.calm = true) (hi : QI X tg iter wi) (hg : QG X tg g) (hb : QSs X body tb)
    (hs : ∀ x, foldedSetIterable iter X.env x = pure x := by intro _; rfl) : QS X (.For tg iter body [] pos) (tFor wi g tb) := ⟨L2.ps_for hp hc hi.h hg.h hb.h hs⟩
theorem pi_list {tg : Expr} (hl : QE X e te) : QI X tg e (iList X.K te) := ⟨L2.pi_list hl.h⟩
theorem pi_range1 {tg a : Expr} {ta : TA} {p : Pos} (hg : Gl X "range") (hm : X.mg "range" = none) (ha : QA X [a] ta) (hs : noStar a = true := by rfl) : QI X tg (.Call (.Name "range" p) [a] [] pos) (iRng1 ta) := ⟨L2.pi_range1 hg hm ha.h (star_cons hs)⟩
theorem pg_name {i : Nat} {x : Str} (hN : X.N.Nodup) (hi : X.N[i]? = some x) (hx : Loc X.env.scope x) (hf : X.fn x = true ∨ X.env.scope.names.lookup x = some .local := by first | exact .inl rfl | exact .inr rfl | assumption) : QG X (.Name x pos) (gName i) := ⟨L2.pg_name hN hi hx hf⟩
theorem pss_nil : QSs X [] tNext := ⟨L2.pss_nil⟩
theorem pss_one (h1 : QS X st t) : QSs X [st] t := ⟨L2.pss_one h1.h⟩
theorem pss_cons (h1 : QS X st t) (h2 : QSs X sts u) : QSs X (st :: sts) (tSeq t u) := ⟨L2.pss_cons h1.h h2.h⟩
end
end R
section
variable {P : Program} {w : World} {K : PySem.W.Frag} {mg : Str → Option Value} {base : Heap}
theorem Fun.okQ {x qual : Str} {st : Stmt} {f : Addr} {fd : FuncData} {N ps : List Str} {k : Nat} {sp : Sp} (F : Fun K x qual st f fd) (S : FnScope N ps (defScope st)) (len : ∀ vs H Q E, sp vs H Q E → vs.length = ps.length)
    (hbody : ∀ (cdv : Value) (A : Around) (outer : List Env) (s : Shared) (H : Hp) (vs : List V) (Q : VK) (E : XK), Room k (A.deeper (envOfC qual (defScope st) s.heap.objs.size f cdv)) → sp vs H Q E →
      ∃ t, QSs (cxOf CX0 P w K mg base N qual (defScope st) f cdv A outer s H E).nox (defBody st) t ∧ t { nx := fun _ H' => Q .non H', rt := Q } (start N vs) H) : FnOk P w K mg base CX0 (k + 1) f fd ps sp :=
  F.ok S len fun cdv A outer s H vs Q E hr h => let ⟨t, q, r⟩ := hbody cdv A outer s H vs Q E hr h; ⟨t, q.h, r⟩
theorem Fun.def_okQ {x qual : Str} {st : Stmt} {f : Addr} {fd : FuncData} {N ps : List Str} {k : Nat} {sp : Sp} (F : Fun K x qual st f fd) (m : mg x = some (.ref f)) (b : Binds K fd ps []) (S : FnScope N ps (defScope st)) (len : ∀ vs H Q E, sp vs H Q E → vs.length = ps.length)
    (hbody : ∀ (cdv : Value) (A : Around) (outer : List Env) (s : Shared) (H : Hp) (vs : List V) (Q : VK) (E : XK), Room k (A.deeper (envOfC qual (defScope st) s.heap.objs.size f cdv)) → sp vs H Q E →
      ∃ t, QSs (cxOf CX0 P w K mg base N qual (defScope st) f cdv A outer s H E).nox (defBody st) t ∧ t { nx := fun _ H' => Q .non H', rt := Q } (start N vs) H) : DefOk P w K mg base (k + 1) x ps [] sp :=
  ⟨f, fd, [], F.okQ S len hbody, b, .nil, F.kp, m⟩
end
end L2


set_option Elab.async false
set_option linter.all false
set_option maxRecDepth 100000
/-! y = [elt for x in iter] -/
namespace L2
open PySem PySem.Spec PyProof.Rows
section
variable {prog : Program} {w : World} {A : Around} {R : Result → Shared → Prop} {s : Shared}
end
/-- the block of a comprehension: its own frame's dict at C, the cells of the names that it takes from around it -/
noncomputable def cxComp (X : Cx) (scope : Scope) (cl : List (Str × Addr)) (Nc : List Str) (C : Addr) (s₂ : Shared) (H2 : Hp) (fp : List Addr) : Cx where
  prog := X.prog
  w := X.w
  K := X.K
  mg := X.mg
  base := X.base
  A := X.A
  N := Nc
  s₀ := s₂
  H₀ := H2
  env := compEnvC scope cl C X.env
  outer := X.stack
  stack := X.stack
  ex := fp
  fn := fun _ => false
  calm := true
  pn := []
  xe := fun _ _ => False
noncomputable def inner (σ : St) (fr : List Nat) : St := fr.map fun j => (σ[j]?).join
end L2


set_option Elab.async false
set_option linter.all false
set_option maxRecDepth 100000
/-! list(reversed(xs)); two lists of the same things -/
namespace L2
open PySem PySem.Spec PyProof.Rows
section
variable {prog : Program} {w : World} {A : Around} {s : Shared} {R : Result → Shared → Prop}
variable {I : Addr} {fp wr : List Addr} {G : Array GenState → Array GenState → Prop} {n : Nat} {P : Nat → Value → Prop} {St : Nat → Shared → Prop}
end
section
variable {prog : Program} {w : World} {A : Around} {E : Value → Shared → Prop} {s : Shared}
variable {I : Addr} {fp wr : List Addr} {G : Array GenState → Array GenState → Prop} {n : Nat} {P : Nat → Value → Prop} {St : Nat → Shared → Prop}
end
namespace R
variable {X : Cx}
end R
end L2
namespace L2
open PySem PySem.Spec PyProof.Rows
end L2
namespace L2
open PySem PySem.Spec PyProof.Rows
end L2


set_option Elab.async false
set_option linter.all false
set_option maxRecDepth 100000
/-! raise, try, except, isinstance: exceptions of own classes -/
namespace L2
open PySem PySem.Spec PyProof.Rows PySem.W

/-! ### an exception of an own class on its way -/


section
open Builtin Builtin.ObjectAttr Builtin.Getset_descriptor
variable {prog : Program} {w : World} {A : Around} {E : Value → Shared → Prop} {h : Heap} {g : Array GenState} {d : Drawn} {t : Nat} {os : OsState} {a C : Addr} {o : Obj} {K : Frag}


end

/-! ### isinstance of an exception -/

/-! ### calls where an exception is handled -/
/-! ### except D as n: D an own class; the suite returns -/
section
variable {M : Model} {A : Around} {E : Value → Shared → Prop} {h : Heap} {g : Array GenState} {d : Drawn} {t : Nat} {os : OsState} {a C D : Addr} {o oD : Obj} {K : Frag} {dD : Option Addr} {cD : ClassData} {sD : Array (Option Value)}
end


/-! ### the text's own class, by the written part -/

/-! ### defs that raise, defs that are called in a handler -/
section
variable {P : Program} {w : World} {K : PySem.W.Frag} {mg : Str → Option Value} {base : Heap}
end
namespace R
section
variable {X : Cx} {e : Expr} {es : List Expr} {te : TE} {t : TA} {pos p : Pos}
end
end R
end L2


set_option Elab.async false
set_option linter.all false
set_option maxRecDepth 100000
/-! an exception that passes through a def; raises in loops -/
namespace L2
open PySem PySem.Spec PyProof.Rows PySem.W
section
variable {P : Program} {w : World} {K : PySem.W.Frag} {mg : Str → Option Value} {base : Heap}
end
namespace R
end R
end L2


set_option Elab.async false
set_option linter.all false
set_option maxRecDepth 100000
/-! [elt for target in iter if test], anywhere -/
namespace L2
open PySem PySem.Spec PyProof.Rows
/-! ### the cells that a comprehension takes from around it -/
noncomputable def clOf (cells : List (Str × Addr)) : List (Str × NameKind) → List (Str × Addr) → List (Str × Addr)
  | [], acc => acc
  | (n, k) :: r, acc => if (k == .free) = true then clOf cells r ((n, (cells.lookup n).getD 0) :: acc) else clOf cells r acc
theorem clOf_run {env : Env} : ∀ (names : List (Str × NameKind)) (acc : List (Str × Addr)), (∀ y ∈ names, y.2 = .free → ∃ c, env.cells.lookup y.1 = some c) →
    (forIn names acc fun (x : Str × NameKind) (r : List (Str × Addr)) => (if (x.2 == .free) = true then do let a ← cellOf env x.1; pure (ForInStep.yield ((x.1, a) :: r)) else pure (ForInStep.yield r) : Sem (ForInStep (List (Str × Addr))))) = (pure (clOf env.cells names acc) : Sem _)
  | [], acc, _ => rfl
  | (n, k) :: r, acc, h => by
    have ih := fun acc => clOf_run (env := env) r acc fun y hy => h y (List.mem_cons_of_mem _ hy)
    rw [List.forIn_cons]
    cases hk : (k == NameKind.free) with
    | false =>
      have e1 : clOf env.cells ((n, k) :: r) acc = clOf env.cells r acc := by
        show (if (k == NameKind.free) = true then _ else _) = _
        rw [hk]; rfl
      rw [e1, ← ih acc]
      rfl
    | true =>
      have hk' : k = .free := by simpa using hk
      obtain ⟨c, hc⟩ := h (n, k) List.mem_cons_self hk'
      have e1 : clOf env.cells ((n, k) :: r) acc = clOf env.cells r ((n, c) :: acc) := by
        show (if (k == NameKind.free) = true then clOf env.cells r ((n, (env.cells.lookup n).getD 0) :: acc) else _) = _
        rw [hk, show env.cells.lookup n = some c from hc]; rfl
      rw [e1, ← ih]
      have e2 : cellOf env n = pure c := by
        unfold cellOf
        rw [show env.cells.lookup n = some c from hc]
      rw [show cellOf env (n, k).fst = pure c from e2]; rfl
theorem closure_of {scope : Scope} {env : Env} (h : ∀ y ∈ scope.names, y.2 = .free → ∃ c, env.cells.lookup y.1 = some c) : closureFor scope env = pure (clOf env.cells scope.names []) := by
  have q := clOf_run (env := env) scope.names [] h
  have e : closureFor scope env = Bind.bind (forIn scope.names [] fun (x : Str × NameKind) (r : List (Str × Addr)) => (if (x.2 == .free) = true then do let a ← cellOf env x.1; pure (ForInStep.yield ((x.1, a) :: r)) else pure (ForInStep.yield r) : Sem (ForInStep (List (Str × Addr))))) (fun r => pure r) := rfl
  rw [e, q]; rfl
theorem clOf_acc {cells : List (Str × Addr)} {z : Str} : ∀ (names : List (Str × NameKind)) (acc : List (Str × Addr)), (acc.lookup z).isSome = true → ((clOf cells names acc).lookup z).isSome = true
  | [], _, h => h
  | (n, k) :: r, acc, h => by
    unfold clOf
    split
    · refine clOf_acc r _ ?_
      rw [List.lookup_cons]
      cases (z == n)
      · exact h
      · rfl
    · exact clOf_acc r _ h
theorem clOf_has {cells : List (Str × Addr)} {z : Str} : ∀ (names : List (Str × NameKind)) (acc : List (Str × Addr)), (z, NameKind.free) ∈ names → ((clOf cells names acc).lookup z).isSome = true
  | [], _, h => nomatch h
  | (n, k) :: r, acc, h => by
    unfold clOf
    rcases List.mem_cons.mp h with e | h
    · cases e
      rw [if_pos (by rfl)]
      refine clOf_acc r _ ?_
      rw [List.lookup_cons, show (z == z) = true from by simp]; rfl
    · split
      · exact clOf_has r _ h
      · exact clOf_has r _ h
theorem clOf_sub {cells : List (Str × Addr)} {z : Str} {c : Addr} : ∀ (names : List (Str × NameKind)) (acc : List (Str × Addr)), (∀ y ∈ names, y.2 = .free → ∃ c, cells.lookup y.1 = some c) → (∀ z c, acc.lookup z = some c → cells.lookup z = some c) →
    (clOf cells names acc).lookup z = some c → cells.lookup z = some c
  | [], _, _, h, e => h _ _ e
  | (n, k) :: r, acc, hn, h, e => by
    unfold clOf at e
    split at e
    · rename_i hk
      have hk' : k = .free := by simpa using hk
      obtain ⟨c', hc⟩ := hn (n, k) List.mem_cons_self hk'
      refine clOf_sub r _ (fun y hy => hn y (List.mem_cons_of_mem _ hy)) (fun z1 c1 e9 => ?_) e
      rw [show cells.lookup n = some c' from hc] at e9
      rw [List.lookup_cons] at e9
      cases hz : (z1 == n) with
      | false => rw [hz] at e9; exact h _ _ e9
      | true =>
        rw [hz] at e9
        have hz' : z1 = n := by simpa using hz
        rw [hz', show cells.lookup n = some c' from hc]
        exact e9
    · exact clOf_sub r _ (fun y hy => hn y (List.mem_cons_of_mem _ hy)) h e
structure CompOk2 (X : Cx) (scope : Scope) (cl : List (Str × Addr)) (xs ns : List Str) (fr : List Nat) : Prop where
  clos : closureFor scope X.env = pure cl
  sub : ∀ z c, cl.lookup z = some c → X.env.cells.lookup z = some c
  kind : scope.kind = .function
  nocell : ∀ y ∈ scope.names, y.2 ≠ .cell
  names : ∀ y ∈ scope.names, y.2 = .local → scope.names.lookup y.1 = some .local
  has : ∀ z, ((relabel scope X.env).names.lookup z = some .cell ∨ (relabel scope X.env).names.lookup z = some .free) → ∃ c, cl.lookup z = some c
  out : ∀ (j : Nat) (z : Str), ns[j]? = some z → ∃ i, fr[j]? = some i ∧ X.N[i]? = some z ∧ X.env.scope.names.lookup z = some .cell ∧ (relabel scope X.env).names.lookup z = some .cell
  len : fr.length = ns.length
/-- what can be looked at: the scope around, the comprehension's, the names -/
noncomputable def compB (sc cs : List (Str × NameKind)) (N ns : List Str) (fr : List Nat) : Bool :=
  cs.all (fun y => y.2 != .cell) && cs.all (fun y => y.2 != .local || cs.lookup y.1 == some .local) && cs.all (fun y => y.2 != .free || sc.lookup y.1 == some .cell)
    && (fr.length == ns.length) && (List.range ns.length).all (fun j => match ns[j]?, fr[j]? with
      | some z, some i => N[i]? == some z && sc.lookup z == some .cell && cs.lookup z == some .free
      | _, _ => false)
theorem lookup_relabel_free {env : Env} (hk : env.scope.kind = .function) : ∀ {names : List (Str × NameKind)} {x : Str}, names.lookup x = some .free → env.kindOf x = some .cell →
    (names.map fun (n, k) => if (k == NameKind.free && env.scope.kind == .function && env.kindOf n == some .cell) then (n, NameKind.cell) else (n, k)).lookup x = some .cell
  | [], _, h, _ => by simp at h
  | (n, k) :: r, x, h, hc => by
    have ih := @lookup_relabel_free env hk r x
    show List.lookup x ((if (k == NameKind.free && env.scope.kind == .function && env.kindOf n == some .cell) = true then (n, NameKind.cell) else (n, k)) :: _) = _
    cases hx : x == n with
    | true =>
      have e : x = n := by simpa using hx
      simp only [List.lookup_cons, hx] at h
      cases h
      subst e
      rw [if_pos (by rw [hk, hc]; decide)]
      simp only [List.lookup_cons, hx]
    | false =>
      simp only [List.lookup_cons, hx] at h
      by_cases hc' : (k == NameKind.free && env.scope.kind == .function && env.kindOf n == some .cell) = true
      · rw [if_pos hc']; simp only [List.lookup_cons, hx]; exact ih h hc
      · rw [if_neg hc']; simp only [List.lookup_cons, hx]; exact ih h hc
theorem relabel_mem {env : Env} : ∀ {names : List (Str × NameKind)} {x : Str} {k : NameKind},
    (names.map fun (n, k) => if (k == NameKind.free && env.scope.kind == .function && env.kindOf n == some .cell) then (n, NameKind.cell) else (n, k)).lookup x = some k → (∀ y ∈ names, y.2 ≠ .cell) → (k = .cell ∨ k = .free) → (x, NameKind.free) ∈ names
  | [], _, _, h, _, _ => by simp at h
  | (n, k0) :: r, x, k, h, hn, hk => by
    have ih := @relabel_mem env r x k
    have h' : List.lookup x ((if (k0 == NameKind.free && env.scope.kind == .function && env.kindOf n == some .cell) = true then (n, NameKind.cell) else (n, k0)) :: r.map fun (n, k) => if (k == NameKind.free && env.scope.kind == .function && env.kindOf n == some .cell) then (n, NameKind.cell) else (n, k)) = some k := h
    cases hx : x == n with
    | false =>
      refine List.mem_cons_of_mem _ (ih ?_ (fun y hy => hn y (List.mem_cons_of_mem _ hy)) hk)
      by_cases hc' : (k0 == NameKind.free && env.scope.kind == .function && env.kindOf n == some .cell) = true
      · rw [if_pos hc'] at h'; simpa only [List.lookup_cons, hx] using h'
      · rw [if_neg hc'] at h'; simpa only [List.lookup_cons, hx] using h'
    | true =>
      have e : x = n := by simpa using hx
      subst e
      by_cases hc' : (k0 == NameKind.free && env.scope.kind == .function && env.kindOf x == some .cell) = true
      · have : k0 = .free := by
          rw [Bool.and_eq_true, Bool.and_eq_true] at hc'
          simpa using hc'.1.1
        rw [this]; exact List.mem_cons_self
      · rw [if_neg hc'] at h'
        simp only [List.lookup_cons, hx] at h'
        have : k0 = k := Option.some.inj h'
        subst this
        rcases hk with e | e
        · exact absurd e (hn (x, k0) List.mem_cons_self)
        · rw [e]; exact List.mem_cons_self
theorem CompOk2.of {X : Cx} {scope sc : Scope} {N xs ns : List Str} {fr : List Nat} (hsc : X.env.scope = sc) (hN : X.N = N) (hcl : ∃ n, X.env.cells = cellsFrom n X.env.scope.names []) (hk : X.env.scope.kind = .function) (kind : scope.kind = .function)
    (h : compB sc.names scope.names N ns fr = true) : CompOk2 X scope (clOf X.env.cells scope.names []) xs ns fr := by
  subst hsc hN
  unfold compB at h
  rw [Bool.and_eq_true, Bool.and_eq_true, Bool.and_eq_true, Bool.and_eq_true] at h
  obtain ⟨⟨⟨⟨h1, h2⟩, h3⟩, h4⟩, h5⟩ := h
  have n1 : ∀ y ∈ scope.names, y.2 ≠ .cell := fun y hy e => by
    have := List.all_eq_true.mp h1 y hy
    rw [e] at this; cases this
  have n2 : ∀ y ∈ scope.names, y.2 = .local → scope.names.lookup y.1 = some .local := fun y hy e => by
    have := List.all_eq_true.mp h2 y hy
    rw [e] at this
    simpa using this
  have n3 : ∀ y ∈ scope.names, y.2 = .free → X.env.scope.names.lookup y.1 = some .cell := fun y hy e => by
    have := List.all_eq_true.mp h3 y hy
    rw [e] at this
    simpa using this
  have n4 : ∀ y ∈ scope.names, y.2 = .free → ∃ c, X.env.cells.lookup y.1 = some c := fun y hy e => by
    obtain ⟨n, hn⟩ := hcl
    rw [hn]
    exact cell_has (n3 y hy e)
  refine ⟨closure_of n4, fun z c e => clOf_sub _ [] n4 (fun z c e => by cases e) e, kind, n1, n2, fun z hz => ?_, fun j z e => ?_, by simpa using h4⟩
  · refine Option.isSome_iff_exists.mp (clOf_has _ [] ?_)
    rcases hz with q | q
    · exact relabel_mem q n1 (.inl rfl)
    · exact relabel_mem q n1 (.inr rfl)
  · have hj : j < ns.length := (List.getElem?_eq_some_iff.mp e).1
    have := List.all_eq_true.mp h5 j (List.mem_range.mpr hj)
    rw [e] at this
    have h4' : fr.length = ns.length := by simpa using h4
    have hj' : j < fr.length := by rw [h4']; exact hj
    rw [List.getElem?_eq_getElem hj'] at this
    have this' : (X.N[fr[j]]? == some z && X.env.scope.names.lookup z == some .cell && scope.names.lookup z == some .free) = true := this
    rw [Bool.and_eq_true, Bool.and_eq_true] at this'
    obtain ⟨⟨a1, a2⟩, a3⟩ := this'
    have a2' : X.env.scope.names.lookup z = some .cell := by simpa using a2
    exact ⟨fr[j], List.getElem?_eq_getElem hj', by simpa using a1, a2', lookup_relabel_free hk (by simpa using a3) a2'⟩
/-! ### the tests of a comprehension -/
noncomputable def PF (X : Cx) (ifs : List Expr) (t : TT) : Prop :=
  ∀ (pins : List (Addr × Obj)) (s : Shared) (σ : St) (H : Hp) (Q : Bool → Hp → Prop), Inv X pins σ H s → t σ H Q →
    wpAny (model X.prog X.w) X.A (forIn ifs true fun c r => if r = true then do let ok ← isTrue c X.env (eval c X.env); pure (ForInStep.yield ok) else pure (ForInStep.yield r)) (TP X pins σ Q) X.xe s
noncomputable def fNil : TT := fun _ H Q => Q true H
theorem pf_nil {X : Cx} : PF X [] fNil := fun pins s σ H Q I h => wpAny_tests_nil ⟨H, I, h⟩
section
variable {prog : Program} {w : World} {A : Around} {R : Result → Shared → Prop} {s : Shared}
theorem comp_loop2 {elt target iter : Expr} {ifs : List Expr} {scope : Scope} {pos : Pos} {it acc : Value} {env : Env} (I : Nat → Shared → Prop)
    (turn : ∀ n s, I n s → wpAny (model prog w) A (pyNext it) (fun r s₁ => match r with
      | none => R (.ok .next) s₁
      | some v => wpAny (model prog w) A (letOwnedTupleGo target it v) (fun _ s₁' => wpAny (model prog w) A (assign target env v) (fun _ s₂ =>
          wpAny (model prog w) A (forIn ifs true fun c r => if r = true then do let ok ← isTrue c env (eval c env); pure (ForInStep.yield ok) else pure (ForInStep.yield r)) (fun ok s₂' => if ok = true then wpAny (model prog w) A (eval elt env) (fun x s₃ =>
            wpAny (model prog w) A (call (.builtin "list.append") [acc, x]) (fun _ s₄ => ∃ m, m < n ∧ I m s₄) (notedBy (model prog w) A env fun e s' => R (.error e) s') s₃) (notedBy (model prog w) A env fun e s' => R (.error e) s') s₂'
            else ∃ m, m < n ∧ I m s₂') (notedBy (model prog w) A env fun e s' => R (.error e) s') s₂)
          (notedBy (model prog w) A env fun e s' => R (.error e) s') s₁') (notedBy (model prog w) A env fun e s' => R (.error e) s') s₁) (notedBy (model prog w) A env fun e s' => R (.error e) s') s)
    (n : Nat) (h : I n s) : codeAny (model prog w) A (.compLoop (.ListComp elt [⟨target, iter, ifs, 0⟩] scope pos) 0 it acc env) R s := by
  refine codeAny_loop rfl I (fun n s hI => ?_) n h
  show wpAny _ A ((compTurn (.ListComp elt [⟨target, iter, ifs, 0⟩] scope pos) 0 it acc env).onRaise (fun x => do noteFrame x env; theTreesLotGoes x)) _ _ s
  refine wpAny_noted ?_
  rw [compTurn_list]
  refine wpAny_bind (wpAny_standAt (wpAny_bind (wpAny_mono (turn n s hI) (fun r s₁ h₁ => ?_) fun _ _ h' => h')))
  cases r with
  | none => exact wpAny_pure h₁
  | some v =>
    refine wpAny_bind (wpAny_mono h₁ (fun _ s₀ h₀' => ?_) fun _ _ h' => h')
    refine wpAny_bind (wpAny_mono h₀' (fun _ s₂ h₂ => ?_) fun _ _ h' => h')
    refine wpAny_bind (wpAny_mono h₂ (fun okb s₃ h₃ => ?_) fun _ _ h' => h')
    cases okb with
    | false => exact wpAny_pure ⟨rfl, h₃⟩
    | true => exact wpAny_bind (wpAny_bind (wpAny_mono h₃ (fun x s₄ h₄ => wpAny_bind (wpAny_mono h₄ (fun _ s₅ h₅ => wpAny_pure (wpAny_pure ⟨rfl, h₅⟩)) fun _ _ h' => h')) fun _ _ h' => h'))
end
/-- the end of a comprehension's reading: J the iterator; Pv k: behind k turns -/
noncomputable def CompGoal (J : It) (nx : Nat) (g : TG) (fr : List Nat) (tt : TT) (te : TE) (σ : St) (Q : VK) (H1 : Hp) (l : Addr) : Prop :=
  ∃ W : Nat → Nat → Hp → Prop, (∃ m, W 0 m (upd H1 l (.lst []))) ∧ ∀ k m H, W k m H →
    (J.stop k H ∧ Q (.ref l) H) ∨ (J.go k H ∧ ∀ v H', J.yld k H v H' → ∀ os : St, os.length = nx → g v (os ++ inner σ fr) H' fun σ2 H2 => (∃ os' : St, os'.length = nx ∧ σ2 = os' ++ inner σ fr) ∧ tt σ2 H2 fun b H3 =>
      if b = true then te σ2 H3 fun y H4 => ∃ zs m', H4 l = some (.lst zs) ∧ zs.length < sizeLine ∧ m' < m ∧ W (k + 1) m' (upd H4 l (.lst (zs ++ [y]))) else ∃ m', m' < m ∧ W (k + 1) m' H3)
/-- nx: how many names the target has; fr: where the names that it takes from around stand there -/
noncomputable def tCompE (wi : TI) (nx : Nat) (fr : List Nat) (g : TG) (tt : TT) (te : TE) : TE := fun σ H Q => wi σ H fun J H1 => ∀ l, H1 l = none → CompGoal J nx g fr tt te σ Q H1 l
theorem comp_all {X : Cx} {pins : List (Addr × Obj)} {σ : St} {H : Hp} {s : Shared} {tg iter elt : Expr} {ifs : List Expr} {scope : Scope} {pos pos' : Pos} {cl : List (Str × Addr)} {xs ns : List Str} {fr : List Nat} {wi : TI} {g : TG} {tt : TT} {te : TE}
    {use : Option (Value → Sem Unit)} {Qv : Value → Shared → Prop} {R : VK}
    (hc : X.calm = true) (ok : CompOk2 X scope cl xs ns fr) (hI : PI X tg iter wi) (hg : ∀ C s₂ H2 fp, PG (cxComp X scope cl (xs ++ ns) C s₂ H2 fp) tg g) (hf : ∀ C s₂ H2 fp, PF (cxComp X scope cl (xs ++ ns) C s₂ H2 fp) ifs tt)
    (he : ∀ C s₂ H2 fp, PE (cxComp X scope cl (xs ++ ns) C s₂ H2 fp) elt te) (hs : ∀ x, foldedSetIterable iter X.env x = pure x)
    (I : Inv X pins σ H s) (h : tCompE wi xs.length fr g tt te σ H R)
    (fin : ∀ (C l : Addr) (m : Str → Option Value) (s4 : Shared) (Hk : Hp), Inv X pins σ Hk s4 → s4.heap.Ns C m → Hk C = none → C ≠ X.env.locals → (∀ z c, X.env.cells.lookup z = some c → c ≠ C) → X.s₀.heap.objs.size ≤ C → (∀ p ∈ X.pn ++ pins, p.1 ≠ C) →
      R (.ref l) Hk → compPost (model X.prog X.w) X.A X.xe use Qv (.ref l) C (.ok .next) s4) :
    wpAny (model X.prog X.w) X.A (comprehension (.ListComp elt [⟨tg, iter, ifs, 0⟩] scope pos) scope X.env pos' (newList []) false (eval iter X.env) use) Qv X.xe s := by
  refine wpAny_comprehension_free (use := use) rfl hs ok.clos ok.kind ok.names ?_
  refine thn (hI pins s σ H _ I h) fun v s1 h1 => thn h1 fun itv s2 h2 => ?_
  obtain ⟨it, fp, tn, J, H2, rfl, I2, T, st2, f2, rd⟩ := h2
  refine wpAny_newObj_type (wpAny_newFunctionEnv ok.nocell (by intro y hy; simp at hy) (fun h₁ hns₁ hsb₁ => ?_) ok.kind)
  dsimp only at hns₁ hsb₁ ⊢
  generalize hG : s2.heap.push { cls := .type "list", dict := none, data := .seq ([] : List Value).toArray } = G at hns₁ hsb₁ ⊢
  have hC : G.objs.size = s2.heap.objs.size + 1 := by rw [← hG, Heap.size_push]
  have below : ∀ b, b < s2.heap.objs.size → b ≠ G.objs.size ∧ b ≠ s2.heap.objs.size := fun b hb => ⟨by rw [hC]; exact Nat.ne_of_lt (Nat.lt_succ_of_lt hb), Nat.ne_of_lt hb⟩
  have old : ∀ b o, s2.heap.get? b = some o → h₁.get? b = some o := fun b o e => hsb₁.extBut b o (below b (Heap.lt_size e)).1 (Heap.get?_push_of_some _ (hG ▸ Heap.get?_push_of_some _ e))
  have hacc : h₁.get? s2.heap.objs.size = some { cls := .type "list", data := .seq ([] : List Value).toArray } :=
    hsb₁.extBut _ _ (by rw [hC]; exact Nat.ne_of_lt (Nat.lt_succ_self _)) (Heap.get?_push_of_some _ (hG ▸ Heap.get?_push_size _ rfl))
  have lfree : H2 s2.heap.objs.size = none := I2.hok.fresh (Nat.le_refl _)
  have fplt : ∀ b ∈ fp, b < s2.heap.objs.size := fun b hb => by
    obtain ⟨o, e, _⟩ := T.obj 0 _ st2 b hb
    exact Heap.lt_size e
  have stk : ∀ b ∈ frs X.stack, b ∈ X.env.locals :: X.fs := I2.stkSub
  have clc : ∀ z c, cl.lookup z = some c → c < s2.heap.objs.size := fun z c e => by
    obtain ⟨v, q⟩ := I2.cell z c (ok.sub z c e)
    exact q.lt
  have okC : (cxComp X scope cl (xs ++ ns) G.objs.size s2 H2 fp).Ok := by
    refine ⟨I2.ok.mod, ok.kind, I2.ok.glob, I2.ok.blt, ?_, fun a b c h1 h2 => I2.ok.inj a b c (ok.sub a c h1) (ok.sub b c h2), fun z hz => ok.has z hz, fun z c hf => ?_, fun _ => I2.ok.hd hc, I2.ok.frames, .inl rfl, fun b hb => ⟨(below b (fplt b hb)).1, fun z c e => ?_⟩, I2.bs, Nat.le_trans I2.ok.bsz I2.sz, fun b o e hb => ?_, fun b hb => ?_, I2.stack, I2.stkFree⟩
    · show s2.heap.objs.size ≤ G.objs.size
      rw [hC]; exact Nat.le_succ _
    · exact absurd (show false = true from hf) Bool.false_ne_true
    · exact (f2 b hb).2.2.2.2.1 z c (ok.sub z c e)
    · rcases (f2 b hb).2.2.2.1 with z | z
      · exact I2.ok.noex b o e z
      · exact absurd (Nat.lt_of_lt_of_le (Heap.lt_size e) (Nat.le_trans I2.ok.bsz z)) (Nat.lt_irrefl _)
    · intro z
      rcases List.mem_cons.mp (stk b z) with q | q
      · exact (f2 b hb).2.1 q
      · exact (f2 b hb).2.2.1 q
  have fpC : ∀ {H' : Hp}, (∀ b ∈ fp, H' b = none) → ∀ b ∈ fp, FpOk (cxComp X scope cl (xs ++ ns) G.objs.size s2 H2 fp) [] H' b := fun hn b hb =>
    ⟨hn b hb, (below b (fplt b hb)).1, okC.exfs b hb, .inl hb, fun z c e => (f2 b hb).2.2.2.2.1 z c (ok.sub z c e), fun p hp => absurd (show p ∈ ([] : List (Addr × Obj)) from hp) (by simp)⟩
  have I4 : Inv (cxComp X scope cl (xs ++ ns) G.objs.size s2 H2 fp) [] (List.replicate xs.length none ++ inner σ fr) (upd H2 s2.heap.objs.size (.lst [])) { s2 with heap := h₁, toks := s2.toks + ([] : List (Str × Value)).length } := by
    refine ⟨okC, rfl, I2.bare, Un.laid old (Nat.le_refl _) lfree, ⟨_, hns₁, fun j z u e1 e2 e3 => ?_⟩, fun z c e => ?_, ?_, fun z c e => ?_, fun p hp => absurd (show p ∈ ([] : List (Addr × Obj)) from hp) (by simp), I2.hok.laid old (Nat.le_refl _) ⟨Nat.zero_le _, [], 0, .nil, hacc⟩, ?_⟩
    · by_cases hj : j < xs.length
      · rw [List.getElem?_append_left (by rw [List.length_replicate]; exact hj), List.getElem?_replicate, if_pos hj] at e2
        have e2' : (none : Option V) = some u := Option.some.inj e2
        cases e2'
      · have hj' : xs.length ≤ j := Nat.not_lt.mp hj
        rw [List.getElem?_append_right (by rw [List.length_replicate]; exact hj'), List.length_replicate] at e2
        have e1' : ns[j - xs.length]? = some z := by
          have e1'' : (xs ++ ns)[j]? = some z := e1
          rw [List.getElem?_append_right hj'] at e1''; exact e1''
        obtain ⟨i', q1, q2, q3, q4⟩ := ok.out _ z e1'
        have e3' : σ[i']? = some (some u) := by
          unfold inner at e2
          rw [List.getElem?_map, q1] at e2
          have e4 : (σ[i']?).join = some u := Option.some.inj e2
          cases q : σ[i']? with
          | none => rw [q] at e4; cases e4
          | some o => rw [q] at e4; cases o with
            | none => cases e4
            | some o => cases e4; rfl
        obtain ⟨m, hn, hl⟩ := I2.loc
        obtain ⟨val, r, l⟩ := hl i' z u q2 e3' (.inr (.inl q3))
        refine ⟨val, r, .inr ⟨.inl q4, ?_⟩⟩
        obtain ⟨c', hc'⟩ := ok.has z (.inl q4)
        rcases l with ⟨k1, _⟩ | ⟨_, c, hcc, hcell⟩
        · have k1' : X.env.scope.names.lookup z = some .local := k1
          rw [q3] at k1'; cases k1'
        · rw [ok.sub z c' hc'] at hcc
          cases hcc
          obtain ⟨ob, ho, hd⟩ := hcell
          exact ⟨c', hc', ob, old _ _ ho, hd⟩
    · obtain ⟨v', ob, ho, hd⟩ := I2.cell z c (ok.sub z c e)
      exact ⟨v', ob, old _ _ ho, hd⟩
    · show upd H2 s2.heap.objs.size (.lst []) G.objs.size = none
      rw [upd_ne (by rw [hC]; exact Nat.ne_of_gt (Nat.lt_succ_self _))]
      exact I2.hok.fresh (by rw [hC]; exact Nat.le_succ _)
    · rw [upd_ne (Nat.ne_of_lt (clc z c e))]
      exact I2.freeC z c (ok.sub z c e)
    · show (List.replicate xs.length none ++ inner σ fr).length = (xs ++ ns).length
      unfold inner
      rw [List.length_append, List.length_append, List.length_map, ok.len, List.length_replicate]
  obtain ⟨W, ⟨m0, w0⟩, turns⟩ := rd _ lfree
  have loop : codeAny (model X.prog X.w) X.A (.compLoop (.ListComp elt [⟨tg, iter, ifs, 0⟩] scope pos) 0 (.ref it) (.ref s2.heap.objs.size) (compEnvC scope cl G.objs.size X.env))
      (compPost (model X.prog X.w) X.A X.xe use Qv (.ref s2.heap.objs.size) G.objs.size) { s2 with heap := h₁, toks := s2.toks + ([] : List (Str × Value)).length } := by
    refine comp_loop2 (fun n s' => ∃ k Hk σk, Inv (cxComp X scope cl (xs ++ ns) G.objs.size s2 H2 fp) [] σk Hk s' ∧ (∃ os : St, os.length = xs.length ∧ σk = os ++ inner σ fr) ∧ tn k s'.heap ∧ (∀ b ∈ fp, Hk b = none) ∧ W k n Hk) ?_ m0
      ⟨0, _, _, I4, ⟨_, List.length_replicate, rfl⟩, T.keep _ _ _ st2 fun b _ o e => old b o e, fun b hb => by rw [upd_ne (below b (fplt b hb)).2]; exact (f2 b hb).1, w0⟩
    rintro n s3 ⟨k, Hk, σk, I3, ⟨os, hol, hσ⟩, st3, fr3, w3⟩
    subst hσ
    rcases turns k n Hk w3 with ⟨stop, qn⟩ | ⟨go, step⟩
    · refine thn (T.done (cxComp X scope cl (xs ++ ns) G.objs.size s2 H2 fp) rfl rfl rfl rfl k [] s3 _ Hk _ I3 (fpC fr3) st3 stop) fun r s4 zz => ?_
      obtain ⟨hr, I5⟩ := zz
      subst hr
      have J5 : Inv X pins σ Hk s4 := I2.call' I5.os I5.base I5.hok I5.bare fun b hb => ⟨(f2 b hb).2.2.2.1, (f2 b hb).2.1, (f2 b hb).2.2.2.2.1, (f2 b hb).2.2.2.2.2⟩
      obtain ⟨mC, hnC, _⟩ := I5.loc
      have neL : G.objs.size ≠ X.env.locals := Nat.ne_of_gt (Nat.lt_trans I2.lt (by rw [hC]; exact Nat.lt_succ_self _))
      have neCell : ∀ z c, X.env.cells.lookup z = some c → c ≠ G.objs.size := fun z c e q => by
        obtain ⟨v', hcell⟩ := I2.cell z c e
        have := hcell.lt
        rw [q, hC] at this
        exact absurd this (Nat.not_lt.mpr (Nat.le_succ _))
      exact fin G.objs.size s2.heap.objs.size mC s4 Hk J5 hnC I5.free neL neCell (Nat.le_trans I2.sz (by rw [hC]; exact Nat.le_succ _)) (fun p hp q => by
        have := Heap.lt_size (I2.pin p hp).1
        rw [q, hC] at this
        exact absurd this (Nat.not_lt.mpr (Nat.le_succ _))) qn
    · refine thn (T.item (cxComp X scope cl (xs ++ ns) G.objs.size s2 H2 fp) rfl rfl rfl rfl k [] s3 _ Hk _ I3 (fpC fr3) st3 go) fun r s4 zz => ?_
      obtain ⟨u, hr, h4⟩ := zz
      subst hr
      refine thn h4 fun _ s5 zz => ?_
      obtain ⟨val, H5, I5, r5, y5, st5, fr5⟩ := zz
      have I5' := I5.pinned (fpC fr5) (T.obj _ _ st5)
      refine wpAny_mono (hg _ _ _ _ _ s5 _ H5 val u _ I5' r5 (step val H5 y5 os hol)) (fun _ s6 zz => ?_) fun _ _ z => z.elim
      obtain ⟨σ6, H6, I6, ⟨os6, hol6, hσ6⟩, q6⟩ := zz
      subst hσ6
      have back : ∀ {H8 : Hp} {s8 : Shared} {m' : Nat}, Inv (cxComp X scope cl (xs ++ ns) G.objs.size s2 H2 fp) ([] ++ pinsAt fp s5.heap) (os6 ++ inner σ fr) H8 s8 → m' < n → W (k + 1) m' H8 →
          ∃ m, m < n ∧ ∃ k Hk σk, Inv (cxComp X scope cl (xs ++ ns) G.objs.size s2 H2 fp) [] σk Hk s8 ∧ (∃ os : St, os.length = xs.length ∧ σk = os ++ inner σ fr) ∧ tn k s8.heap ∧ (∀ b ∈ fp, Hk b = none) ∧ W k m Hk := fun {H8 s8 m'} I8 hm w8 => by
        refine ⟨m', hm, k + 1, _, _, I8.unpinned, ⟨os6, hol6, rfl⟩, T.keep _ _ _ st5 fun b hb o e => (I8.pin (b, o) (List.mem_append_right _ (List.mem_append_right _ (mem_pinsAt hb e)))).1, fun b hb => ?_, w8⟩
        obtain ⟨ob, e, d⟩ := T.obj _ _ st5 b hb
        exact (I8.pin (b, ob) (List.mem_append_right _ (List.mem_append_right _ (mem_pinsAt hb e)))).2.1
      refine wpAny_mono (hf _ _ _ _ _ s6 _ H6 _ I6 q6) (fun b s6' zz => ?_) fun _ _ z => z.elim
      obtain ⟨H6', I6', q6'⟩ := zz
      cases b with
      | false =>
        rw [if_neg (by decide)] at q6' ⊢
        obtain ⟨m', hm, w7⟩ := q6'
        exact back I6' hm w7
      | true =>
        rw [if_pos rfl] at q6' ⊢
        refine wpAny_mono (he _ _ _ _ _ s6' _ H6' _ I6' q6') (fun yv s7 zz => ?_) fun _ _ z => z.elim
        obtain ⟨yy, H7, I7, r7, zs, m', hz, hl, hm, w7⟩ := zz
        refine wpAny_mono (mt_append (X := cxComp X scope cl (xs ++ ns) G.objs.size s2 H2 fp) _ s7 _ H7 (.ref s2.heap.objs.size) [yy] (.ref s2.heap.objs.size) [yv] (fun _ H8 => H8 = upd H7 s2.heap.objs.size (.lst (zs ++ [yy]))) I7 rfl (.cons r7 .nil) ⟨_, zs, yy, rfl, rfl, hz, hl, rfl⟩) (fun _ s8 zz => ?_) fun _ _ z => z.elim
        obtain ⟨_, H8, I8, _, e8⟩ := zz
        subst e8
        exact back I8 hm w7
  exact codeAny_compStart_list loop (T.self _ 0 _ _ _ (T.keep _ _ _ st2 fun b _ o e => old b o e) loop)
theorem pe_comp {X : Cx} {tg iter elt : Expr} {ifs : List Expr} {scope : Scope} {pos : Pos} {cl : List (Str × Addr)} {xs ns : List Str} {fr : List Nat} {wi : TI} {g : TG} {tt : TT} {te : TE}
    (hc : X.calm = true) (ok : CompOk2 X scope cl xs ns fr) (hI : PI X tg iter wi) (hg : ∀ C s₂ H2 fp, PG (cxComp X scope cl (xs ++ ns) C s₂ H2 fp) tg g) (hf : ∀ C s₂ H2 fp, PF (cxComp X scope cl (xs ++ ns) C s₂ H2 fp) ifs tt)
    (he : ∀ C s₂ H2 fp, PE (cxComp X scope cl (xs ++ ns) C s₂ H2 fp) elt te) (hs : ∀ x, foldedSetIterable iter X.env x = pure x := by intro _; rfl) :
    PE X (.ListComp elt [⟨tg, iter, ifs, 0⟩] scope pos) (tCompE wi xs.length fr g tt te) := by
  intro pins s σ H Q I h
  rw [eval_ListComp]
  refine comp_all (use := none) hc ok hI hg hf he hs I h fun C l m s4 Hk J5 hn hC neL neCell sz hp q => ?_
  exact ⟨m, hn, fun h' sb => ⟨.ref l, Hk, J5.turned (t' := s4.toks) (it := C) (fun b o hb e => sb.extBut b o hb e) hC neL (.inr sz) neCell hp, rfl, q⟩⟩
theorem ps_compE {X : Cx} {i : Nat} {y : Str} {py spos : Pos} {tg iter elt : Expr} {ifs : List Expr} {scope : Scope} {pos : Pos} {cl : List (Str × Addr)} {xs ns : List Str} {fr : List Nat} {wi : TI} {g : TG} {tt : TT} {te : TE}
    (hc : X.calm = true) (ok : CompOk2 X scope cl xs ns fr) (hN : X.N.Nodup) (hi : X.N[i]? = some y) (hy : Loc X.env.scope y) (hfn : X.fn y = true ∨ X.env.scope.names.lookup y = some .local)
    (hsw : swapsWith (.ListComp elt [⟨tg, iter, ifs, 0⟩] scope pos) (some (.Name y py)) spos.line X.env = pure true)
    (hI : PI X tg iter wi) (hg : ∀ C s₂ H2 fp, PG (cxComp X scope cl (xs ++ ns) C s₂ H2 fp) tg g) (hf : ∀ C s₂ H2 fp, PF (cxComp X scope cl (xs ++ ns) C s₂ H2 fp) ifs tt)
    (he : ∀ C s₂ H2 fp, PE (cxComp X scope cl (xs ++ ns) C s₂ H2 fp) elt te) (hs : ∀ x, foldedSetIterable iter X.env x = pure x := by intro _; rfl) :
    PS X (.Assign [.Name y py] (.ListComp elt [⟨tg, iter, ifs, 0⟩] scope pos) spos) (tAsg (tCompE wi xs.length fr g tt te) (gName i)) := by
  intro pins s σ H D I h
  rw [exec_Assign_Name_used _ _ _ _ hsw]
  refine wpAny_bind (wpAny_standAt (wpAny_bind ?_))
  show wpAny _ X.A (do let _ ← comprehension (.ListComp elt [⟨tg, iter, ifs, 0⟩] scope pos) scope X.env _ (newList []) false (eval iter X.env) (some (assign (.Name y py) X.env))) _ _ s
  refine wpAny_bind (wpAny_mono (comp_all (use := some (assign (.Name y py) X.env)) (Qv := fun _ s' => SP X pins D .next s') hc ok hI hg hf he hs I h fun C l m s4 Hk J5 hn hC neL neCell sz hp q => ?_) (fun _ s' hq => wpAny_pure (wpAny_pure hq)) fun _ _ e => e)
  show wpAny _ X.A (assign (.Name y py) X.env (.ref l)) _ _ s4
  refine wpAny_assign_Name (store_ok2 J5 hN hi hy (v := .ref l) rfl (fun s5 I6 sb => ?_) hfn)
  obtain ⟨aa, hsb, haa⟩ := sb
  have aC : C ≠ aa := by
    rcases haa with q | q
    · rw [q]; exact neL
    · exact fun z => neCell _ _ q z.symm
  refine ⟨m, ?_, fun h' sb' => ⟨_, _, I6.turned (t' := s5.toks) (it := C) (fun b o hb e => sb'.extBut b o hb e) hC neL (.inr sz) neCell hp, q⟩⟩
  obtain ⟨oC, es, ep, ho, r⟩ := hn
  exact ⟨oC, es, ep, hsb.extBut _ _ aC ho, r⟩
end L2


set_option Elab.async false
set_option linter.all false
set_option maxRecDepth 100000
/-! sum, all, max of lists; bit_length -/
namespace L2
open PySem PySem.Spec PyProof.Rows
section
variable {X : Cx}
theorem vals_at : ∀ {xs : List V} {us : List Value} {i : Nat} {u : Value}, Vals xs us → us[i]? = some u → ∃ x, xs[i]? = some x ∧ RelV x u
  | [], _, _, _, .nil, e => by simp at e
  | x :: xs, _, 0, u, .cons r rr, e => ⟨x, rfl, by cases e; exact r⟩
  | x :: xs, _, i + 1, u, .cons r rr, e => by
    obtain ⟨y, hy, ry⟩ := vals_at (xs := xs) (i := i) rr (by simpa using e)
    exact ⟨y, by simpa using hy, ry⟩
theorem preSum_take (ns : List Int) : ∀ k, k ≤ ns.length → preSum (fun i => ns.getD i 0) k = (ns.take k).sum
  | 0, _ => rfl
  | k + 1, h => by
    have ih := preSum_take ns k (by omega)
    have hk : k < ns.length := by omega
    show preSum (fun i => ns.getD i 0) k + ns.getD k 0 = _
    rw [ih, List.take_succ, List.getElem?_eq_getElem hk, List.sum_append, List.getD_eq_getElem?_getD, List.getElem?_eq_getElem hk]
    show (ns.take k).sum + ns[k] = (ns.take k).sum + (ns[k] + 0)
    rw [Int.add_zero]
theorem ints_at {ns : List Int} {its : List Value} {i : Nat} {v : Value} (r : Vals (ns.map V.int) its) (e : its.toArray[i]? = some v) : ∃ t, v = .int (ns.getD i 0) t := by
  have e' : its[i]? = some v := by simpa using e
  obtain ⟨x, hx, rx⟩ := vals_at r e'
  rw [List.getElem?_map] at hx
  obtain ⟨n, hn, rfl⟩ := Option.map_eq_some_iff.mp hx
  obtain ⟨t, rfl⟩ := rx
  refine ⟨t, ?_⟩
  rw [List.getD_eq_getElem?_getD, hn]; rfl
theorem call_sumL (hc : X.calm = true) : CallR X (.builtin "sum") (fun xs H Q => ∃ (p : Addr) (ns : List Int), xs = [.ref p] ∧ SqL X.K H p (ns.map V.int) ∧ Q (.int ns.sum) H) := by
  intro pins s σ H xs us Q I r h
  obtain ⟨p, ns, rfl, hq, q⟩ := h
  obtain ⟨u, rfl, rx⟩ := vals1 r
  cases rx
  obtain ⟨its, r', pl, hz⟩ := I.list hq
  have hl := r'.length
  rw [List.length_map] at hl
  have hlt : p < s.heap.objs.size := by obtain ⟨_, e, _⟩ := pl.isList; exact Heap.lt_size e
  refine call_sum_walkG (wpAny_pyIter_list pl.isList ?_)
  refine ⟨_, _, _, _, _, _, fun i => ns.getD i 0, rfl, Walks.list (A := X.A.in1) (I.ok.hd hc) _ p (Nat.ne_of_lt hlt) its.toArray, ⟨⟨_, Heap.get?_push_size _ rfl, rfl, rfl⟩, pl.isList.push _⟩, ?_, fun i v e => ints_at r' e, fun h' tk t' hk => ?_⟩
  · intro b hb
    show b < (s.heap.push _).objs.size
    rw [Heap.size_push]
    rcases List.mem_cons.mp hb with rfl | hb
    · exact Nat.lt_succ_self _
    · rw [List.mem_singleton.mp hb]; exact Nat.lt_succ_of_lt hlt
  · refine ⟨.int ns.sum, H, I.kept (old_kept hk), ⟨t', ?_⟩, q⟩
    rw [List.size_toArray, ← hl, preSum_take ns _ (Nat.le_refl _), List.take_length]
end
/-! ### shut -/
structure QC (X : Cx) (ifs : List Expr) (t : TT) : Prop where h : PF X ifs t
structure QGs (X : Cx) (ts : List Expr) (t : TGs) : Prop where h : PGs X ts t
namespace R
section
variable {X : Cx} {e o : Expr} {te to : TE} {pos : Pos}
theorem pf_nil : QC X [] fNil := ⟨L2.pf_nil⟩
theorem ixL (K : PySem.W.Frag) (h : X.K = K := by rfl) : IxR X (rIxL K) := by subst h; exact ix_list
theorem ixT (K : PySem.W.Frag) (h : X.K = K := by rfl) : IxR X (rIxT K) := by subst h; exact ix_tup
theorem pgs_nil : QGs X [] gNil := ⟨L2.pgs_nil⟩
theorem pgs_cons {es : List Expr} {t : TG} {u : TGs} (h1 : QG X e t) (h2 : QGs X es u) (hs : (assignEach (e :: es) X.env).map (·.2) = assign e X.env :: (assignEach es X.env).map (·.2) := by rfl) : QGs X (e :: es) (gCons t u) := ⟨L2.pgs_cons h1.h h2.h hs⟩
theorem pg_tup {es : List Expr} {k : Nat} {t : TGs} (K : PySem.W.Frag) (n : Nat) (hc : X.calm = true) (h : QGs X es t) (hK : X.K = K := by rfl) (hn : (assignEach es X.env).length = n := by rfl) (hst : (assignEach es X.env).findIdx? (·.1) = none := by rfl) : QG X (.Tuple es k pos) (gTup K n t) := by
  subst hK; exact ⟨L2.pg_tup hc h.h hn hst⟩
theorem pg_setL {i : Expr} {ti : TE} (ho : QE X o to) (hi : QE X i ti)
    (ha : ∀ v, assign (.Subscript o i pos) X.env v = (do
      let ov ← holding [v] (eval o X.env)
      let iv ← holding [v, ov] (eval i X.env)
      standAt pos
      holding [v, ov, iv] (setItem ov iv v)
      release [v, ov, iv] []) := by intro _; rfl) : QG X (.Subscript o i pos) (gSub to ti rSetL) := ⟨L2.pg_sub ho.h hi.h set_list ha⟩
theorem ps_asg {tg : Expr} {g : TG} (he : QE X e te) (hg : QG X tg g) (hs : swapsWithSole [tg] e pos.line X.env = pure false := by rfl) (hw : swappedStores [tg] e X.env = pure none := by rfl)
    (h1 : (assignEach [tg] X.env).map (·.2) = [assign tg X.env] := by rfl) : QS X (.Assign [tg] e pos) (tAsg te g) := ⟨L2.ps_asg he.h hg.h hs hw h1⟩
/-- sc, N: the def's scope and names; xs: the target's names; ns: those that are taken from around, at fr there -/
theorem pe_comp {tg iter elt : Expr} {ifs : List Expr} {scope : Scope} {wi : TI} {g : TG} {tt : TT} (sc : Scope) (N xs ns : List Str) (fr : List Nat) 
    (hc : X.calm = true) (hsc : X.env.scope = sc) (hN : X.N = N) (hcl : ∃ n, X.env.cells = cellsFrom n X.env.scope.names []) (hk : X.env.scope.kind = .function) (kind : scope.kind = .function) (hB : compB sc.names scope.names N ns fr = true)
    (hI : QI X tg iter wi) (hg : ∀ C s₂ H2 fp, QG (cxComp X scope (clOf X.env.cells scope.names []) (xs ++ ns) C s₂ H2 fp) tg g) (hf : ∀ C s₂ H2 fp, QC (cxComp X scope (clOf X.env.cells scope.names []) (xs ++ ns) C s₂ H2 fp) ifs tt)
    (he : ∀ C s₂ H2 fp, QE (cxComp X scope (clOf X.env.cells scope.names []) (xs ++ ns) C s₂ H2 fp) elt te) (hs : ∀ x, foldedSetIterable iter X.env x = pure x := by intro _; rfl) :
    QE X (.ListComp elt [⟨tg, iter, ifs, 0⟩] scope pos) (tCompE wi xs.length fr g tt te) :=
  ⟨L2.pe_comp hc (CompOk2.of hsc hN hcl hk kind hB) hI.h (fun C s H f => (hg C s H f).h) (fun C s H f => (hf C s H f).h) (fun C s H f => (he C s H f).h) hs⟩
theorem ps_compE {i : Nat} {y : Str} {py spos : Pos} {tg iter elt : Expr} {ifs : List Expr} {scope : Scope} {wi : TI} {g : TG} {tt : TT} (sc : Scope) (N xs ns : List Str) (fr : List Nat) (hnd : X.N.Nodup) (hi : X.N[i]? = some y) (hy : Loc X.env.scope y) (hfn : X.fn y = true)
    (hsw : swapsWith (.ListComp elt [⟨tg, iter, ifs, 0⟩] scope pos) (some (.Name y py)) spos.line X.env = pure true)
    (hc : X.calm = true) (hsc : X.env.scope = sc) (hN : X.N = N) (hcl : ∃ n, X.env.cells = cellsFrom n X.env.scope.names []) (hk : X.env.scope.kind = .function) (kind : scope.kind = .function) (hB : compB sc.names scope.names N ns fr = true)
    (hI : QI X tg iter wi) (hg : ∀ C s₂ H2 fp, QG (cxComp X scope (clOf X.env.cells scope.names []) (xs ++ ns) C s₂ H2 fp) tg g) (hf : ∀ C s₂ H2 fp, QC (cxComp X scope (clOf X.env.cells scope.names []) (xs ++ ns) C s₂ H2 fp) ifs tt)
    (he : ∀ C s₂ H2 fp, QE (cxComp X scope (clOf X.env.cells scope.names []) (xs ++ ns) C s₂ H2 fp) elt te) (hs : ∀ x, foldedSetIterable iter X.env x = pure x := by intro _; rfl) :
    QS X (.Assign [.Name y py] (.ListComp elt [⟨tg, iter, ifs, 0⟩] scope pos) spos) (tAsg (tCompE wi xs.length fr g tt te) (gName i)) :=
  ⟨L2.ps_compE hc (CompOk2.of hsc hN hcl hk kind hB) hnd hi hy (.inl hfn) hsw hI.h (fun C s H f => (hg C s H f).h) (fun C s H f => (hf C s H f).h) (fun C s H f => (he C s H f).h) hs⟩
end
end R
/-! ### the forms of a comprehension that one uses: one name, walked over a list that stays or over a range -/
section
variable {K : PySem.W.Frag} {fr : List Nat} {tt : TT} {te : TE} {σ : St} {Q : VK} {H1 : Hp} {l : Addr}
/-- one turn with the name bound to v -/
noncomputable def Turn1 (fr : List Nat) (tt : TT) (te : TE) (σ : St) (l : Addr) (v : V) (H : Hp) (N : Hp → Prop) : Prop :=
  ∀ (K1 : V → Hp → Prop) (K0 : Hp → Prop), (∀ y H4 zs, H4 l = some (.lst zs) → zs.length < sizeLine → N (upd H4 l (.lst (zs ++ [y]))) → K1 y H4) → (∀ H3, N H3 → K0 H3) →
    tt (some v :: inner σ fr) H fun b H3 => if b = true then te (some v :: inner σ fr) H3 K1 else K0 H3
theorem comp_by1 {J : It} (n : Nat) (Pv : Nat → Hp → Prop) (h0 : Pv 0 (upd H1 l (.lst []))) (hgo : ∀ k H, k < n → Pv k H → J.go k H) (hstop : ∀ H, Pv n H → J.stop n H)
    (hs : ∀ k H v H', k < n → Pv k H → J.yld k H v H' → Turn1 fr tt te σ l v H' (Pv (k + 1))) (hd : ∀ H, Pv n H → Q (.ref l) H) : CompGoal J 1 (gName 0) fr tt te σ Q H1 l := by
  refine ⟨fun k m H => m = n - k ∧ k ≤ n ∧ Pv k H, ⟨n, by simp, Nat.zero_le _, h0⟩, ?_⟩
  rintro k m H ⟨rfl, hk, p⟩
  by_cases hlt : k < n
  · refine .inr ⟨hgo k H hlt p, fun v H' hy os ho => ?_⟩
    obtain ⟨o, rfl⟩ := List.length_eq_one_iff.mp ho
    exact ⟨⟨[some v], rfl, rfl⟩, hs k H v H' hlt p hy _ _ (fun y H4 zs h1 h2 h3 => ⟨zs, n - (k + 1), h1, h2, by omega, rfl, hlt, h3⟩) fun H3 h3 => ⟨n - (k + 1), by omega, rfl, hlt, h3⟩⟩
  · have e : k = n := by omega
    subst e
    exact .inl ⟨hstop H p, hd H p⟩
theorem comp_rng1 {lo : Int} {n : Nat} (Pv : Nat → Hp → Prop) (h0 : Pv 0 (upd H1 l (.lst [])))
    (hs : ∀ k H, k < n → Pv k H → Turn1 fr tt te σ l (.int (lo + k)) H (Pv (k + 1))) (hd : ∀ H, Pv n H → Q (.ref l) H) : CompGoal (Itr lo n) 1 (gName 0) fr tt te σ Q H1 l :=
  comp_by1 n Pv h0 (fun _ _ h _ => h) (fun _ _ => Nat.le_refl _) (fun k H v H' hk p hy => by obtain ⟨rfl, rfl⟩ := hy; exact hs k _ hk p) hd
theorem comp_lst1 {a : Addr} {xs : List V} (Pv : Nat → Hp → Prop) (h0 : Pv 0 (upd H1 l (.lst []))) (hl : ∀ k H, k ≤ xs.length → Pv k H → SqL K H a xs)
    (hs : ∀ k x H, xs[k]? = some x → Pv k H → Turn1 fr tt te σ l x H (Pv (k + 1))) (hd : ∀ H, Pv xs.length H → Q (.ref l) H) : CompGoal (Itl K a) 1 (gName 0) fr tt te σ Q H1 l :=
  comp_by1 xs.length Pv h0 (fun k H h p => ⟨xs, xs[k], hl k H (Nat.le_of_lt h) p, by simp [h]⟩) (fun H p => ⟨xs, hl _ H (Nat.le_refl _) p, Nat.le_refl _⟩)
    (fun k H v H' hk p hy => by obtain ⟨rfl, y⟩ := hy; exact hs k v _ (y xs (hl k _ (Nat.le_of_lt hk) p)) p) hd
/-- two names, bound to the two parts of tuples -/
noncomputable def Turn2 (fr : List Nat) (tt : TT) (te : TE) (σ : St) (l : Addr) (v u : V) (H : Hp) (N : Hp → Prop) : Prop :=
  ∀ (K1 : V → Hp → Prop) (K0 : Hp → Prop), (∀ y H4 zs, H4 l = some (.lst zs) → zs.length < sizeLine → N (upd H4 l (.lst (zs ++ [y]))) → K1 y H4) → (∀ H3, N H3 → K0 H3) →
    tt (some v :: some u :: inner σ fr) H fun b H3 => if b = true then te (some v :: some u :: inner σ fr) H3 K1 else K0 H3
theorem comp_by2 {J : It} (n : Nat) (Pv : Nat → Hp → Prop) (h0 : Pv 0 (upd H1 l (.lst []))) (hgo : ∀ k H, k < n → Pv k H → J.go k H) (hstop : ∀ H, Pv n H → J.stop n H)
    (hs : ∀ k H v H', k < n → Pv k H → J.yld k H v H' → ∃ p x y, v = .ref p ∧ SqT K H' p [x, y] ∧ Turn2 fr tt te σ l x y H' (Pv (k + 1))) (hd : ∀ H, Pv n H → Q (.ref l) H) : CompGoal J 2 (gTup K 2 (gCons (gName 0) (gCons (gName 1) gNil))) fr tt te σ Q H1 l := by
  refine ⟨fun k m H => m = n - k ∧ k ≤ n ∧ Pv k H, ⟨n, by simp, Nat.zero_le _, h0⟩, ?_⟩
  rintro k m H ⟨rfl, hk, p⟩
  by_cases hlt : k < n
  · refine .inr ⟨hgo k H hlt p, fun v H' hy os ho => ?_⟩
    obtain ⟨o, o', rfl⟩ : ∃ a b, os = [a, b] := by
      cases os with
      | nil => cases ho
      | cons a t =>
        obtain ⟨b, rfl⟩ := List.length_eq_one_iff.mp (Nat.succ.inj ho)
        exact ⟨a, b, rfl⟩
    obtain ⟨p', x, y, rfl, hq, ht⟩ := hs k H v H' hlt p hy
    exact ⟨p', [x, y], rfl, hq, rfl, x, [y], rfl, y, [], rfl, rfl, ⟨[some x, some y], rfl, rfl⟩, ht _ _ (fun y H4 zs h1 h2 h3 => ⟨zs, n - (k + 1), h1, h2, by omega, rfl, hlt, h3⟩) fun H3 h3 => ⟨n - (k + 1), by omega, rfl, hlt, h3⟩⟩
  · have e : k = n := by omega
    subst e
    exact .inl ⟨hstop H p, hd H p⟩
theorem comp_lst2 {a : Addr} {xs : List V} (Pv : Nat → Hp → Prop) (h0 : Pv 0 (upd H1 l (.lst []))) (hl : ∀ k H, k ≤ xs.length → Pv k H → SqL K H a xs)
    (hs : ∀ k v H, xs[k]? = some v → Pv k H → ∃ p x y, v = .ref p ∧ SqT K H p [x, y] ∧ Turn2 fr tt te σ l x y H (Pv (k + 1))) (hd : ∀ H, Pv xs.length H → Q (.ref l) H) : CompGoal (Itl K a) 2 (gTup K 2 (gCons (gName 0) (gCons (gName 1) gNil))) fr tt te σ Q H1 l :=
  comp_by2 xs.length Pv h0 (fun k H h p => ⟨xs, xs[k], hl k H (Nat.le_of_lt h) p, by simp [h]⟩) (fun H p => ⟨xs, hl _ H (Nat.le_refl _) p, Nat.le_refl _⟩)
    (fun k H v H' hk p hy => by obtain ⟨rfl, y⟩ := hy; exact hs k v _ (y xs (hl k _ (Nat.le_of_lt hk) p)) p) hd
end
end L2


set_option Elab.async false
set_option linter.all false
set_option maxRecDepth 100000
/-! bundles: whole numbers below 64, as Nat -/
namespace L2
open PySem PySem.Spec PyProof.Rows
theorem Same.upd {H H' : Hp} {l : Addr} (s : Same H H') (h : H l = none) (o : HO) : Same H (upd H' l o) := fun b u q => by rw [upd_ne (ne_of_none q h)]; exact s b u q
/-! ### bits -/
theorem and_nat (a b : Nat) : Builtin.bitAnd (a : Int) b = ((a &&& b : Nat) : Int) := by
  unfold Builtin.bitAnd
  rw [show decide ((0 : Int) ≤ (a : Int)) = true from by simp, show decide ((0 : Int) ≤ (b : Int)) = true from by simp]
  show (((a : Int).toNat &&& (b : Int).toNat : Nat) : Int) = _
  rw [Int.toNat_natCast, Int.toNat_natCast]
theorem or_nat (a b : Nat) : Builtin.bitOr (a : Int) b = ((a ||| b : Nat) : Int) := by
  unfold Builtin.bitOr Builtin.bitAnd
  have h1 : decide ((0 : Int) ≤ Builtin.bitNot (a : Int)) = false := by unfold Builtin.bitNot; simp; omega
  have h2 : decide ((0 : Int) ≤ Builtin.bitNot (b : Int)) = false := by unfold Builtin.bitNot; simp; omega
  rw [h1, h2]
  show Builtin.bitNot (Builtin.bitNot (((Builtin.bitNot (Builtin.bitNot (a : Int))).toNat ||| (Builtin.bitNot (Builtin.bitNot (b : Int))).toNat : Nat) : Int)) = _
  have e : ∀ x : Int, Builtin.bitNot (Builtin.bitNot x) = x := fun x => by unfold Builtin.bitNot; omega
  rw [e, e, e, Int.toNat_natCast, Int.toNat_natCast]
theorem shl_nat (k : Nat) : (1 : Int) * 2 ^ (k : Int).toNat = ((2 ^ k : Nat) : Int) := by
  rw [Int.toNat_natCast, Int.one_mul, Int.natCast_pow]; rfl
theorem int_eq_nat {a b : Nat} : decide (V.int (a : Int) = V.int (b : Int)) = decide (a = b) := by
  by_cases h : a = b
  · subst h; simp
  · rw [decide_eq_false h, decide_eq_false]
    intro z
    exact h (Int.ofNat.inj (V.int.inj z))
/-! ### comprehensions whose turns only lay new things on the heap -/
section
variable {K : PySem.W.Frag} {fr : List Nat} {tt : TT} {te : TE} {σ : St} {Q : VK} {H1 : Hp} {l : Addr}
theorem comp_rng_map {lo : Int} {n : Nat} (p : Nat → Bool) (f : Nat → V) (hn : n ≤ 100) (hl : H1 l = none)
    (ht : ∀ k H, k < n → Same H1 H → ∀ C, (∀ H', Same H H' → C (p k) H') → tt (some (.int (lo + k)) :: inner σ fr) H C)
    (he : ∀ k H, k < n → p k = true → Same H1 H → ∀ C, (∀ H', Same H H' → C (f k) H') → te (some (.int (lo + k)) :: inner σ fr) H C)
    (hd : ∀ H, Same H1 H → H l = some (.lst (((List.range n).filter p).map f)) → Q (.ref l) H) : CompGoal (Itr lo n) 1 (gName 0) fr tt te σ Q H1 l := by
  refine comp_rng1 (fun k H => Same H1 H ∧ H l = some (.lst (((List.range k).filter p).map f))) ⟨same_new hl _, upd_same⟩ ?_ fun H ⟨s, e⟩ => hd H s e
  rintro k H hk ⟨s, e⟩ K1 K0 h1 h0
  refine ht k H hk s _ fun H' s' => ?_
  have e' : (List.range (k + 1)).filter p = (List.range k).filter p ++ (if p k = true then [k] else []) := by
    rw [List.range_succ, List.filter_append]
    cases hp : p k <;> simp [hp]
  cases hp : p k with
  | false =>
    rw [if_neg (by decide)]
    refine h0 _ ⟨s.trans s', ?_⟩
    rw [e', hp, if_neg (by decide), List.append_nil]
    exact s' _ _ e
  | true =>
    rw [if_pos rfl]
    refine he k H' hk hp (s.trans s') _ fun H'' s'' => ?_
    refine h1 _ _ _ (s'' _ _ (s' _ _ e)) ?_ ⟨((s.trans s').trans s'').upd hl _, ?_⟩
    · rw [List.length_map]
      have := List.length_filter_le p (List.range k)
      rw [List.length_range] at this
      exact small1000 (by omega)
    · rw [upd_same, e', hp, if_pos rfl, List.map_append]; rfl
theorem comp_lst_map {α : Type} {a : Addr} (emb : α → V) (xs : List α) (p : α → Bool) (f : α → V) (hS : SqL K H1 a (xs.map emb)) (hn : xs.length ≤ 100) (hl : H1 l = none)
    (ht : ∀ x ∈ xs, ∀ H, Same H1 H → ∀ C, (∀ H', Same H H' → C (p x) H') → tt (some (emb x) :: inner σ fr) H C)
    (he : ∀ x ∈ xs, p x = true → ∀ H, Same H1 H → ∀ C, (∀ H', Same H H' → C (f x) H') → te (some (emb x) :: inner σ fr) H C)
    (hd : ∀ H, Same H1 H → H l = some (.lst ((xs.filter p).map f)) → Q (.ref l) H) : CompGoal (Itl K a) 1 (gName 0) fr tt te σ Q H1 l := by
  refine comp_lst1 (xs := xs.map emb) (fun k H => Same H1 H ∧ H l = some (.lst (((xs.take k).filter p).map f))) ⟨same_new hl _, upd_same⟩ (fun k H _ ⟨s, _⟩ => s.seq hS) ?_ fun H ⟨s, e⟩ => hd H s (by rw [List.length_map, List.take_length] at e; exact e)
  rintro k v H hv ⟨s, e⟩ K1 K0 h1 h0
  rw [List.getElem?_map] at hv
  obtain ⟨x, hx, rfl⟩ := Option.map_eq_some_iff.mp hv
  have hm : x ∈ xs := List.mem_of_getElem? hx
  refine ht x hm H s _ fun H' s' => ?_
  have e' : (xs.take (k + 1)).filter p = (xs.take k).filter p ++ (if p x = true then [x] else []) := by
    rw [List.take_succ, hx, List.filter_append]
    cases hp : p x <;> simp [hp]
  cases hp : p x with
  | false =>
    rw [if_neg (by decide)]
    refine h0 _ ⟨s.trans s', ?_⟩
    rw [e', hp, if_neg (by decide), List.append_nil]
    exact s' _ _ e
  | true =>
    rw [if_pos rfl]
    refine he x hm hp H' (s.trans s') _ fun H'' s'' => ?_
    refine h1 _ _ _ (s'' _ _ (s' _ _ e)) ?_ ⟨((s.trans s').trans s'').upd hl _, ?_⟩
    · rw [List.length_map]
      have h1 := List.length_filter_le p (xs.take k)
      have h2 := List.length_take_le' k xs
      exact small1000 (by omega)
    · rw [upd_same, e', hp, if_pos rfl, List.map_append]; rfl
end
theorem at_nat {α : Type} {xs : List α} {k : Nat} {x : α} (h : xs[k]? = some x) : atI xs (k : Int) = some x := atI_nat h
end L2
namespace L2
open PySem PySem.Spec PyProof.Rows
/-! ### == and != of two lists of whole numbers -/
noncomputable def rEqI (K : PySem.W.Frag) (neg : Bool) : R2 := fun x y H Q => ∃ (a b : Addr) (ns ms : List Int), x = .ref a ∧ y = .ref b ∧ SqL K H a (ns.map V.int) ∧ SqL K H b (ms.map V.int) ∧ Q (.bl (if neg then !decide (ns = ms) else decide (ns = ms))) H
theorem ints_all {ns ms : List Int} (h : ns.length = ms.length) : ((List.range ns.length).all fun j => ns.getD j 0 == ms.getD j 0) = decide (ns = ms) := by
  rw [Bool.eq_iff_iff, List.all_eq_true, decide_eq_true_iff]
  constructor
  · intro q
    refine List.ext_getElem? fun i => ?_
    by_cases hi : i < ns.length
    · have := q i (List.mem_range.mpr hi)
      have e : ns.getD i 0 = ms.getD i 0 := by simpa using this
      rw [List.getD_eq_getElem?_getD, List.getD_eq_getElem?_getD, List.getElem?_eq_getElem hi, List.getElem?_eq_getElem (by rw [← h]; exact hi)] at e
      rw [List.getElem?_eq_getElem hi, List.getElem?_eq_getElem (by rw [← h]; exact hi)]
      exact congrArg some e
    · rw [List.getElem?_eq_none (by omega), List.getElem?_eq_none (by omega)]
  · intro e j _
    rw [e]; simp
theorem eqAt_ints {A : Around} {s : Shared} {ns ms : List Int} {us vs : List Value} (r1 : Vals (ns.map V.int) us) (r2 : Vals (ms.map V.int) vs) (j : Nat) (h1 : j < us.toArray.size) (h2 : j < vs.toArray.size) : SeqAt.EqAt A s us.toArray[j] vs.toArray[j] (ns.getD j 0 == ms.getD j 0) := by
  obtain ⟨t, e1⟩ := ints_at r1 (Array.getElem?_eq_getElem h1)
  obtain ⟨t', e2⟩ := ints_at r2 (Array.getElem?_eq_getElem h2)
  rw [e1, e2]
  exact SeqAt.EqAt.int_int _ _ _ _
theorem op_neI {X : Cx} (hu : X.A.units < cLine) : OpR X (compareOp .NotEq) (rEqI X.K true) := by
  intro pins s σ H x y v u Q I rx ry h
  obtain ⟨a, b, ns, ms, rfl, rfl, ha, hb, q⟩ := h
  cases rx; cases ry
  obtain ⟨its, r1, p1, _⟩ := I.list ha
  obtain ⟨its2, r2, p2, _⟩ := I.list hb
  have l1 := r1.length
  have l2 := r2.length
  rw [List.length_map] at l1 l2
  by_cases hl : ns.length = ms.length
  · refine SeqAt.RcNeAt.lists p1.isList p2.isList (by rw [List.size_toArray, List.size_toArray]; omega) hu (fun j h1 h2 => eqAt_ints r1 r2 j h1 h2) _ _ _ _ ?_
    refine ⟨_, H, I, ?_, q⟩
    show Value.bool _ = Value.bool (!decide (ns = ms))
    rw [List.size_toArray, ← l1, ints_all hl]
  · refine SeqAt.RcNeAt.lists_lengths p1.isList p2.isList (by rw [List.size_toArray, List.size_toArray]; simp; omega) hu _ _ _ _ ?_
    refine ⟨_, H, I, ?_, q⟩
    show Value.bool true = Value.bool (!decide (ns = ms))
    rw [decide_eq_false fun e => hl (by rw [e])]; rfl
end L2
namespace L2
open PySem PySem.Spec PyProof.Rows
section
variable {X : Cx}
theorem op_andN : OpR X (binaryOp .BitAnd) (fun x y H Q => ∃ a b : Nat, x = .int a ∧ y = .int b ∧ Q (.int ((a &&& b : Nat) : Int)) H) := by
  intro pins s σ H x y v u Q I rx ry ⟨a, b, e1, e2, q⟩
  exact op_and pins s σ H x y v u Q I rx ry ⟨_, _, e1, e2, by show Q (.int (Builtin.bitAnd a b)) H; rw [and_nat]; exact q⟩
theorem op_orN : OpR X (binaryOp .BitOr) (fun x y H Q => ∃ a b : Nat, x = .int a ∧ y = .int b ∧ Q (.int ((a ||| b : Nat) : Int)) H) := by
  intro pins s σ H x y v u Q I rx ry ⟨a, b, e1, e2, q⟩
  exact op_or pins s σ H x y v u Q I rx ry ⟨_, _, e1, e2, by show Q (.int (Builtin.bitOr a b)) H; rw [or_nat]; exact q⟩
theorem op_shlN : OpR X (binaryOp .LShift) (fun x y H Q => ∃ k : Nat, x = .int 1 ∧ y = .int k ∧ k ≤ 1000 ∧ Q (.int ((2 ^ k : Nat) : Int)) H) := by
  intro pins s σ H x y v u Q I rx ry ⟨k, e1, e2, hk, q⟩
  exact op_shl pins s σ H x y v u Q I rx ry ⟨1, k, e1, e2, ⟨by omega, by omega, by decide⟩, by show Q (.int ((1 : Int) * 2 ^ (k : Int).toNat)) H; rw [shl_nat]; exact q⟩
theorem op_shrN : OpR X (binaryOp .RShift) (fun x y H Q => ∃ a k : Nat, x = .int a ∧ y = .int k ∧ Q (.int ((a / 2 ^ k : Nat) : Int)) H) := by
  intro pins s σ H x y v u Q I rx ry ⟨a, k, e1, e2, q⟩
  refine op_shr pins s σ H x y v u Q I rx ry ⟨a, k, e1, e2, by show (0 : Int) ≤ (k : Int); omega, ?_⟩
  show Q (.int ((a : Int) / 2 ^ (k : Int).toNat)) H
  rw [Int.toNat_natCast]
  have e : ((a / 2 ^ k : Nat) : Int) = (a : Int) / 2 ^ k := by rw [Int.natCast_ediv, Int.natCast_pow]; rfl
  rw [← e]; exact q
end
end L2
namespace L2
open PySem PySem.Spec PyProof.Rows
/-- the answer by an equation -/
theorem opE {X : Cx} {f : Value → Value → Sem Value} {C : Int → Int → Prop} {g : Int → Int → V} (h : OpR X f (rI C g)) : OpR X f (fun x y H Q => ∃ i j r, x = .int i ∧ y = .int j ∧ C i j ∧ g i j = r ∧ Q r H) := by
  intro pins s σ H x y v u Q I rx ry ⟨i, j, r, e1, e2, hc, e3, q⟩
  subst e3
  exact h pins s σ H x y v u Q I rx ry ⟨i, j, e1, e2, hc, q⟩
theorem opE0 {X : Cx} {f : Value → Value → Sem Value} {g : Int → Int → V} (h : OpR X f (rI0 g)) : OpR X f (fun x y H Q => ∃ i j r, x = .int i ∧ y = .int j ∧ g i j = r ∧ Q r H) := by
  intro pins s σ H x y v u Q I rx ry ⟨i, j, r, e1, e2, e3, q⟩
  subst e3
  exact h pins s σ H x y v u Q I rx ry ⟨i, j, e1, e2, q⟩
end L2


set_option Elab.async false
set_option linter.all false
set_option maxRecDepth 100000
/-! for a, b in zip(xs, ys) -/
namespace L2
open PySem PySem.Spec PyProof.Rows
section
variable {X : Cx} {pins : List (Addr × Obj)} {σ : St} {H : Hp} {s : Shared} {h' : Heap}
theorem Inv.turnedL {t' : Nat} {ch : List Addr} (I : Inv X pins σ H s) (k : ∀ b o, b ∉ ch → s.heap.get? b = some o → h'.get? b = some o) (hf : ∀ b ∈ ch, FpOk X pins H b) : Inv X pins σ H { s with heap := h', toks := t' } := by
  have nit : ∀ b u, H b = some u → b ∉ ch := fun b u e z => by have := (hf b z).1; rw [e] at this; cases this
  refine I.step (g' := s.gens) (d' := s.drawn) (ch := ch) (fun b hb => ?_) (fun b o _ _ hc e _ => k b o hc e) (fun b o _ _ hc e _ => ⟨o.slots, k b o hc e⟩) (fun _ _ _ _ n => n)
    (fun b o hc e => ⟨o, k b o hc e⟩) (fun _ _ e => e) (fun _ _ _ e => e) (fun b ps e => ⟨#[], by rw [e]; simp⟩) (fun m hm => ?_) (fun b u e => ?_) I.bare
  · obtain ⟨f0, f1, f2, f3, f4, f5⟩ := hf b hb
    exact ⟨f3, f1, f4, f5⟩
  · obtain ⟨o, es, ep, ho, r⟩ := hm
    exact ⟨o, es, ep, k _ o (fun z => (hf _ z).2.1 rfl) ho, r⟩
  · refine (I.hok b u e).stay (fun c v hc q => k c v ?_ q) (fun _ q => q) fun _ _ q => q
    rcases hc with z | z
    · rw [z]; exact nit b u e
    · exact nit c _ z
end
noncomputable def Itz (K : PySem.W.Frag) (a b : Addr) : It :=
  ⟨fun i H => ∃ xs x ys y, SqL K H a xs ∧ xs[i]? = some x ∧ SqL K H b ys ∧ ys[i]? = some y,
   fun i H v H' => ∃ p x y, v = .ref p ∧ H p = none ∧ H' = upd H p (.tup [x, y]) ∧ (∀ xs, SqL K H a xs → xs[i]? = some x) ∧ (∀ ys, SqL K H b ys → ys[i]? = some y),
   fun i H => ∃ xs ys, SqL K H a xs ∧ SqL K H b ys ∧ (xs.length ≤ i ∨ ys.length ≤ i)⟩
theorem turn_zip {P : Program} {w : World} {K : PySem.W.Frag} {es : List Expr} {kk : Nat} {pos : Pos} (a b z TI TO i1 i2 : Addr) (D : ZipApart z TI TO i1 i2 a b) :
    Turn P w K (.Tuple es kk pos) (Itz K a b) [z, TI, TO, i1, i2] z (fun i h => IsZip h z TI TO .none ∧ IsPair h TI (.ref i1) (.ref i2) ∧ (∃ u v, IsPair h TO u v) ∧ h.IsListIter i1 a i ∧ h.IsListIter i2 b i) where
  mem := by simp
  obj := fun i h st c hc => by
    obtain ⟨hz, hTI, ⟨u, v, hTO⟩, ⟨o1, e1, c1, d1⟩, ⟨o2, e2, c2, d2⟩⟩ := st
    simp only [List.mem_cons, List.not_mem_nil, or_false] at hc
    rcases hc with rfl | rfl | rfl | rfl | rfl
    · exact ⟨_, hz, fun v x => by cases x⟩
    · exact ⟨_, hTI, fun v x => by cases x⟩
    · exact ⟨_, hTO, fun v x => by cases x⟩
    · exact ⟨_, e1, fun v x => by rw [d1] at x; cases x⟩
    · exact ⟨_, e2, fun v x => by rw [d2] at x; cases x⟩
  keep := fun i h h' st k => by
    obtain ⟨hz, hTI, ⟨u, v, hTO⟩, h1, h2⟩ := st
    exact ⟨k z (by simp) _ hz, k TI (by simp) _ hTI, ⟨u, v, k TO (by simp) _ hTO⟩, h1.at fun o e => k i1 (by simp) o e, h2.at fun o e => k i2 (by simp) o e⟩
  item := by
    intro X hP hw hK hc i pins s σ H E I hf st hg
    subst hP hw hK
    obtain ⟨hz, hTI, ⟨u, v, hTO⟩, h1, h2⟩ := st
    obtain ⟨xs, x, ys, y, hq1, hx, hq2, hy⟩ := hg
    obtain ⟨its, rv, p, hz1⟩ := I.list hq1
    obtain ⟨its2, rv2, p2, hz2⟩ := I.list hq2
    obtain ⟨ux, hux, rux⟩ := rv.get hx
    obtain ⟨uy, huy, ruy⟩ := rv2.get hy
    refine wpAny_pyNext_zip_item D hz hTI hTO h1 h2 p.isList p2.isList (x := ux) (y := uy) (by simpa using hux) (by simpa using huy) fun h' a1 a2 a3 a4 a5 a6 hk => ?_
    have lt : ∀ {c o}, s.heap.get? c = some o → c < s.heap.objs.size := fun e => Heap.lt_size e
    have ltz : ∀ c ∈ [z, TI, TO, i1, i2], c < s.heap.objs.size := by
      intro c hc
      simp only [List.mem_cons, List.not_mem_nil, or_false] at hc
      rcases hc with rfl | rfl | rfl | rfl | rfl
      · exact lt hz
      · exact lt hTI
      · exact lt hTO
      · obtain ⟨_, e, _⟩ := h1; exact lt e
      · obtain ⟨_, e, _⟩ := h2; exact lt e
    -- the tuple is laid, then the iterator's objects turn
    have I1 : Inv X pins σ (upd H s.heap.objs.size (.tup [x, y])) { s with heap := s.heap.push { cls := .type "tuple", data := .seq #[ux, uy] }, toks := s.toks } := by
      refine I.laid (fun c o e => Heap.get?_push_of_some _ e) (Nat.le_refl _) ⟨by show 2 ≤ sizeLine; decide, [ux, uy], .cons rux (.cons ruy .nil), ?_⟩
      exact ⟨_, Heap.get?_push_size _ rfl, rfl, _, rfl⟩
    have hfr : ∀ c ∈ [z, TI, TO, i1, i2], upd H s.heap.objs.size (.tup [x, y]) c = none := fun c hc => by
      rw [upd_ne (Nat.ne_of_lt (ltz c hc))]; exact (hf c hc).1
    have hf1 : ∀ c ∈ [z, TI, TO, i1, i2], FpOk X pins (upd H s.heap.objs.size (.tup [x, y])) c := fun c hc => ⟨hfr c hc, (hf c hc).2⟩
    have kk : ∀ c o, c ∉ [z, TI, TO, i1, i2] → (s.heap.push { cls := .type "tuple", data := .seq #[ux, uy] }).get? c = some o → h'.get? c = some o := fun c o hc e => by
      rcases Heap.get?_push_cases e with ⟨e9, e8⟩ | e'
      · subst e9 e8; exact a5
      · exact hk c o (fun x => hc (by simp [x])) (fun x => hc (by simp [x])) (fun x => hc (by simp [x])) (fun x => hc (by simp [x])) e'
    have I2 : Inv X pins σ (upd H s.heap.objs.size (.tup [x, y])) { s with heap := h' } := by
      have z := Inv.turnedL (t' := s.toks) I1 kk hf1
      exact z
    refine ⟨_, rfl, wpAny_letOwnedTupleGo_zip (s := { s with heap := h' }) a1 fun h'' hz'' hs'' => ?_⟩
    have I3 : Inv X pins σ (upd H s.heap.objs.size (.tup [x, y])) { s with heap := h'' } :=
      by
      have z := Inv.turnedL (h' := h'') (t' := s.toks) (ch := [z]) I2 (fun c o hc e => hs''.extBut c o (fun q => hc (by simp [q])) e) (fun c hc => hf1 c (by simp at hc; simp [hc]))
      exact z
    refine ⟨.ref s.heap.objs.size, _, I3, rfl, ⟨_, x, y, rfl, I.hok.fresh (Nat.le_refl _), rfl, fun zs hzs => by rw [I.list_inj hzs hq1]; exact hx, fun zs hzs => by rw [I.list_inj hzs hq2]; exact hy⟩, ?_, hfr⟩
    have hTI' : IsPair h' TI (.ref i1) (.ref i2) := hk _ _ D.TIz D.TITO D.TIi1 D.TIi2 hTI
    exact ⟨hz'', hs''.extBut _ _ D.TIz hTI', ⟨_, _, hs''.extBut _ _ D.TOz a2⟩, a3.extBut hs''.extBut D.i1z, a4.extBut hs''.extBut D.i2z⟩
  done := by
    intro X hP hw hK hc i pins s σ H E I hf st hg
    subst hP hw hK
    obtain ⟨hz, hTI, ⟨u, v, hTO⟩, h1, h2⟩ := st
    obtain ⟨xs, ys, hq1, hq2, hend⟩ := hg
    obtain ⟨its, rv, p, hz1⟩ := I.list hq1
    obtain ⟨its2, rv2, p2, hz2⟩ := I.list hq2
    have l1 := rv.length
    have l2 := rv2.length
    refine wpAny_pyNext_zip_end (I.ok.hd hc) D hz hTI hTO h1 h2 p.isList p2.isList ?_ fun h' hk => ⟨rfl, ?_⟩
    · rcases hend with q | q
      · exact .inl (by simp; omega)
      · exact .inr (by simp; omega)
    · exact I.turnedL (t' := s.toks) (ch := [z, TI, TO, i1, i2]) (fun c o hc e => hk c o (fun x => hc (by simp [x])) (fun x => hc (by simp [x])) (fun x => hc (by simp [x])) (fun x => hc (by simp [x])) e) hf
  self := fun _ _ _ _ _ st h => wpAny_pyIter_zip st.1 h
noncomputable def iZip (K : PySem.W.Frag) (ta : TA) : TI := fun σ H R => ta σ H fun vs H1 => ∃ a b, vs = [.ref a, .ref b] ∧ (∃ xs, SqL K H1 a xs) ∧ (∃ ys, SqL K H1 b ys) ∧ R (Itz K a b) H1
theorem pi_zip {X : Cx} {es : List Expr} {kk : Nat} {tp : Pos} {a b : Expr} {ta : TA} {p pos : Pos} (hg : Gl X "zip") (hm : X.mg "zip" = none) (ha : PA X [a, b] ta) (hs : noStar a = true) (hs2 : noStar b = true) :
    PI X (.Tuple es kk tp) (.Call (.Name "zip" p) [a, b] [] pos) (iZip X.K ta) := by
  intro pins s σ H R I h
  refine Call_ (ld_blt I hg hm boot_zip (PyProof.Rows.callWith_type1 (thn (ha pos pins s σ H _ I h) fun us s1 zz => ?_) (by rw [star_cons hs, star_cons hs2]) (by rw [star_cons hs2]; rfl)))
  obtain ⟨vs, H1, I1, r1, q1⟩ := zz
  obtain ⟨l1, l2, e, ⟨xs, hq1⟩, ⟨ys, hq2⟩, q⟩ := q1
  subst e
  obtain ⟨u, u', rfl, ru, ru'⟩ := vals2 r1
  cases ru; cases ru'
  obtain ⟨its, rv, p1, _⟩ := I1.list hq1
  obtain ⟨its2, rv2, p2, _⟩ := I1.list hq2
  have lt1 : l1 < s1.heap.objs.size := by obtain ⟨_, e, _⟩ := p1.isList; exact Heap.lt_size e
  have lt2 : l2 < s1.heap.objs.size := by obtain ⟨_, e, _⟩ := p2.isList; exact Heap.lt_size e
  refine call_zip_2 p1.isList p2.isList fun h' hz hTI hTO hi1 hi2 hsz hk => ?_
  refine wpAny_pyIter_zip hz ?_
  refine ⟨s1.heap.objs.size + 4, _, _, _, H1, rfl, I1.kept (t' := s1.toks) hk, turn_zip l1 l2 _ _ _ _ _ (zipApart_new lt1 lt2), ⟨hz, hTI, ⟨_, _, hTO⟩, hi1, hi2⟩, fun c hc => ?_, q⟩
  have hge : s1.heap.objs.size ≤ c := by
    simp only [List.mem_cons, List.not_mem_nil, or_false] at hc
    rcases hc with rfl | rfl | rfl | rfl | rfl
    · exact Nat.le_add_right _ _
    · exact Nat.le_add_right _ _
    · exact Nat.le_add_right _ _
    · exact Nat.le_refl _
    · exact Nat.le_add_right _ _
  exact I1.fpOk hge (I1.hok.fresh hge)
namespace R
theorem pi_zip {X : Cx} {es : List Expr} {kk : Nat} {tp : Pos} {a b : Expr} {ta : TA} {p pos : Pos} (hg : Gl X "zip") (hm : X.mg "zip" = none) (ha : QA X [a, b] ta) (hs : noStar a = true := by rfl) (hs2 : noStar b = true := by rfl) :
    QI X (.Tuple es kk tp) (.Call (.Name "zip" p) [a, b] [] pos) (iZip X.K ta) := ⟨L2.pi_zip hg hm ha.h hs hs2⟩
end R
/-! ### the forms one uses -/
theorem comp_zip2 {K : PySem.W.Frag} {fr : List Nat} {tt : TT} {te : TE} {σ : St} {Q : VK} {H1 : Hp} {l : Addr} {a b : Addr} {xs ys : List V} (hlen : xs.length = ys.length) (Pv : Nat → Hp → Prop) (h0 : Pv 0 (upd H1 l (.lst []))) (hl : ∀ k H, k ≤ xs.length → Pv k H → SqL K H a xs ∧ SqL K H b ys)
    (hs : ∀ k x y p H, xs[k]? = some x → ys[k]? = some y → Pv k H → H p = none → Turn2 fr tt te σ l x y (upd H p (.tup [x, y])) (Pv (k + 1))) (hd : ∀ H, Pv xs.length H → Q (.ref l) H) :
    CompGoal (Itz K a b) 2 (gTup K 2 (gCons (gName 0) (gCons (gName 1) gNil))) fr tt te σ Q H1 l :=
  comp_by2 xs.length Pv h0 (fun k H h p => ⟨xs, xs[k], ys, ys[k], (hl k H (Nat.le_of_lt h) p).1, by simp [h], (hl k H (Nat.le_of_lt h) p).2, by simp [hlen ▸ h]⟩) (fun H p => ⟨xs, ys, (hl _ H (Nat.le_refl _) p).1, (hl _ H (Nat.le_refl _) p).2, .inl (Nat.le_refl _)⟩)
    (fun k H v H' hk p hy => by
      obtain ⟨q, x, y, rfl, hn, rfl, h1, h2⟩ := hy
      exact ⟨q, x, y, rfl, SqT.of upd_same, hs k x y q H (h1 _ (hl k H (Nat.le_of_lt hk) p).1) (h2 _ (hl k H (Nat.le_of_lt hk) p).2) p hn⟩) hd
theorem for_zip {K : PySem.W.Frag} {a b : Addr} {xs ys : List V} {g : TG} {tb : TS} {D : Ends} {σ : St} {H : Hp} (hlen : xs.length = ys.length) (Pv : Nat → St → Hp → Prop) (h0 : Pv 0 σ H) (hl : ∀ i σ H, i ≤ xs.length → Pv i σ H → SqL K H a xs ∧ SqL K H b ys)
    (hs : ∀ i x y p σ H, xs[i]? = some x → ys[i]? = some y → Pv i σ H → H p = none → g (.ref p) σ (upd H p (.tup [x, y])) fun σ2 H2 => tb { D with nx := Pv (i + 1), ct := Pv (i + 1), bk := D.nx } σ2 H2) (hd : ∀ σ H, Pv xs.length σ H → D.nx σ H) :
    ∃ W : Nat → Nat → St → Hp → Prop, (∃ m, W 0 m σ H) ∧ ∀ i m σ H, W i m σ H →
      ((Itz K a b).stop i H ∧ D.nx σ H) ∨ ((Itz K a b).go i H ∧ ∃ N : St → Hp → Prop, (∀ σ' H', N σ' H' → ∃ m', m' < m ∧ W (i + 1) m' σ' H') ∧ ∀ x H', (Itz K a b).yld i H x H' → g x σ H' fun σ2 H2 => tb { D with nx := N, ct := N, bk := D.nx } σ2 H2) := by
  refine ⟨fun i m σ H => m = xs.length - i ∧ i ≤ xs.length ∧ Pv i σ H, ⟨xs.length, by simp, Nat.zero_le _, h0⟩, ?_⟩
  rintro i m σ H ⟨rfl, hi, p⟩
  have q := hl i σ H hi p
  by_cases hlt : i < xs.length
  · refine .inr ⟨⟨xs, xs[i], ys, ys[i], q.1, by simp [hlt], q.2, by simp [hlen ▸ hlt]⟩, Pv (i + 1), fun σ' H' p' => ⟨xs.length - (i + 1), by omega, rfl, hlt, p'⟩, fun v H' y => ?_⟩
    obtain ⟨r, x, y, rfl, hn, rfl, h1, h2⟩ := y
    exact hs i x y r σ _ (h1 _ q.1) (h2 _ q.2) p hn
  · have e : i = xs.length := by omega
    subst e
    exact .inl ⟨⟨xs, ys, q.1, q.2, .inl (Nat.le_refl _)⟩, hd σ H p⟩
end L2


set_option Elab.async false
set_option linter.all false
set_option maxRecDepth 100000
/-! max(xs, default=d) -/
namespace L2
open PySem PySem.Spec PyProof.Rows
section
variable {prog : Program} {w : World} {A : Around} {R : Result → Shared → Prop} {I : Addr} {fp wr : List Addr} {n : Nat} {P : Nat → Value → Prop} {St' : Nat → Heap → Prop} {kw : List (Str × Value)}
end
section
variable {X : Cx}
end
namespace R
end R
end L2


set_option Elab.async false
set_option linter.all false
set_option maxRecDepth 100000
/-! bundles within bundles; what offers tell -/
namespace L2
/-! ### parts -/
/-! ### worths and offers -/
end L2


set_option Elab.async false
set_option linter.all false
set_option maxRecDepth 100000
/-! a def with one default value, whatever it is -/
namespace L2
open PySem PySem.Spec PyProof.Rows
section
variable {P : Program} {w : World} {K : PySem.W.Frag} {mg : Str → Option Value} {base : Heap}
end
end L2


set_option Elab.async false
set_option linter.all false
set_option maxRecDepth 100000
/-! tuples of two whole numbers and lists of them: !=, ==; list.clear, pop(i), insert; a < b < c -/
namespace L2
open PySem PySem.Spec PyProof.Rows
section
variable {X : Cx}
/-- a list of tuples of two whole numbers at l -/
noncomputable def Pairs (H : Hp) (l : Addr) (xs : List (Nat × Int)) (ps : List Addr) : Prop := H l = some (.lst (ps.map V.ref)) ∧ ps.length = xs.length ∧ ∀ (i : Nat) (p : Addr) (x : Nat × Int), ps[i]? = some p → xs[i]? = some x → H p = some (.tup [.int x.1, .int x.2])
theorem Pairs.same {H H' : Hp} {l : Addr} {xs : List (Nat × Int)} {ps : List Addr} (P : Pairs H l xs ps) (S : Same H H') : Pairs H' l xs ps := ⟨S _ _ P.1, P.2.1, fun i p x a b => S _ _ (P.2.2 i p x a b)⟩
theorem Pairs.at {H : Hp} {l : Addr} {xs : List (Nat × Int)} {ps : List Addr} (P : Pairs H l xs ps) {i : Nat} {v : V} (h : (ps.map V.ref)[i]? = some v) : ∃ p x, v = .ref p ∧ xs[i]? = some x ∧ H p = some (.tup [.int x.1, .int x.2]) := by
  rw [List.getElem?_map] at h
  obtain ⟨p, hp, rfl⟩ := Option.map_eq_some_iff.mp h
  have hi : i < ps.length := (List.getElem?_eq_some_iff.mp hp).1
  have hi' : i < xs.length := by rw [← P.2.1]; exact hi
  exact ⟨p, xs[i], rfl, List.getElem?_eq_getElem hi', P.2.2 i p _ hp (List.getElem?_eq_getElem hi')⟩
theorem tup_items {pins : List (Addr × Obj)} {σ : St} {H : Hp} {s : Shared} {a : Addr} {i j : Int} (I : Inv X pins σ H s) (h : H a = some (.tup [.int i, .int j])) : ∃ t u, s.heap.IsTuple a #[.int i t, .int j u] := by
  obtain ⟨its, r, p, _⟩ := I.tuple (SqT.of h)
  obtain ⟨u, v, e, ⟨t, e1⟩, ⟨t', e2⟩⟩ := Vals.two r
  subst e e1 e2
  exact ⟨t, t', p⟩
theorem pair_all {i j : Int} {t u t' u' : Tok} {A : Around} {s : Shared} (k : Nat) (h1 : k < (#[Value.int i t, .int j u] : Array Value).size) (h2 : k < (#[Value.int i t', .int j u'] : Array Value).size) :
    SeqAt.EqAt A s (#[Value.int i t, .int j u] : Array Value)[k] (#[Value.int i t', .int j u'] : Array Value)[k] true := by
  have h1' : k < 2 := h1
  match k, h1' with
  | 0, _ =>
    have q := SeqAt.EqAt.int_int (A := A) (s := s) i t i t'
    rw [beq_self_eq_true] at q; exact q
  | 1, _ =>
    have q := SeqAt.EqAt.int_int (A := A) (s := s) j u j u'
    rw [beq_self_eq_true] at q; exact q
/-- two lists of the same tuples, by their values -/
theorem pairs_eq {A : Around} {pins : List (Addr × Obj)} {σ : St} {H : Hp} {s : Shared} {l m : Addr} {xs : List (Nat × Int)} {ps qs : List Addr} (I : Inv X pins σ H s) (P : Pairs H l xs ps) (R : Pairs H m xs qs) (hu : A.units < cLine) :
    ∃ its its2 : List Value, s.heap.IsList l its.toArray ∧ s.heap.IsList m its2.toArray ∧ its.length = its2.length ∧ ∀ k (h1 : k < its.toArray.size) (h2 : k < its2.toArray.size), SeqAt.EqAt A s its.toArray[k] its2.toArray[k] true := by
  obtain ⟨its, r, p, _⟩ := I.list (SqL.of P.1)
  obtain ⟨its2, r2, p2, _⟩ := I.list (SqL.of R.1)
  have l1 := r.length
  have l2 := r2.length
  rw [List.length_map] at l1 l2
  refine ⟨its, its2, p.isList, p2.isList, by rw [← l1, ← l2, P.2.1, R.2.1], fun k h1 h2 => ?_⟩
  have g1 : k < its.length := by simpa using h1
  have g2 : k < its2.length := by simpa using h2
  obtain ⟨x, hx, rx⟩ := vals_at r (List.getElem?_eq_getElem g1)
  obtain ⟨y, hy, ry⟩ := vals_at r2 (List.getElem?_eq_getElem g2)
  obtain ⟨a, z, rfl, hz, ha⟩ := P.at hx
  obtain ⟨b, z', rfl, hz', hb⟩ := R.at hy
  rw [hz] at hz'
  cases hz'
  have e1 : its.toArray[k] = .ref a := by rw [List.getElem_toArray]; exact rx
  have e2 : its2.toArray[k] = .ref b := by rw [List.getElem_toArray]; exact ry
  rw [e1, e2]
  by_cases e : a = b
  · subst e; exact SeqAt.EqAt.same _
  · obtain ⟨t, t', p1⟩ := tup_items I ha
    obtain ⟨u, u', p2⟩ := tup_items I hb
    have z := SeqAt.RcAt.tuples (A := A) (e := fun _ => true) p1 p2 hu (fun k h1 h2 => pair_all k h1 h2)
    exact SeqAt.EqAt.of_refs e z
end
/-! ### shut -/
namespace R
section
variable {X : Cx} {e e2 o a b c : Expr} {to ta tb tc : TE} {t : TA} {pos apos cpos : Pos}
end
end R
end L2


set_option Elab.async false
set_option linter.all false
set_option maxRecDepth 100000
/-! own classes: making, fields, methods chosen by the object's class, isinstance -/
namespace L2
open PySem PySem.Spec PyProof.Rows
section
variable {X : Cx}
end
namespace R
section
variable {X : Cx} {e o value : Expr} {es : List Expr} {te to ta tv : TE} {t : TA} {pos p apos pos' : Pos}
end
end R
end L2


set_option Elab.async false
set_option linter.all false
set_option maxRecDepth 100000
/-! trees of bids: depth, tally, what is spoken of -/
namespace L2
open PySem PySem.Spec PyProof.Rows
/-! ### lists side by side -/
section
variable {α β : Type} {R S : α → β → Prop} {xs xs' : List α} {ys ys' : List β}
end
end L2


set_option Elab.async false
set_option linter.all false
set_option maxRecDepth 100000
/-! what bids are worth, as functions of the bundle -/
namespace L2
open PySem PySem.Spec PyProof.Rows
/-! ### tables -/
/-! ### the greatest, from nought on -/
end L2
namespace L2.R
open PySem PySem.Spec PyProof.Rows
variable {X : Cx} {e : Expr} {te : TE} {pos : Pos}
end L2.R


set_option Elab.async false
set_option linter.all false
set_option maxRecDepth 100000
/-! wishes of groups that are apart -/
namespace L2
open PySem PySem.Spec PyProof.Rows
/-! ### one wish in other words -/
end L2


set_option Elab.async false
set_option linter.all false
set_option maxRecDepth 100000
/-! a list taken apart: x, y = [.., ..] -/
namespace L2
open PySem PySem.Spec PyProof.Rows
section
variable {prog : Program} {w : World} {A : Around} {E : Value → Shared → Prop}
end
namespace R
end R
end L2


set_option Elab.async false
set_option linter.all false
set_option maxRecDepth 100000
/-! refusals: constructors that raise, a try that goes on, isinstance of a tuple of classes -/
namespace L2
open PySem PySem.Spec PyProof.Rows PySem.W
section
variable {P : Program} {w : World} {K : PySem.W.Frag} {mg : Str → Option Value} {base : Heap}
end
/-! ### isinstance of a tuple of own classes -/
/-! ### a try whose body raises nothing -/
namespace R
section
variable {X : Cx} {e : Expr} {es : List Expr} {te : TE} {t : TA} {pos p : Pos}
end
end R
end L2


set_option Elab.async false
set_option linter.all false
set_option maxRecDepth 100000
/-! an exception with a dict of its own, on its way -/
namespace L2
open PySem PySem.Spec PyProof.Rows PySem.W
section
variable {M : Model} {A : Around} {E : Value → Shared → Prop} {s : Shared} {B : Heap} {env : Env} {outer : List Env} {L e : Addr} {C : Value} {dx : Option Addr} {Q : Unit → Shared → Prop}
end
end L2


set_option Elab.async false
set_option linter.all false
set_option maxRecDepth 100000
/-! exceptions of own classes with __init__ and a field: raised, passed on -/
namespace L2
open PySem PySem.Spec PyProof.Rows PySem.W

/-! ### what an exception is while it is made -/

/-! ### C(..): the exception laid, then its __init__ -/
section
variable {prog : Program} {w : World} {A : Around} {E : Value → Shared → Prop} {h : Heap} {g : Array GenState} {d : Drawn} {t : Nat} {os : OsState} {K : Frag}
variable {nm q : Str} {C N : Addr} {bs bm bmB : List Value} {hdct : Bool} {sn : List Str} {sub : List Value} {ab : Bool} {col : Option Bool} {dd : Option Addr} {k0 k1 k2 k3 k5 : Option Value} {B newId initId : String}
end
end L2


set_option Elab.async false
set_option linter.all false
set_option maxRecDepth 100000
/-! raise C(v), C with __init__ -/
namespace L2
open PySem PySem.Spec PyProof.Rows PySem.W
end L2


set_option Elab.async false
set_option linter.all false
set_option maxRecDepth 100000
/-! an exception's __init__: the base's __init__, the field -/
namespace L2
open PySem PySem.Spec PyProof.Rows PySem.W
open Builtin Builtin.ObjectAttr
/-! ### D.__init__(self, text), D an own class without __init__ -/
section
variable {prog : Program} {w : World} {A : Around} {E : Value → Shared → Prop} {h : Heap} {g : Array GenState} {d : Drawn} {t : Nat} {os : OsState} {K : Frag} {C a : Addr}
/-! ### self.f = v -/
end
end L2


set_option Elab.async false
set_option linter.all false
set_option maxRecDepth 100000
/-! rules: D.__init__(self, ..), self.f = v in an exception's __init__; e.f; isinstance -/
namespace L2
open PySem PySem.Spec PyProof.Rows PySem.W
open Builtin Builtin.ObjectAttr
/-! ### a caught exception with a dict -/
section
variable {prog : Program} {w : World} {A : Around} {E : Value → Shared → Prop} {h : Heap} {g : Array GenState} {d : Drawn} {t : Nat} {os : OsState} {K : Frag} {C a dx : Addr} {f : Str} {v : Value}
end
end L2


set_option Elab.async false
set_option linter.all false
set_option maxRecDepth 100000
/-! code in a try: what may raise an exception of the class C, and the handlers -/
namespace L2
open PySem PySem.Spec PyProof.Rows PySem.W
section
variable {X : Cx} {D : Addr} {pos p apos : Pos} {e o : Expr} {es : List Expr} {ta : TE} {t : TA}
end
/-! ### the handlers -/
end L2


set_option Elab.async false
set_option linter.all false
set_option maxRecDepth 100000
/-! texts: order, slices -/
namespace L2
open PySem PySem.Spec PyProof.Rows PySem.W
end L2


set_option Elab.async false
set_option linter.all false
set_option maxRecDepth 100000
/-! for i, x in enumerate(xs); for c in text -/
namespace L2
open PySem PySem.Spec PyProof.Rows PySem.W
/-! ### the signs of a text, one by one -/
end L2


set_option Elab.async false
set_option linter.all false
set_option maxRecDepth 100000
/-! list(d); ==, != of lists of texts; == of a thing with itself -/
namespace L2
open PySem PySem.Spec PyProof.Rows PySem.W
section
variable {X : Cx}
/-! ### lists of texts -/
/-! ### a thing and itself -/
end
end L2


set_option Elab.async false
set_option linter.all false
set_option maxRecDepth 100000
/-! the rules, shut -/
namespace L2
open PySem PySem.Spec PyProof.Rows PySem.W
section
variable {X : Cx}
end
theorem few2 {e f : Expr} {env : Env} {cpos : Pos} (h : noStar e = true) (h2 : noStar f = true) : ((backTo cpos (starEach [e, f] env)).all (fun x => !x.1) && (backToKw cpos (keywordEach [] env)).all (fun x => x.1.isSome)
      && decide (([e, f] : List Expr).length + ([] : List Keyword).length + (if ([] : List Keyword).isEmpty then 0 else 1) < 30)) = true := by
  rw [star_cons h, star_cons h2]; rfl
section
variable {P : Program} {w : World} {K : PySem.W.Frag} {mg : Str → Option Value} {base : Heap}
end
namespace R
section
variable {X : Cx} {e o i f value : Expr} {es : List Expr} {te to ti tf tv : TE} {t : TA} {pos p apos pos' : Pos}
theorem pe_dget2 {cpos : Pos} (hu : X.A.units + 64 < cLine) (ho : QE X o to) (he : QE X e te) (hf : QE X f tf) (hs : noStar e = true := by rfl) (hs2 : noStar f = true := by rfl) (hb : attributeBase o "get" X.env (eval o X.env) = eval o X.env := by rfl) (hl : (apos.endLine == cpos.line) = true := by rfl) :
    QE X (.Call (.Attribute o "get" apos) [e, f] [] cpos) (tDGet2 to te tf) := ⟨L2.pe_dget2 (by omega) ho.h he.h hf.h ⟨hb, few2 hs hs2, hl, by rw [star_cons hs, star_cons hs2]; rfl⟩⟩
end
end R
/-! ### comprehensions over a text -/
section
variable {l : Addr} {fr : List Nat} {tt : TT} {te : TE} {σ : St} {Q : VK} {H1 : Hp}
end
end L2


set_option Elab.async false
set_option linter.all false
set_option maxRecDepth 100000
/-! a text so many times -/
namespace L2
open PySem PySem.Spec PyProof.Rows PySem.W
end L2


set_option Elab.async false
set_option linter.all false
/-! plans of a hall: ways to give each bidder nothing or one of its offers; the greatest worth; the first of the best -/
namespace GP
noncomputable abbrev Off := List (Nat × Int)
/-- c is nothing, or an offer whose things are free -/
noncomputable def Opt (tk : Nat) (o : Off) (c : Nat × Int) : Prop := c = (0, 0) ∨ (c ∈ o ∧ tk &&& c.1 = 0)
noncomputable def IsWay : Nat → List Off → List (Nat × Int) → Prop
  | _, [], [] => True
  | tk, o :: os, c :: cs => Opt tk o c ∧ IsWay (tk ||| c.1) os cs
  | _, [], _ :: _ => False
  | _, _ :: _, [] => False
noncomputable def worth (w : List (Nat × Int)) : Int := (w.map Prod.snd).sum
noncomputable def taken (w : List (Nat × Int)) : Nat := w.foldl (fun t c => t ||| c.1) 0
theorem worth_app (u v : List (Nat × Int)) : worth (u ++ v) = worth u + worth v := by unfold worth; rw [List.map_append, List.sum_append]
theorem IsWay.length : ∀ {tk : Nat} {os : List Off} {w : List (Nat × Int)}, IsWay tk os w → w.length = os.length
  | _, [], [], _ => rfl
  | _, _ :: _, _ :: _, h => by rw [List.length_cons, List.length_cons, IsWay.length h.2]
  | _, [], _ :: _, h => h.elim
  | _, _ :: _, [], h => h.elim
theorem foldl_or (w : List (Nat × Int)) : ∀ t : Nat, w.foldl (fun t c => t ||| c.1) t = t ||| taken w := by
  unfold taken
  induction w with
  | nil => intro t; simp
  | cons c w ih =>
    intro t
    rw [List.foldl_cons, List.foldl_cons, ih, ih (0 ||| c.1), Nat.zero_or, Nat.or_assoc]
theorem taken_app (u : List (Nat × Int)) (c : Nat × Int) : taken (u ++ [c]) = taken u ||| c.1 := by
  unfold taken
  rw [List.foldl_append]; rfl
theorem taken_cons (c : Nat × Int) (u : List (Nat × Int)) : taken (c :: u) = c.1 ||| taken u := by
  show (u.foldl (fun t c => t ||| c.1) (0 ||| c.1)) = _
  rw [foldl_or, Nat.zero_or]
/-! ### the order of plans -/
/-! ### the greatest, and the first of these -/
/-! ### all ways, as a list -/
end GP


set_option Elab.async false
set_option linter.all false
/-! what comes of a hall without a bidder, with an offer raised or taken out, of two halls side by side -/
namespace GP
/-! ### side by side -/
end GP


set_option Elab.async false
set_option linter.all false
/-! sorting by questions: what comes out when the keys are told apart -/
namespace GS
open PySem PySem.W PyProof.Rows
/-- the questions are about places below n, and are answered by lt -/
noncomputable def Ok (n : Nat) (lt : Nat → Nat → Bool) {α : Type} : KasT α → (α → Prop) → Prop
  | .ret a, R => R a
  | .ask i j k, R => i < n ∧ j < n ∧ i ≠ j ∧ Ok n lt (k (lt i j)) R
variable {n : Nat} {lt : Nat → Nat → Bool} {α β : Type}
theorem Ok.bind {f : α → KasT β} {R : β → Prop} : ∀ {t : KasT α}, Ok n lt t (fun a => Ok n lt (f a) R) → Ok n lt (t.bind f) R
  | .ret _, h => h
  | .ask i j k, h => ⟨h.1, h.2.1, h.2.2.1, Ok.bind h.2.2.2⟩
theorem Ok.mono {R R' : α → Prop} (hr : ∀ a, R a → R' a) : ∀ {t : KasT α}, Ok n lt t R → Ok n lt t R'
  | .ret _, h => hr _ h
  | .ask i j k, h => ⟨h.1, h.2.1, h.2.2.1, Ok.mono hr h.2.2.2⟩
theorem Ok.wp {cmp : Nat → Nat → (Bool → Shared → Prop) → Shared → Prop} {St : Shared → Prop} (hc : ∀ i j C s, i < n → j < n → i ≠ j → St s → (∀ s', St s' → C (lt i j) s') → cmp i j C s) {R : α → Prop} {Q : α → Shared → Prop} (hq : ∀ a s, R a → St s → Q a s) :
    ∀ (t : KasT α) (s : Shared), Ok n lt t R → St s → t.kasWp cmp Q s
  | .ret a, s, h, hs => hq a s h hs
  | .ask i j k, s, h, hs => hc i j _ s h.1 h.2.1 h.2.2.1 hs fun s' hs' => Ok.wp hc hq (k (lt i j)) s' h.2.2.2 hs'
/-! ### keys -/
section
variable (ky : Nat → Int)
noncomputable def kp (p : Array Nat) (i : Nat) : Int := ky (p.getD i 0)
noncomputable def Up (p : Array Nat) (k : Nat) : Prop := ∀ i j, i < j → j < k → kp ky p i < kp ky p j
noncomputable def Down (p : Array Nat) (k : Nat) : Prop := ∀ i j, i < j → j < k → kp ky p j < kp ky p i
/-- p holds the places below n, each once; their keys are unlike -/
structure Pm (n : Nat) (p : Array Nat) : Prop where
  perm : p.Perm (List.toArray (List.range n))
theorem Pm.size {n : Nat} {p : Array Nat} (h : Pm n p) : p.size = n := by
  have := h.perm.size_eq
  simpa using this
theorem Pm.below {n : Nat} {p : Array Nat} (h : Pm n p) {i : Nat} (hi : i < n) : p.getD i 0 < n := by
  have hs : i < p.size := by rw [h.size]; exact hi
  have hm : p[i] ∈ p := Array.getElem_mem hs
  have := (h.perm.mem_iff).mp hm
  have e : p.getD i 0 = p[i] := by simp [Array.getD, hs]
  rw [e]
  simpa using this
theorem Pm.inj {n : Nat} {p : Array Nat} (h : Pm n p) {i j : Nat} (hi : i < n) (hj : j < n) (e : p.getD i 0 = p.getD j 0) : i = j := by
  have hs : i < p.size := by rw [h.size]; exact hi
  have hs2 : j < p.size := by rw [h.size]; exact hj
  have hn : p.toList.Nodup := by
    have : p.toList.Perm (List.range n) := by
      have := Array.perm_iff_toList_perm.mp h.perm
      simpa using this
    exact this.nodup_iff.mpr List.nodup_range
  have e1 : p.getD i 0 = p.toList[i]'(by simpa using hs) := by simp [Array.getD, hs]
  have e2 : p.getD j 0 = p.toList[j]'(by simpa using hs2) := by simp [Array.getD, hs2]
  rw [e1, e2] at e
  exact (List.getElem_inj hn).mp e
end
variable {ky : Nat → Int} (hk : ∀ i j, i < n → j < n → ky i = ky j → i = j)
include hk
theorem ne_keys {p : Array Nat} (hp : Pm n p) {i j : Nat} (hi : i < n) (hj : j < n) (hij : i ≠ j) : kp ky p i ≠ kp ky p j := fun e =>
  hij (hp.inj hi hj (hk _ _ (hp.below hi) (hp.below hj) e))
omit hk in
theorem Up.succ {p : Array Nat} {m : Nat} (h : Up ky p (m + 1)) (hl : kp ky p m < kp ky p (m + 1)) : Up ky p (m + 2) := fun i j hij hj => by
  by_cases e : j = m + 1
  · subst e
    by_cases e2 : i = m
    · subst e2; exact hl
    · exact Int.lt_trans (h i m (by omega) (by omega)) hl
  · exact h i j hij (by omega)
omit hk in
theorem Down.succ {p : Array Nat} {m : Nat} (h : Down ky p (m + 1)) (hl : kp ky p (m + 1) < kp ky p m) : Down ky p (m + 2) := fun i j hij hj => by
  by_cases e : j = m + 1
  · subst e
    by_cases e2 : i = m
    · subst e2; exact hl
    · exact Int.lt_trans hl (h i m (by omega) (by omega))
  · exact h i j hij (by omega)
noncomputable abbrev ltK (ky : Nat → Int) : Nat → Nat → Bool := fun i j => decide (ky i < ky j)
theorem asc_ok {p : Array Nat} (hp : Pm n p) : ∀ (f m : Nat), m + 1 + f ≤ n → Up ky p (m + 1) → Ok n (ltK ky) (kas_asc p f (m + 1)) fun r => m + 1 ≤ r ∧ r ≤ m + 1 + f ∧ Up ky p r ∧ (r < m + 1 + f → kp ky p r < kp ky p (r - 1))
  | 0, m, hn, h => ⟨Nat.le_refl _, by omega, h, fun z => by omega⟩
  | f + 1, m, hn, h => by
    refine ⟨hp.below (by omega), hp.below (by omega), fun z => absurd (hp.inj (by omega) (by omega) z) (by omega), ?_⟩
    show Ok n (ltK ky) (if decide (kp ky p (m + 1) < kp ky p m) = true then _ else _) _
    by_cases c : kp ky p (m + 1) < kp ky p m
    · rw [if_pos (decide_eq_true c)]
      exact ⟨Nat.le_refl _, by omega, h, fun _ => c⟩
    · rw [if_neg (by simpa using c)]
      have c2 : kp ky p m < kp ky p (m + 1) := by
        have := ne_keys hk hp (i := m) (j := m + 1) (by omega) (by omega) (by omega)
        omega
      refine Ok.mono (fun r z => ?_) (asc_ok hp f (m + 1) (by omega) (h.succ c2))
      exact ⟨by omega, by omega, z.2.2.1, fun q => z.2.2.2 (by omega)⟩
theorem desc_ok {p : Array Nat} (hp : Pm n p) : ∀ (f m : Nat), m + 1 + f ≤ n → Down ky p (m + 1) → Ok n (ltK ky) (kas_desc f p (m + 1) 0) fun r => r.1 = p ∧ r.2.2 = 0 ∧ m + 1 ≤ r.2.1 ∧ r.2.1 ≤ m + 1 + f ∧ Down ky p r.2.1
  | 0, m, hn, h => ⟨rfl, rfl, Nat.le_refl _, by show m + 1 ≤ _; omega, h⟩
  | f + 1, m, hn, h => by
    refine ⟨hp.below (by omega), hp.below (by omega), fun z => absurd (hp.inj (by omega) (by omega) z) (by omega), ?_⟩
    show Ok n (ltK ky) (if decide (kp ky p (m + 1) < kp ky p m) = true then _ else _) _
    by_cases c : kp ky p (m + 1) < kp ky p m
    · rw [if_pos (decide_eq_true c), if_neg (by omega)]
      refine Ok.mono (fun r z => ?_) (desc_ok hp f (m + 1) (by omega) (h.succ c))
      exact ⟨z.1, z.2.1, by omega, by omega, z.2.2.2.2⟩
    · rw [if_neg (by simpa using c)]
      have c2 : kp ky p m < kp ky p (m + 1) := by
        have := ne_keys hk hp (i := m) (j := m + 1) (by omega) (by omega) (by omega)
        omega
      refine ⟨hp.below (by omega), hp.below (by omega), fun z => absurd (hp.inj (by omega) (by omega) z) (by omega), ?_⟩
      show Ok n (ltK ky) (if decide (kp ky p m < kp ky p (m + 1)) = true then _ else _) _
      rw [if_pos (decide_eq_true c2)]
      exact ⟨rfl, rfl, Nat.le_refl _, by show m + 1 ≤ _; omega, h⟩
omit hk in
theorem rev_pm {p : Array Nat} (hp : Pm n p) (i j : Nat) : Pm n (kas_rev p i j) := ⟨(mirror_perm _ _ _ _).trans hp.perm⟩
omit hk in
theorem kp_rev {p : Array Nat} {r : Nat} (hr : r ≤ p.size) (i : Nat) : kp ky (kas_rev p 0 r) i = if i < r then kp ky p (r - 1 - i) else kp ky p i := by
  have e := getElem?_mirror_all (xs := p) (i := 0) (j := r) hr i
  have g : ∀ (q : Array Nat) (k : Nat), q.getD k 0 = (q[k]?).getD 0 := fun q k => by simp
  unfold kp kas_rev
  rw [g, e]
  by_cases h : i < r
  · rw [if_pos ⟨by omega, h⟩, if_pos h, g, show 0 + r - 1 - i = r - 1 - i by omega]
  · rw [if_neg (by omega), if_neg h, g]
omit hk in
theorem rev_up {p : Array Nat} {r : Nat} (hr : r ≤ p.size) (h : Down ky p r) : Up ky (kas_rev p 0 r) r := fun i j hij hj => by
  rw [kp_rev hr, kp_rev hr, if_pos (by omega), if_pos hj]
  exact h _ _ (by omega) (by omega)
theorem count_ok (h1 : 1 ≤ n) {p : Array Nat} (hp : Pm n p) : Ok n (ltK ky) (kas_count n p) fun r => Pm n r.2 ∧ 1 ≤ r.1 ∧ r.1 ≤ n ∧ Up ky r.2 r.1 := by
  unfold kas_count
  refine Ok.bind (Ok.mono (fun r z => ?_) (asc_ok hk hp (n - 1) 0 (by omega) (fun i j hij hj => by omega)))
  obtain ⟨z1, z2, z3, z4⟩ := z
  by_cases e : r = n
  · subst e
    rw [if_pos (by simp)]
    exact ⟨hp, by omega, Nat.le_refl _, z3⟩
  · rw [if_neg (by simpa using e)]
    by_cases e2 : r > 1
    · rw [if_pos e2]
      refine ⟨hp.below (by omega), hp.below (by omega), fun z => absurd (hp.inj (by omega) (by omega) z) (by omega), ?_⟩
      have c : kp ky p 0 < kp ky p (r - 1) := z3 0 (r - 1) (by omega) (by omega)
      show Ok n (ltK ky) (if decide (kp ky p 0 < kp ky p (r - 1)) = true then _ else _) _
      rw [if_pos (decide_eq_true c)]
      exact ⟨hp, by show 1 ≤ r; omega, by show r ≤ n; omega, z3⟩
    · rw [if_neg e2]
      have er : r = 1 := by omega
      subst er
      have c := z4 (by omega)
      unfold kas_descPart
      refine Ok.bind (Ok.mono (fun q y => ?_) (desc_ok hk hp (n - (1 + 1)) 1 (by omega) (fun i j hij hj => ?_)))
      · obtain ⟨y1, y2, y3, y4, y5⟩ := y
        rw [if_neg (by omega), y1]
        unfold kas_tail3
        have hq : q.2.1 ≤ p.size := by rw [hp.size]; omega
        obtain ⟨m, hm⟩ : ∃ m, q.2.1 = m + 1 := ⟨q.2.1 - 1, by omega⟩
        have U := rev_up hq y5
        rw [hm] at U ⊢
        refine Ok.bind (Ok.mono (fun r' x => ?_) (asc_ok hk (rev_pm hp 0 (m + 1)) (n - (m + 1)) m (by omega) U))
        exact ⟨rev_pm hp _ _, by show 1 ≤ r'; omega, by show r' ≤ n; omega, x.2.2.1⟩
      · have ei : i = 0 := by omega
        have ej : j = 1 := by omega
        subst ei; subst ej
        exact c
theorem place_ok {p : Array Nat} (hp : Pm n p) {k : Nat} (hkn : k < n) (hU : Up ky p k) : ∀ (f l r : Nat), l ≤ r → r ≤ k → r - l ≤ f → (∀ i, i < l → kp ky p i < kp ky p k) → (∀ i, r ≤ i → i < k → kp ky p k < kp ky p i) →
    Ok n (ltK ky) (kas_place p k f l r) fun m => m ≤ k ∧ (∀ i, i < m → kp ky p i < kp ky p k) ∧ ∀ i, m ≤ i → i < k → kp ky p k < kp ky p i
  | 0, l, r, h1, h2, h3, a, b => ⟨by omega, a, fun i hi hik => b i (by omega) hik⟩
  | f + 1, l, r, h1, h2, h3, a, b => by
    unfold kas_place
    by_cases c : l ≥ r
    · rw [if_pos c]
      exact ⟨by omega, a, fun i hi hik => b i (by omega) hik⟩
    · rw [if_neg c]
      refine ⟨hp.below hkn, hp.below (by omega), fun z => absurd (hp.inj (by omega) (by omega) z) (by omega), ?_⟩
      show Ok n (ltK ky) (if decide (kp ky p k < kp ky p ((l + r) / 2)) = true then _ else _) _
      by_cases d : kp ky p k < kp ky p ((l + r) / 2)
      · rw [if_pos (decide_eq_true d)]
        refine place_ok hp hkn hU f l ((l + r) / 2) (by omega) (by omega) (by omega) a fun i hi hik => ?_
        by_cases e : i = (l + r) / 2
        · subst e; exact d
        · exact Int.lt_trans d (hU _ _ (by omega) hik)
      · rw [if_neg (by simpa using d)]
        have d2 : kp ky p ((l + r) / 2) < kp ky p k := by
          have := ne_keys hk hp (i := (l + r) / 2) (j := k) (by omega) hkn (by omega)
          omega
        refine place_ok hp hkn hU f ((l + r) / 2 + 1) r (by omega) h2 (by omega) (fun i hi => ?_) b
        by_cases e : i = (l + r) / 2
        · subst e; exact d2
        · exact Int.lt_trans (hU i ((l + r) / 2) (by omega) (by omega)) d2
omit hk in
theorem kp_bubble {p : Array Nat} {k l : Nat} (hkp : k < p.size) (hl : l ≤ k) (i : Nat) : kp ky (bubble p k (k - l)) i = if i = l then kp ky p k else if l < i ∧ i ≤ k then kp ky p (i - 1) else kp ky p i := by
  have e := getElem?_bubble hkp (k - l) (by omega) i
  have g : ∀ (q : Array Nat) (k : Nat), q.getD k 0 = (q[k]?).getD 0 := fun q k => by simp
  rw [show k - (k - l) = l by omega] at e
  unfold kp
  rw [g, e]
  by_cases h : i = l
  · rw [if_pos h, if_pos h, g]
  · rw [if_neg h, if_neg h]
    by_cases h2 : l < i ∧ i ≤ k
    · rw [if_pos h2, if_pos h2, g]
    · rw [if_neg h2, if_neg h2, g]
theorem bin_ok : ∀ (f : Nat) {p : Array Nat} {k : Nat}, Pm n p → k + f = n → Up ky p k → Ok n (ltK ky) (kas_bin f p k) fun q => Pm n q ∧ Up ky q n
  | 0, p, k, hp, e, h => by
    have : k = n := by omega
    subst this
    exact ⟨hp, h⟩
  | f + 1, p, k, hp, e, h => by
    unfold kas_bin
    refine Ok.bind (Ok.mono (fun l z => ?_) (place_ok hk hp (k := k) (by omega) h k 0 k (by omega) (by omega) (by omega) (fun i hi => by omega) (fun i hi hik => by omega)))
    obtain ⟨z1, z2, z3⟩ := z
    have hkp : k < p.size := by rw [hp.size]; omega
    refine bin_ok f ⟨(bubble_perm _ _ _).trans hp.perm⟩ (by omega) fun i j hij hj => ?_
    rw [kp_bubble hkp z1, kp_bubble hkp z1]
    by_cases ei : i = l
    · rw [if_pos ei, if_neg (by omega), if_pos ⟨by omega, by omega⟩]
      exact z3 _ (by omega) (by omega)
    · rw [if_neg ei]
      by_cases ej : j = l
      · rw [if_pos ej, if_neg (by omega)]
        exact z2 _ (by omega)
      · rw [if_neg ej]
        by_cases c1 : l < i ∧ i ≤ k
        · rw [if_pos c1, if_pos ⟨by omega, by omega⟩]
          exact h _ _ (by omega) (by omega)
        · rw [if_neg c1]
          by_cases c2 : l < j ∧ j ≤ k
          · rw [if_pos c2]
            exact h _ _ (by omega) (by omega)
          · rw [if_neg c2]
            exact h _ _ hij (by omega)
theorem sort_ok (h1 : 1 ≤ n) : Ok n (ltK ky) (kas_sort n) fun q => Pm n q ∧ Up ky q n := by
  unfold kas_sort
  refine Ok.bind (Ok.mono (fun r z => ?_) (count_ok hk h1 (p := List.toArray (List.range n)) ⟨Array.Perm.refl _⟩))
  obtain ⟨z1, z2, z3, z4⟩ := z
  by_cases c : r.1 < n
  · rw [if_pos c]
    have e : max r.1 1 = r.1 := by omega
    rw [e]
    exact bin_ok hk (n - r.1) z1 (by omega) z4
  · rw [if_neg c]
    have e : r.1 = n := by omega
    rw [e] at z4
    exact ⟨z1, z4⟩
end GS


set_option Elab.async false
set_option linter.all false
set_option maxRecDepth 100000
/-! sorted(..) of tuples whose first parts are whole numbers, no two alike -/
namespace GS
open PySem PySem.W PyProof.Rows
theorem kt_at {h : Heap} : ∀ {vs fs : List Value} {i : Nat}, KatTups h vs fs → i < vs.length → ∃ (a : Addr) (o : Obj) (xs : Array Value) (n : Nat) (f : Value), vs.getD i Value.none = .ref a ∧ h.get? a = some o ∧ o.data = .seq xs n ∧ xs[0]? = some f ∧ fs[i]? = some f
  | v :: vs, f :: fs, 0, t, _ => by
    obtain ⟨⟨a, o, xs, n, rfl, ho, hc, hd, hf⟩, _⟩ := t
    exact ⟨a, o, xs, n, f, rfl, ho, hd, hf, rfl⟩
  | v :: vs, f :: fs, i + 1, t, hi => by
    obtain ⟨a, o, xs, n, g, e1, e2, e3, e4, e5⟩ := kt_at (i := i) t.2 (by simpa using hi)
    exact ⟨a, o, xs, n, g, by simpa using e1, e2, e3, e4, by simpa using e5⟩
  | [], _, _, _, hi => by simp at hi
  | _ :: _, [], _, t, _ => t.elim
section
variable {prog : Program} {w : World} {A : Around} {E : Value → Shared → Prop} {s : Shared} {ky : Nat → Int} {vs fs : List Value}
/-- the first parts are the keys -/
noncomputable def Keys (ky : Nat → Int) (fs : List Value) : Prop := ∀ (i : Nat) (f : Value), fs[i]? = some f → ∃ t, f = .int (ky i) t
theorem first_cons {xs : Array Value} {f : Value} (h : xs[0]? = some f) : ∃ r, xs.toList = f :: r := by
  cases e : xs.toList with
  | nil =>
    have : xs.toList[0]? = some f := by rw [Array.getElem?_toList]; exact h
    rw [e] at this; cases this
  | cons x r =>
    have : xs.toList[0]? = some f := by rw [Array.getElem?_toList]; exact h
    rw [e] at this
    cases this
    exact ⟨r, rfl⟩
theorem ask_ok (T : KatTups s.heap vs fs) (hf : Keys ky fs) (hk : ∀ i j, i < vs.length → j < vs.length → ky i = ky j → i = j) {i j : Nat} {C : Bool → Shared → Prop} (hi : i < vs.length) (hj : j < vs.length) (hij : i ≠ j) (h : C (ltK ky i j) s) :
    kas_ask prog w A (tuples' true) vs i j C s := by
  obtain ⟨a, o, xs, n, f, e1, e2, e3, e4, e5⟩ := kt_at T hi
  obtain ⟨b, o', ys, m, g, d1, d2, d3, d4, d5⟩ := kt_at T hj
  obtain ⟨t, rfl⟩ := hf i f e5
  obtain ⟨u, rfl⟩ := hf j g d5
  obtain ⟨r, hr⟩ := first_cons e4
  obtain ⟨q, hq⟩ := first_cons d4
  unfold kas_ask
  rw [e1, d1]
  refine kat_lt e2 e3 d2 d3 ?_
  rw [hr, hq, List.zip_cons_cons]
  refine kat_cons (wpAny_eqBool_int ?_)
  have ne : (ky i == ky j) = false := by
    cases z : ky i == ky j with
    | false => rfl
    | true => exact absurd (hk i j hi hj (beq_iff_eq.mp z)) hij
  rw [ne]
  exact kat_no (oneLt_int h)
theorem kind_ok (T : KatTups s.heap vs fs) (hf : Keys ky fs) (h0 : 0 < fs.length) {Q : SortKind → Shared → Prop} (h : Q (tuples' true) s) : wpAny (model prog w) A (keyKind' vs.toArray) Q E s := by
  refine kat_kind (T := .type "int") T h0 (fun v hv => ?_) rfl h
  obtain ⟨i, hi, e⟩ := List.mem_iff_getElem.mp hv
  obtain ⟨t, rfl⟩ := hf i v (by rw [List.getElem?_eq_getElem hi, e])
  exact Looks.of_pure rfl
theorem kt_len {h : Heap} : ∀ {vs fs : List Value}, KatTups h vs fs → fs.length = vs.length
  | [], [], _ => rfl
  | _ :: _, _ :: _, t => by rw [List.length_cons, List.length_cons, kt_len t.2]
  | [], _ :: _, t => t.elim
  | _ :: _, [], t => t.elim
theorem kt_keep {h h' : Heap} {a : Addr} (hn : ∀ v ∈ vs, v ≠ .ref a) (hk : ∀ b o, b ≠ a → h.get? b = some o → h'.get? b = some o) : ∀ {fs : List Value}, KatTups h vs fs → KatTups h' vs fs := by
  induction vs with
  | nil =>
    intro fs t
    cases fs with
    | nil => exact trivial
    | cons _ _ => exact t.elim
  | cons v vs ih =>
    intro fs t
    cases fs with
    | nil => exact t.elim
    | cons f fs =>
      obtain ⟨⟨b, o, xs, n, e, ho, hc, hd, hf⟩, t2⟩ := t
      exact ⟨⟨b, o, xs, n, e, hk b o (fun z => hn v (by simp) (by rw [e, z])) ho, hc, hd, hf⟩, ih (fun v hv => hn v (by simp [hv])) t2⟩
/-- what comes out: the same, rising -/
noncomputable def Out (ky : Nat → Int) (vs out : List Value) : Prop := ∃ p : Array Nat, Pm vs.length p ∧ Up ky p vs.length ∧ out = p.toList.map fun i => vs.getD i Value.none
theorem out_short (hv : vs.length < 2) : Out ky vs vs := by
  refine ⟨List.toArray (List.range vs.length), ⟨Array.Perm.refl _⟩, fun i j hij hj => by omega, ?_⟩
  match vs, hv with
  | [], _ => rfl
  | [v], _ => rfl
theorem sort_tups {a : Addr} {n : Nat} {P : PySem.Fin → Shared → Prop} (ho : s.heap.get? a = some (seqObj "list" vs.toArray n)) (T : KatTups s.heap vs fs) (hn : ∀ v ∈ vs, v ≠ .ref a) (hf : Keys ky fs)
    (hk : ∀ i j, i < vs.length → j < vs.length → ky i = ky j → i = j) (h64 : vs.length < 64) (fin : ∀ out, Out ky vs out → P (.done (.ret .none)) { s with heap := sortedHeap s.heap a vs out.toArray }) :
    wpAny (model prog w) A (Builtin.«list.sort» ⟨[.ref a], []⟩) P E s := by
  have lo : vs.length ≤ sizeLine := by rw [sizeLine_eq]; omega
  have hlt := Heap.lt_size ho
  obtain ⟨c, hc⟩ : ∃ c, (s.heap.update a (Obj.mapSeq fun _ => (#[] : Array Value))).get? a = some (seqObj "list" #[] c) :=
    ⟨_, get?_update_seq ho fun _ => #[]⟩
  have keep : ∀ b o, b ≠ a → s.heap.get? b = some o →
      (((s.heap.update a (Obj.mapSeq fun _ => (#[] : Array Value))).push (seqObj "tuple" vs.toArray 0)).push (seqObj "list" #[] 0)).get? b = some o := fun b o hb e =>
    Heap.get?_push_of_some _ (Heap.get?_push_of_some _ (by rw [Heap.get?_update_ne _ _ _ _ hb]; exact e))
  have hc2 : (((s.heap.update a (Obj.mapSeq fun _ => (#[] : Array Value))).push (seqObj "tuple" vs.toArray 0)).push (seqObj "list" #[] 0)).get? a = some (seqObj "list" #[] c) :=
    Heap.get?_push_of_some _ (Heap.get?_push_of_some _ hc)
  rw [list_sort_plain]
  refine wpAny_bind (listItems_at ho rfl (wpAny_bind (listUpdate_at ho rfl ?_ (by rw [List.size_toArray]; exact lo) (Nat.zero_le _))))
  refine wpAny_bind (seqEpoch_at hc rfl (wpAny_bind (wpAny_newTuple ?_ (by show vs.length ≤ _; exact lo))))
  refine wpAny_bind (wpAny_newList (wpAny_holding ?_) (Nat.zero_le _))
  show wpAny _ _ _ P E { s with heap := ((s.heap.update a (Obj.mapSeq fun _ => (#[] : Array Value))).push (seqObj "tuple" vs.toArray 0)).push (seqObj "list" #[] 0) }
  have tail : ∀ (st : SortSt) (out : List Value), Out ky vs out → (arrOf st).map (·.2) = out.toArray → failedOf st = none → wpAny (model prog w) A (do
      let touched := (← seqEpoch a) != c
      Builtin.List.listUpdate (.ref a) fun _ => (arrOf st).map (·.2)
      if let some e := failedOf st then rule "list.sort.comparison-raised"; throw e
      if touched then rule "list.sort.modified"; raiseError "ValueError" "list modified during sort"
      ret .none) P E { s with heap := ((s.heap.update a (Obj.mapSeq fun _ => (#[] : Array Value))).push (seqObj "tuple" vs.toArray 0)).push (seqObj "list" #[] 0) } := fun st out hO e1 e2 => by
    have lz : out.toArray.size ≤ sizeLine + 1 := by
      obtain ⟨p, hp, _, rfl⟩ := hO
      rw [List.size_toArray, List.length_map, Array.length_toList, hp.size]; omega
    rw [e1, e2]
    refine wpAny_bind (seqEpoch_at hc2 rfl (wpAny_bind (listUpdate_at hc2 rfl ?_ (Nat.zero_le _) lz)))
    simp only [bne_self_eq_false, Bool.false_eq_true, if_false]
    exact wpAny_pure (fin out hO)
  dsimp only
  by_cases h2 : vs.length < 2
  · have hs2 : vs.toArray.size < 2 := by rw [List.size_toArray]; exact h2
    rw [if_pos hs2, if_pos hs2]
    refine wpAny_bind (wpAny_pure ?_)
    rw [StateT.run_pure]
    refine wpAny_bind (wpAny_pure ?_)
    refine tail _ vs (out_short h2) ?_ rfl
    show (vs.toArray.zip vs.toArray).map (·.2) = _
    refine Array.toList_inj.mp ?_
    rw [Array.toList_map, Array.toList_zip]
    exact List.map_snd_zip (by simp)
  · have hs2 : ¬ vs.toArray.size < 2 := by rw [List.size_toArray]; exact h2
    rw [if_neg hs2, if_neg hs2]
    have T2 := kt_keep hn keep T
    refine wpAny_bind (kind_ok (s := { s with heap := _ }) T2 hf (by rw [kt_len T]; omega) ?_)
    refine wpAny_bind (wpAny_mono (kat_run (G := fun p s' => (Pm vs.length p ∧ Up ky p vs.length) ∧ s' = { s with heap := ((s.heap.update a (Obj.mapSeq fun _ => (#[] : Array Value))).push (seqObj "tuple" vs.toArray 0)).push (seqObj "list" #[] 0) }) (Q := fun st' s' => ∃ out, Out ky vs out ∧ (arrOf st').map (·.2) = out.toArray ∧ failedOf st' = none ∧ s' = { s with heap := ((s.heap.update a (Obj.mapSeq fun _ => (#[] : Array Value))).push (seqObj "tuple" vs.toArray 0)).push (seqObj "list" #[] 0) }) rfl (by omega) h64 (fun p st' s' a1 a2 a3 a4 => ?_) ?_) (fun r s' hr => ?_) fun _ _ e => e)
    · exact ⟨_, ⟨p, a4.1.1, a4.1.2, rfl⟩, kat_snds rfl a2, a3, a4.2⟩
    · refine Ok.wp (St := fun s' => s' = { s with heap := ((s.heap.update a (Obj.mapSeq fun _ => (#[] : Array Value))).push (seqObj "tuple" vs.toArray 0)).push (seqObj "list" #[] 0) }) (fun i j C s1 hi hj hij e h => ?_) (fun p s1 hp e => ⟨hp, e⟩) _ _ (sort_ok hk (by omega)) rfl
      subst e
      exact ask_ok T2 hf hk hi hj hij (h _ rfl)
    · obtain ⟨⟨⟩, st'⟩ := r
      obtain ⟨out, hO, e1, e2, rfl⟩ := hr
      exact tail st' out hO e1 e2
theorem sorted_tups {l : Addr} {Q : Value → Shared → Prop} (hl : s.heap.IsList l vs.toArray) (T : KatTups s.heap vs fs) (hf : Keys ky fs) (hk : ∀ i j, i < vs.length → j < vs.length → ky i = ky j → i = j) (h64 : vs.length < 64)
    (h : ∀ out, Out ky vs out → Q (.ref (s.heap.objs.size + 1)) { s with heap := sortedAll s.heap vs out.toArray }) : wpAny (model prog w) A (call (.builtin "sorted") [.ref l]) Q E s := by
  have lo : vs.length ≤ sizeLine := by rw [sizeLine_eq]; omega
  have sz : ((s.heap.push (seqObj "list" #[] 0)).update s.heap.objs.size (Obj.mapSeq (· ++ vs.toArray))).objs.size = s.heap.objs.size + 1 :=
    (Heap.size_update _ _ _).trans (size_push' _ _)
  have old : ∀ b o, s.heap.get? b = some o →
      (((s.heap.push (seqObj "list" #[] 0)).update s.heap.objs.size (Obj.mapSeq (· ++ vs.toArray))).push (seqObj "list" vs.toArray 0)).get? b = some o := fun b o e => by
    have hb := Heap.lt_size e
    refine Heap.get?_push_of_some _ ?_
    rw [Heap.get?_update_ne _ _ _ _ (Nat.ne_of_lt hb)]
    exact Heap.get?_push_of_some _ e
  refine Calls.call_function_entry kind_sorted plain_sorted entry_sorted (args_sorted1 _) ?_
  unfold Builtin.«sorted»
  refine wpAny_bind (m := checkCount "sorted" 1 1 _) (wpAny_pure (wpAny_bind (collect_list hl (wpAny_bind (wpAny_newList ?_ lo)) lo)))
  show wpAny _ _ _ _ _ { s with heap := ((s.heap.push (seqObj "list" #[] 0)).update s.heap.objs.size (Obj.mapSeq (· ++ vs.toArray))).push (seqObj "list" vs.toArray 0) }
  rw [sz]
  have at1 : (((s.heap.push (seqObj "list" #[] 0)).update s.heap.objs.size (Obj.mapSeq (· ++ vs.toArray))).push (seqObj "list" vs.toArray 0)).get? (s.heap.objs.size + 1) = some (seqObj "list" vs.toArray 0) := by
    have := Heap.get?_push_size ((s.heap.push (seqObj "list" #[] 0)).update s.heap.objs.size (Obj.mapSeq (· ++ vs.toArray))) (o := seqObj "list" vs.toArray 0) rfl
    rw [sz] at this
    exact this
  refine wpAny_bind (wpAny_holding (wpAny_call_entry slot_list_sort ⟨_, at1, rfl⟩ entry_list_sort (sort_tups (fs := fs) (ky := ky) at1 ?_ ?_ hf hk h64 fun out hO => ⟨_, rfl, ?_⟩) (args_list_sort _)))
  · refine kt_keep (a := s.heap.objs.size + 1) (fun v hv e => ?_) (fun b o _ e => old b o e) T
    subst e
    obtain ⟨i, hi, e⟩ := List.mem_iff_getElem.mp hv
    obtain ⟨b, o, xs, n, f, e1, e2, _⟩ := kt_at T hi
    rw [List.getD_eq_getElem?_getD, List.getElem?_eq_getElem hi] at e1
    have e1 : vs[i] = .ref b := e1
    rw [e] at e1
    cases e1
    exact absurd (Heap.lt_size e2) (Nat.not_lt_of_le (Nat.le_succ _))
  · intro v hv e
    subst e
    obtain ⟨i, hi, e⟩ := List.mem_iff_getElem.mp hv
    obtain ⟨b, o, xs, n, f, e1, e2, _⟩ := kt_at T hi
    rw [List.getD_eq_getElem?_getD, List.getElem?_eq_getElem hi] at e1
    have e1 : vs[i] = .ref b := e1
    rw [e] at e1
    cases e1
    exact absurd (Heap.lt_size e2) (Nat.not_lt_of_le (Nat.le_succ _))
  · exact wpAny_pure ⟨_, rfl, h out hO⟩
end
end GS
namespace L2
open PySem PySem.Spec PyProof.Rows GS
theorem refs_are : ∀ {ps : List Addr} {us : List Value}, Vals (ps.map V.ref) us → us = ps.map Value.ref
  | [], _, h => by cases h; rfl
  | p :: ps, _, h => by
    cases h with
    | cons r t =>
      cases r
      rw [refs_are t]; rfl
theorem pairs_kt {X : Cx} {pins : List (Addr × Obj)} {σ : St} {H : Hp} {s : Shared} (I : Inv X pins σ H s) : ∀ {ps : List Addr} {xs : List (Nat × Int)}, ps.length = xs.length → (∀ (i : Nat) (p : Addr) (x : Nat × Int), ps[i]? = some p → xs[i]? = some x → H p = some (.tup [.int x.1, .int x.2])) →
    ∃ fs, W.KatTups s.heap (ps.map Value.ref) fs ∧ Keys (fun i => (((xs[i]?).getD (0, 0)).1 : Int)) fs
  | [], [], _, _ => ⟨[], trivial, fun i f e => by simp at e⟩
  | [], _ :: _, hl, _ => by simp at hl
  | _ :: _, [], hl, _ => by simp at hl
  | p :: ps, x :: xs, hl, h => by
    obtain ⟨fs, T, hf⟩ := pairs_kt I (ps := ps) (xs := xs) (by simpa using hl) (fun i p x a b => h (i + 1) p x (by simpa using a) (by simpa using b))
    obtain ⟨its, r, ht, _⟩ := I.tuple (SqT.of (h 0 p x rfl rfl))
    obtain ⟨o, ho, hc, n, hd⟩ := ht
    cases r with
    | cons r1 r2 =>
      obtain ⟨t, rfl⟩ := r1
      refine ⟨.int x.1 t :: fs, ⟨⟨p, o, _, n, rfl, ho, hc, hd, rfl⟩, T⟩, fun i f e => ?_⟩
      match i, e with
      | 0, e => cases e; exact ⟨t, rfl⟩
      | i + 1, e => exact hf i f (by simpa using e)
section
variable {X : Cx}
/-- sorted(l): pairs, no two of whose first parts are alike -/
theorem call_sortedP : CallR X (.builtin "sorted") (fun us H Q => ∃ (l : Addr) (xs : List (Nat × Int)) (ps : List Addr), us = [.ref l] ∧ Pairs H l xs ps ∧ xs.length < 64 ∧ (xs.map Prod.fst).Nodup ∧
    ∀ r ys qs, H r = none → ys.Perm xs → ys.Pairwise (fun a b => a.1 < b.1) → Pairs (upd H r (.lst (qs.map V.ref))) r ys qs → Q (.ref r) (upd H r (.lst (qs.map V.ref)))) := by
  intro pins s σ H us vs Q I r h
  obtain ⟨l, xs, ps, rfl, ⟨hl, hlen, hat⟩, h64, hnd, q⟩ := h
  obtain ⟨u, rfl, rx⟩ := vals1 r
  cases rx
  obtain ⟨its, r', pl, hz⟩ := I.list (SqL.of hl)
  obtain rfl := refs_are r'
  obtain ⟨fs, T, hf⟩ := pairs_kt I hlen hat
  have hn : (ps.map Value.ref).length = xs.length := by rw [List.length_map]; exact hlen
  refine sorted_tups (ky := fun i => (((xs[i]?).getD (0, 0)).1 : Int)) pl.isList T hf (fun i j hi hj e => ?_) (by omega) fun out hO => ?_
  · rw [hn] at hi hj
    have e1 : xs[i]? = some xs[i] := List.getElem?_eq_getElem hi
    have e2 : xs[j]? = some xs[j] := List.getElem?_eq_getElem hj
    rw [e1, e2] at e
    have e : ((xs[i].1 : Nat) : Int) = ((xs[j].1 : Nat) : Int) := e
    have e3 : (xs.map Prod.fst)[i]'(by simpa using hi) = (xs.map Prod.fst)[j]'(by simpa using hj) := by
      rw [List.getElem_map, List.getElem_map]; omega
    exact (List.getElem_inj hnd).mp e3
  · obtain ⟨p, hp, hU, rfl⟩ := hO
    rw [hn] at hp hU
    have hpl : p.toList.length = xs.length := by rw [Array.length_toList, hp.size]
    have hb : ∀ i ∈ p.toList, i < xs.length := fun i hi => by
      have : p.toList.Perm (List.range xs.length) := by simpa using Array.perm_iff_toList_perm.mp hp.perm
      simpa using this.mem_iff.mp hi
    have ev : (p.toList.map fun i => (ps.map Value.ref).getD i Value.none) = (p.toList.map fun i => (ps[i]?).getD 0).map Value.ref := by
      rw [List.map_map]
      refine List.map_congr_left fun i hi => ?_
      have := hb i hi
      have e : ps[i]? = some (ps[i]'(by omega)) := List.getElem?_eq_getElem (by omega)
      rw [List.getD_eq_getElem?_getD, List.getElem?_map, e]
      show Value.ref _ = Value.ref ((ps[i]?).getD 0)
      rw [e]; rfl
    rw [ev]
    obtain ⟨e, he⟩ := sortedAll_at s.heap (ps.map Value.ref) ((p.toList.map fun i => (ps[i]?).getD 0).map Value.ref).toArray
    have hr0 : H (s.heap.objs.size + 1) = none := I.hok.fresh (Nat.le_succ _)
    have vr : ∀ qs : List Addr, Vals (qs.map V.ref) (qs.map Value.ref) := fun qs => by
      induction qs with
      | nil => exact .nil
      | cons a qs ih => exact .cons rfl ih
    refine ⟨.ref (s.heap.objs.size + 1), _, I.laid (t' := s.toks) (o := .lst ((p.toList.map fun i => (ps[i]?).getD 0).map V.ref)) (fun b o => sortedAll_old) (Nat.le_succ _) ?_, rfl, q _ (p.toList.map fun i => (xs[i]?).getD (0, 0)) _ hr0 ?_ ?_ ?_⟩
    · refine ⟨?_, _, e, vr _, he⟩
      rw [List.length_map, List.length_map, hpl, sizeLine_eq]; omega
    · have h1 : p.toList.Perm (List.range xs.length) := by simpa using Array.perm_iff_toList_perm.mp hp.perm
      have h2 := h1.map fun i => (xs[i]?).getD (0, 0)
      have h3 : ((List.range xs.length).map fun i => (xs[i]?).getD (0, 0)) = xs := by
        refine List.ext_getElem (by simp) fun i a b => ?_
        simp [b]
      rw [h3] at h2
      exact h2
    · rw [List.pairwise_iff_getElem]
      intro i j hi hj hij
      rw [List.length_map, hpl] at hi hj
      have := hU i j hij hj
      unfold kp at this
      have g : ∀ k (hk : k < xs.length), p.getD k 0 = p.toList[k]'(by omega) := fun k hk => by
        have : k < p.size := by rw [hp.size]; exact hk
        simp [Array.getD, this]
      rw [g i hi, g j hj] at this
      rw [List.getElem_map, List.getElem_map]
      dsimp only at this ⊢
      omega
    · refine ⟨upd_same, by rw [List.length_map, List.length_map], fun i b x a1 a2 => ?_⟩
      rw [List.getElem?_map] at a1 a2
      obtain ⟨k, hk, rfl⟩ := Option.map_eq_some_iff.mp a1
      rw [hk] at a2
      cases a2
      have hkb := hb k (List.mem_of_getElem? hk)
      have e1 : xs[k]? = some (xs[k]) := List.getElem?_eq_getElem hkb
      have e2 : ps[k]? = some (ps[k]'(by omega)) := List.getElem?_eq_getElem (by omega)
      have e3 := hat k _ _ e2 e1
      dsimp only
      rw [e1, e2]
      show upd H _ _ (ps[k]'(by omega)) = _
      rw [upd_ne (ne_of_none e3 hr0)]
      exact e3
end
end L2


set_option Elab.async false
set_option linter.all false
set_option maxRecDepth 100000
/-! one list, or one tuple, ahead of another -/
namespace GL
open PySem PySem.SeqAt PySem.AutoSeq1 PySem.MeetsSeq PySem.MeetsSeq2 PySem.MeetsSeq3 PySem.SeqRoads2
section
variable {A : Around} {s : Shared} {l b : Addr} {xs ys : Array Value} {e lt : Nat → Bool}
end
end GL


set_option Elab.async false
set_option linter.all false
set_option maxRecDepth 100000
/-! min(xs) of lists of pairs -/
namespace L2
open PySem PySem.Spec PyProof.Rows GL
section
variable {prog : Program} {w : World} {A : Around} {R : Result → Shared → Prop} {I : Addr} {fp wr : List Addr} {n : Nat} {P : Nat → Value → Prop} {St' : Nat → Heap → Prop} {kw : List (Str × Value)} {Gd : Heap → Prop}
end
/-! ### pairs, and lists of them -/
section
variable {A : Around} {s : Shared}
end
section
variable {X : Cx} {pins : List (Addr × Obj)} {σ : St} {H : Hp} {s : Shared}
end
end L2


set_option Elab.async false
set_option linter.all false
/-! the first of the best plans, by the least of their keys; what the others have without one -/
namespace GP
open L2
end GP


set_option Elab.async false
set_option linter.all false
set_option maxRecDepth 100000
/-! offers of a hall: a list of lists of pairs; == and != of two of the same content -/
namespace L2
open PySem PySem.Spec PyProof.Rows
/-- as: where each bidder's list lies -/
noncomputable def HallAt (H : Hp) (l : Addr) (os : List (List (Nat × Int))) (as : List Addr) : Prop := H l = some (.lst (as.map V.ref)) ∧ as.length = os.length ∧ ∀ (i : Nat) (a : Addr) (o : List (Nat × Int)), as[i]? = some a → os[i]? = some o → ∃ ps, Pairs H a o ps
theorem HallAt.same {H H' : Hp} {l : Addr} {os : List (List (Nat × Int))} {as : List Addr} (h : HallAt H l os as) (S : Same H H') : HallAt H' l os as :=
  ⟨S _ _ h.1, h.2.1, fun i a o e1 e2 => by obtain ⟨ps, hp⟩ := h.2.2 i a o e1 e2; exact ⟨ps, hp.same S⟩⟩
section
variable {X : Cx}
theorem halls_eq {A : Around} {pins : List (Addr × Obj)} {σ : St} {H : Hp} {s : Shared} {l m : Addr} {os : List (List (Nat × Int))} {as bs : List Addr} (I : Inv X pins σ H s) (P : HallAt H l os as) (R : HallAt H m os bs) (hu : A.units + 8 < cLine) :
    ∃ its its2 : List Value, s.heap.IsList l its.toArray ∧ s.heap.IsList m its2.toArray ∧ its.length = its2.length ∧ ∀ k (h1 : k < its.toArray.size) (h2 : k < its2.toArray.size), SeqAt.EqAt A s its.toArray[k] its2.toArray[k] true := by
  obtain ⟨its, r, p, _⟩ := I.list (SqL.of P.1)
  obtain ⟨its2, r2, p2, _⟩ := I.list (SqL.of R.1)
  obtain rfl := refs_are r
  obtain rfl := refs_are r2
  have l1 := P.2.1
  have l2 := R.2.1
  refine ⟨_, _, p.isList, p2.isList, by rw [List.length_map, List.length_map]; omega, fun k h1 h2 => ?_⟩
  have g1 : k < as.length := by simpa using h1
  have g2 : k < bs.length := by simpa using h2
  have e1 : (as.map Value.ref).toArray[k] = .ref as[k] := by simp
  have e2 : (bs.map Value.ref).toArray[k] = .ref bs[k] := by simp
  rw [e1, e2]
  by_cases e : as[k] = bs[k]
  · rw [e]; exact SeqAt.EqAt.same _
  · have ho : os[k]? = some (os[k]'(by omega)) := List.getElem?_eq_getElem (by omega)
    obtain ⟨ps, hp⟩ := P.2.2 k _ _ (List.getElem?_eq_getElem g1) ho
    obtain ⟨qs, hq⟩ := R.2.2 k _ _ (List.getElem?_eq_getElem g2) ho
    obtain ⟨j1, j2, q1, q2, hl, he⟩ := pairs_eq (A := A.in1) I hp hq (by show A.units + 1 < cLine; omega)
    have z := SeqAt.RcAt.lists (A := A) (e := fun _ => true) q1 q2 (by rw [List.size_toArray, List.size_toArray]; exact hl) (by omega) he
    have er : ((List.range j1.toArray.size).all fun _ => true) = true := by simp
    rw [er] at z
    exact SeqAt.EqAt.of_refs e z
theorem op_neHall (hu : X.A.units + 64 < cLine) : OpR X (compareOp .NotEq) (fun x y H Q => ∃ l m os as bs, x = .ref l ∧ y = .ref m ∧ HallAt H l os as ∧ HallAt H m os bs ∧ Q (.bl false) H) := by
  intro pins s σ H x y v u Q I rx ry h
  obtain ⟨l, m, os, as, bs, rfl, rfl, hP, hR, q⟩ := h
  cases rx; cases ry
  obtain ⟨its, its2, p1, p2, hl, he⟩ := halls_eq (A := X.A.in1) I hP hR (by show X.A.units + 1 + 8 < cLine; omega)
  refine SeqAt.RcNeAt.lists (e := fun _ => true) p1 p2 (by rw [List.size_toArray, List.size_toArray]; exact hl) (by omega) he _ _ _ _ ⟨.bl false, H, I, ?_, q⟩
  show Value.bool _ = Value.bool false
  congr 1
  simp
end
end L2


set_option Elab.async false
set_option linter.all false
set_option maxRecDepth 100000
/-! for x in reversed(xs); comprehensions of up to 1000 turns; halls, tables of the greatest worths -/
namespace L2
open PySem PySem.Spec PyProof.Rows PySem.W
namespace R
variable {X : Cx}
end R
/-! ### comprehensions with more turns -/
section
variable {K : PySem.W.Frag} {fr : List Nat} {tt : TT} {te : TE} {σ : St} {Q : VK} {H1 : Hp} {l : Addr}
end
end L2


set_option Elab.async false
set_option linter.all false
set_option maxRecDepth 100000
/-! tables of the greatest worths by what is free; the laws' own rows of ways -/
namespace GP
open L2 PySem
/-- the offers of one bidder -/
structure OffOk (n m : Nat) (o : Off) : Prop where
  few : o.length ≤ m
  part : ∀ c ∈ o, 0 < c.1 ∧ c.1 < 2 ^ n
  amt : ∀ c ∈ o, 0 < c.2
  rise : o.Pairwise (fun a b => a.1 < b.1)
theorem bits_pos : ∀ n < 7, ∀ b < 2 ^ n, 0 < b → 1 ≤ ((List.range n).map fun k => ((((b / 2 ^ k) &&& 1 : Nat)) : Int)).sum := by decide +kernel
/-! ### rows of ways -/
noncomputable abbrev Way := List (Nat × Int)
end GP
namespace L2
open PySem PySem.Spec PyProof.Rows PySem.W
theorem call_listK {X : Cx} (K : PySem.W.Frag) (h : X.K = K := by rfl) : CallR X (.type "list") (fun xs H Q => ∃ p ys, xs = [V.ref p] ∧ (SqL K H p ys ∨ SqT K H p ys) ∧ ∀ (l : Addr), H l = none → Q (V.ref l) (upd H l (HO.lst ys))) := by
  subst h; exact call_list_of
theorem fnilT {σ : St} {H : Hp} {A B : Hp → Prop} (h : A H) : fNil σ H (fun b H' => if b = true then A H' else B H') := by
  show if true = true then A H else B H
  rw [if_pos rfl]; exact h
/-! ### lists of pairs -/
theorem pairs_put {H : Hp} {l m : Addr} {xs : List (Nat × Int)} {ps : List Addr} {zs : List V} {o : HO} (P : Pairs H l xs ps) (h : H m = some (.lst zs)) (ne : l ≠ m) : Pairs (upd H m o) l xs ps := by
  refine ⟨by rw [upd_ne ne]; exact P.1, P.2.1, fun i p x a b => ?_⟩
  have q := P.2.2 i p x a b
  rw [upd_ne (fun z => by rw [z, h] at q; cases q)]; exact q
theorem pairs_snoc {H : Hp} {l t : Addr} {xs : List (Nat × Int)} {ps : List Addr} {x : Nat × Int} (P : Pairs H l xs ps) (ht : H t = some (.tup [.int x.1, .int x.2])) : Pairs (upd H l (.lst (ps.map V.ref ++ [V.ref t]))) l (xs ++ [x]) (ps ++ [t]) := by
  have ne : ∀ p y, H p = some (.tup y) → p ≠ l := fun p y e z => by rw [z, P.1] at e; cases e
  refine ⟨by rw [upd_same, List.map_append]; rfl, by rw [List.length_append, List.length_append, P.2.1]; rfl, fun i p y e1 e2 => ?_⟩
  by_cases hi : i < ps.length
  · rw [List.getElem?_append_left hi] at e1
    rw [List.getElem?_append_left (by rw [← P.2.1]; exact hi)] at e2
    have q := P.2.2 i p y e1 e2
    rw [upd_ne (ne p _ q)]; exact q
  · have hi' : i = ps.length := by
      have := (List.getElem?_eq_some_iff.mp e1).1
      rw [List.length_append, List.length_singleton] at this; omega
    subst hi'
    rw [List.getElem?_append_right (Nat.le_refl _), Nat.sub_self] at e1
    rw [P.2.1, List.getElem?_append_right (Nat.le_refl _), Nat.sub_self] at e2
    have e1' : t = p := Option.some.inj e1
    have e2' : x = y := Option.some.inj e2
    subst e1' e2'
    rw [upd_ne (ne t _ ht)]; exact ht
theorem pairs_nil {H : Hp} {l : Addr} (h : H l = some (.lst [])) : Pairs H l [] [] := ⟨h, rfl, fun i p x e => by simp at e⟩
/-- another list with the same tuples -/
theorem pairs_copy {H : Hp} {l r : Addr} {xs : List (Nat × Int)} {ps : List Addr} (P : Pairs H l xs ps) (hr : H r = none) : Pairs (upd H r (.lst (ps.map V.ref))) r xs ps :=
  ⟨upd_same, P.2.1, fun i p x a b => by
    have q := P.2.2 i p x a b
    rw [upd_ne (ne_of_none q hr)]; exact q⟩
noncomputable def pairV (z : Addr × (Nat × Int)) : V := .ref z.1
theorem pairs_zip {H : Hp} {l : Addr} {xs : List (Nat × Int)} {ps : List Addr} (P : Pairs H l xs ps) : H l = some (.lst ((ps.zip xs).map pairV)) ∧ (∀ z ∈ ps.zip xs, H z.1 = some (.tup [.int z.2.1, .int z.2.2])) ∧ (ps.zip xs).map Prod.snd = xs := by
  refine ⟨?_, fun z hz => ?_, List.map_snd_zip (by rw [P.2.1]; exact Nat.le_refl _)⟩
  · rw [P.1]
    congr 2
    have : (ps.zip xs).map pairV = ((ps.zip xs).map Prod.fst).map V.ref := by rw [List.map_map]; rfl
    rw [this, List.map_fst_zip (by rw [P.2.1]; exact Nat.le_refl _)]
  · obtain ⟨i, hi⟩ := List.mem_iff_getElem?.mp hz
    rw [List.getElem?_zip_eq_some] at hi
    exact P.2.2 i z.1 z.2 hi.1 hi.2
/-- a hall with one bidder more -/
theorem hall_snoc {H : Hp} {l r : Addr} {os : List (List (Nat × Int))} {as : List Addr} {o : List (Nat × Int)} {ps : List Addr} (h : HallAt H l os as) (ha : ∀ a ∈ as, a ≠ l) (hr : Pairs H r o ps) (ne : r ≠ l) :
    HallAt (upd H l (.lst (as.map V.ref ++ [V.ref r]))) l (os ++ [o]) (as ++ [r]) ∧ ∀ a ∈ as ++ [r], a ≠ l := by
  refine ⟨⟨by rw [upd_same, List.map_append]; rfl, by rw [List.length_append, List.length_append, h.2.1]; rfl, fun i a o' e1 e2 => ?_⟩, fun a hm => ?_⟩
  · by_cases hi : i < as.length
    · rw [List.getElem?_append_left hi] at e1
      rw [List.getElem?_append_left (by rw [← h.2.1]; exact hi)] at e2
      obtain ⟨qs, hq⟩ := h.2.2 i a o' e1 e2
      exact ⟨qs, pairs_put hq h.1 (ha a (List.mem_of_getElem? e1))⟩
    · have hi' : i = as.length := by
        have := (List.getElem?_eq_some_iff.mp e1).1
        rw [List.length_append, List.length_singleton] at this; omega
      subst hi'
      rw [List.getElem?_append_right (Nat.le_refl _), Nat.sub_self] at e1
      rw [h.2.1, List.getElem?_append_right (Nat.le_refl _), Nat.sub_self] at e2
      have e1' : r = a := Option.some.inj e1
      have e2' : o = o' := Option.some.inj e2
      subst e1' e2'
      exact ⟨ps, pairs_put hr h.1 ne⟩
  · rcases List.mem_append.mp hm with hm | hm
    · exact ha a hm
    · rw [List.mem_singleton.mp hm]; exact ne
theorem HallAt.lives {H : Hp} {l b : Addr} {os : List (List (Nat × Int))} {as : List Addr} (h : HallAt H l os as) (hb : b ∈ as) : ∃ zs, H b = some (.lst zs) := by
  obtain ⟨i, hi⟩ := List.mem_iff_getElem?.mp hb
  have hl := (List.getElem?_eq_some_iff.mp hi).1
  have ho : os[i]? = some (os[i]'(by rw [← h.2.1]; exact hl)) := List.getElem?_eq_getElem _
  obtain ⟨ps, hp⟩ := h.2.2 i b _ hi ho
  exact ⟨_, hp.1⟩
theorem nodup_snoc {α : Type} {xs : List α} {x : α} (h : xs.Nodup) (hx : x ∉ xs) : (xs ++ [x]).Nodup := by
  rw [List.nodup_append]
  refine ⟨h, by simp, fun u hu w hw => ?_⟩
  have : w = x := by simpa using hw
  subst this
  exact fun z => hx (z ▸ hu)
theorem hall_nil {H : Hp} {l : Addr} (h : H l = some (.lst [])) : HallAt H l [] [] := ⟨h, rfl, fun i a o e => by simp at e⟩
theorem HallAt.at {H : Hp} {l : Addr} {os : List (List (Nat × Int))} {as : List Addr} (h : HallAt H l os as) {i : Nat} {v : V} (hv : (as.map V.ref)[i]? = some v) : ∃ a o ps, v = .ref a ∧ as[i]? = some a ∧ os[i]? = some o ∧ Pairs H a o ps := by
  rw [List.getElem?_map] at hv
  obtain ⟨a, ha, rfl⟩ := Option.map_eq_some_iff.mp hv
  have hi : i < as.length := (List.getElem?_eq_some_iff.mp ha).1
  have ho : os[i]? = some (os[i]'(by rw [← h.2.1]; exact hi)) := List.getElem?_eq_getElem _
  obtain ⟨ps, hp⟩ := h.2.2 i a _ ha ho
  exact ⟨a, _, ps, rfl, ha, ho, hp⟩
end L2


set_option Elab.async false
set_option linter.all false
set_option maxRecDepth 100000
/-! max(xs) of tuples of whole numbers -/
namespace GL
open PySem PySem.SeqAt PySem.AutoSeq1 PySem.MeetsSeq PySem.MeetsSeq2 PySem.MeetsSeq3 PySem.SeqRoads2
section
variable {A : Around} {s : Shared} {l b : Addr} {xs ys : Array Value} {e lt : Nat → Bool}
end
end GL
namespace L2
open PySem PySem.Spec PyProof.Rows GL
section
variable {prog : Program} {w : World} {A : Around} {R : Result → Shared → Prop} {I : Addr} {fp wr : List Addr} {n : Nat} {P : Nat → Value → Prop} {St' : Nat → Heap → Prop} {kw : List (Str × Value)} {Gd : Heap → Prop}
end
section
variable {X : Cx} {pins : List (Addr × Obj)} {σ : St} {H : Hp} {s : Shared}
end
end L2


set_option Elab.async false
set_option linter.all false
set_option maxRecDepth 100000
/-! dict(xs) of a list of pairs -/
namespace L2
open PySem PySem.Spec PyProof.Rows PySem.W
theorem keys_miss : typeLookup (.type "list") "keys" = pure none := by rw [typeLookup_type, builtinLookup_eq_fast]; kernel_rfl
theorem list_ga_none : typeLookup (.type "list") "__getattr__" = pure none := by rw [typeLookup_type, builtinLookup_eq_fast]; kernel_rfl
section
variable {prog : Program} {w : World} {A : Around} {E : Value → Shared → Prop} {s : Shared} {a : Addr}
theorem meets_miss_list (its : Array Value) (n : Nat) (u : Tok) : Meets (Builtin.«object.__getattribute__» ⟨[.ref a, .str "keys" u], []⟩) (fun A R s => s.heap.get? a = some { cls := .type "list", data := .seq its n } ∧ raisesAttr (.ref a) "keys" A R s) :=
  Meets.of_wp fun prog w A R s hs => by
    obtain ⟨hp, g, d, tk, os⟩ := s
    obtain ⟨hx, hs⟩ := hs
    have hT : ∀ tk', (⟨hp, g, d, tk', os⟩ : Shared).TypeIs (.ref a) "list" := fun _ => ⟨_, hx, rfl⟩
    have f1 := keys_miss
    unfold Builtin.«object.__getattribute__»
    repeat (any_goals (first | assumption | wp_step))
    exact wpAny_raiseAttrError hs.1 hs.2 (attrMsg_fits (by decide +kernel) (by size_fits))
theorem keys_none {Q : Option Value → Shared → Prop} {its : Array Value} {n : Nat} (hx : s.heap.get? a = some { cls := .type "list", data := .seq its n }) (hA : A.handled = none) (h : ∀ h' tk, (∀ b o, s.heap.get? b = some o → h'.get? b = some o) → Q none { s with heap := h', toks := tk }) : wpAny (model prog w) A (getAttr? (.ref a) "keys") Q E s := by
  obtain ⟨hp, g, d, tk, os⟩ := s
  have hT : ∀ tk', (⟨hp, g, d, tk', os⟩ : Shared).TypeIs (.ref a) "list" := fun _ => ⟨_, hx, rfl⟩
  have f1 := sub_AttributeError
  have f3 := F.slot_list_getattribute.lookup
  have f4 := F.slot_list_getattribute.bind (.ref a)
  have f5 := list_ga_none
  unfold getAttr? getAttrBy? getAttrBy
  repeat (any_goals (first | assumption | ((with_reducible show wpAny _ _ (call (Value.builtin "list.__getattribute__") _ _) _ _ _); refine call_meets F.slot_list_getattribute (hT _) F.entry_list_ga (F.args_list_getattribute_2 _ _) (meets_miss_list its n _) ⟨hx, hA, fun h' tk' e hx => ?_⟩) | wp_step))
  obtain ⟨t', u', he⟩ := hx.there
  have hTe : ∀ tk', (⟨h', g, d, tk', os⟩ : Shared).TypeIs (.ref e) "AttributeError" := fun _ => ⟨_, he, rfl⟩
  show wpAny _ _ (getattributeRaised _ _ _ _ _ _ _) _ _ _
  unfold getattributeRaised
  repeat (any_goals (first | assumption | wp_step))
  exact h _ _ hx.keeps
end
theorem entry_upd_loop : entryFor table "dict.update.loop" = some Builtin.«dict.update.loop» := entryFor_of_tree (by kernel_rfl)
theorem plain_upd_loop : plainId "dict.update.loop" = true := by decide +kernel
section
variable {prog : Program} {w : World} {A : Around} {R : Result → Shared → Prop} {I : Addr} {fp wr : List Addr} {n : Nat} {P : Nat → Value → Prop} {St' : Nat → Heap → Prop} {K : Type} [DecidableEq K] {knd : KeyKind prog w K}
theorem stored_new {kvs : List (K × Value)} {k : K} {v : Value} (h : k ∉ kvs.map (·.1)) : stored kvs k v = kvs ++ [(k, v)] := by
  unfold stored
  rw [if_neg]
  intro z
  obtain ⟨x, hx, e⟩ := List.any_eq_true.mp z
  exact h (List.mem_map.mpr ⟨x, hx, of_decide_eq_true e⟩)
theorem upd_loop (W : Walks prog w A.in1 I fp wr n P St') {S : Addr} (nf : S ∉ fp) {Gd : Heap → Prop} (gd : ∀ h h', Gd h → (∀ b o, b ∉ wr → b ≠ S → h.get? b = some o → h'.get? b = some o) → Gd h') (kv : List (K × Value)) (hn : kv.length = n) (nd : (kv.map (·.1)).Nodup)
    (val : ∀ i v h, Gd h → P i v → ∃ T key x k, v = .ref T ∧ h.IsTuple T #[key, x] ∧ kv[i]? = some (k, x) ∧ knd.is k key = true) (hsz : n ≤ sizeLine) :
    ∀ (k i : Nat) (s : Shared), i + k = n → St' i s.heap → Gd s.heap → s.heap.DictOf knd S (kv.take i) →
      (∀ h' tk, h'.DictOf knd S kv → (∀ b o, b ∉ wr → b ≠ S → s.heap.get? b = some o → h'.get? b = some o) → R (.ok (.ret .none)) { s with heap := h', toks := tk }) →
      codeAny (model prog w) A (.builtin "dict.update.loop" ⟨[.ref S, .ref I, rawInt i, .none], []⟩) R s := by
  have nw : S ∉ wr := fun z => nf (W.sub _ z)
  intro k
  induction k with
  | zero =>
    intro i s e0 st g0 hd hR
    have e1 : i = n := by omega
    subst e1
    refine codeAny_builtin entry_upd_loop ?_
    rw [Around.under_plainId plain_upd_loop _]
    show wpAny _ A.in1 (pyNext (.ref I) >>= _) _ _ s
    refine wpAny_bind (W.done s _ _ st fun g tk keep => ?_)
    show wpAny _ A.in1 (Builtin.Dict.addKeywords S [] >>= fun _ => ret Value.none) _ _ _
    refine wpAny_bind (wpAny_of_eq (show Builtin.Dict.addKeywords S [] = pure () from rfl) ?_)
    refine wpAny_pure (hR g tk ?_ fun b o q1 q2 e => keep b o q1 e)
    rw [← hn, List.take_length] at hd
    obtain ⟨o, es, ep, ho, r⟩ := hd
    exact ⟨o, es, ep, keep S o nw ho, r⟩
  | succ k ih =>
    intro i s e0 st g0 hd hR
    refine codeAny_builtin entry_upd_loop ?_
    rw [Around.under_plainId plain_upd_loop _]
    show wpAny _ A.in1 (pyNext (.ref I) >>= _) _ _ s
    refine wpAny_bind (W.item i s _ _ (by omega) st fun v g tk pv st2 keep => ?_)
    have g1 : Gd g := gd _ _ g0 fun b o q1 _ e => keep b o q1 e
    obtain ⟨T, key, x, kk, rfl, ⟨o, ho, hc, m, hdt⟩, hkv, hkey⟩ := val i v g g1 pv
    have hd1 : g.DictOf knd S (kv.take i) := by
      obtain ⟨o, es, ep, ho, r⟩ := hd
      exact ⟨o, es, ep, keep S o nw ho, r⟩
    have hi : i < kv.length := (List.getElem?_eq_some_iff.mp hkv).1
    have hnew : kk ∉ (kv.take i).map (·.1) := by
      intro hm
      obtain ⟨y, hy, ey⟩ := List.mem_map.mp hm
      obtain ⟨j, hj, e⟩ := List.mem_iff_getElem.mp hy
      rw [List.length_take] at hj
      rw [List.getElem_take] at e
      have e2 : (kv.map (·.1))[j]? = some kk := by rw [List.getElem?_map, List.getElem?_eq_getElem (by omega), e]; exact congrArg some ey
      have e3 : (kv.map (·.1))[i]? = some kk := by rw [List.getElem?_map, hkv]; rfl
      have := (List.getElem?_inj (i := j) (j := i) (by rw [List.length_map]; omega) nd).mp (by rw [e2, e3])
      omega
    have hT : ∀ tk', (⟨g, s.gens, s.drawn, tk', s.os⟩ : Shared).TypeIs (.ref T) "tuple" := fun _ => ⟨_, ho, hc⟩
    show wpAny _ A.in1 (holding [Value.ref T] _ >>= _) _ _ _
    refine wpAny_bind (wpAny_holding ?_)
    refine wpAny_bind (wpAny_tryCatch ?_)
    unfold Builtin.Dict.pairItems
    refine wpAny_bind (wpAny_typeOf (hT _) ?_)
    rw [if_pos (by decide)]
    refine wpAny_bind (wpAny_seqItems (s := { s with heap := g, toks := tk }) ho hdt (wpAny_pure ?_))
    show wpAny _ A.in1 (holding [key, x] (dictSet S key x)) _ _ _
    refine wpAny_holding (wpAny_dictSet_pairs (knd := knd) hkey hd1 (fun h' hd' hs => ?_) (by rw [List.length_take]; omega))
    rw [stored_new hnew] at hd'
    have et : kv.take i ++ [(kk, x)] = kv.take (i + 1) := by rw [List.take_add_one, hkv]; rfl
    rw [et] at hd'
    have hk2 : ∀ b o, b ≠ S → g.get? b = some o → h'.get? b = some o := fun b o hb e => (hs.2 b hb).trans e
    refine wpAny_pure ⟨plainId_quiet plain_upd_loop _, ?_⟩
    have ei : rawInt ((i : Int) + 1) = rawInt ((i + 1 : Nat) : Int) := by push_cast; rfl
    rw [ei]
    refine ih (i + 1) _ (by omega) (W.frame _ _ _ st2 fun b q o e => hk2 b o (fun z => nf (z ▸ q)) e) (gd _ _ g1 fun b o _ q2 e => hk2 b o q2 e) hd' fun h'' tk'' hd'' keep'' => ?_
    exact hR h'' tk'' hd'' fun b o q1 q2 e => keep'' b o q1 q2 (hk2 b o q2 (keep b o q1 e))
end
section
variable {prog : Program} {w : World} {K : Type} [DecidableEq K] {knd : KeyKind prog w K} {A : Around} {E : Value → Shared → Prop} {s : Shared}
theorem call_dict_pairs {a : Addr} {its : Array Value} {c : Nat} {kv : List (K × Value)} {Q : Value → Shared → Prop} (hx : s.heap.get? a = some { cls := .type "list", data := .seq its c }) (hA : A.handled = none)
    (hn : kv.length = its.size) (nd : (kv.map (·.1)).Nodup) (val : ∀ (i : Nat) (v : Value), its[i]? = some v → ∃ (T : Addr) (key x : Value) (k : K), v = .ref T ∧ s.heap.IsTuple T #[key, x] ∧ kv[i]? = some (k, x) ∧ knd.is k key = true) (hsz : kv.length ≤ sizeLine)
    (h : ∀ h' tk, h'.DictOf knd s.heap.objs.size kv → (∀ b o, s.heap.get? b = some o → h'.get? b = some o) → Q (.ref s.heap.objs.size) { s with heap := h', toks := tk }) :
    wpAny (model prog w) A (call (.type "dict") [.ref a]) Q E s := by
  refine callType_codes (Q₁ := fun obj s₁ => obj = .ref s.heap.objs.size ∧ s₁ = { s with heap := s.heap.push { cls := .type "dict", data := .dict #[] } }) F.kt_called_dict (F.kt_typeCall_dict_1 _) F.entry_dict_init (kt_code_dict_new _ ⟨rfl, rfl⟩) ?_
  rintro obj s₁ ⟨rfl, rfl⟩
  have hnew : (s.heap.push { cls := .type "dict", data := .dict #[] }).DictOf knd s.heap.objs.size [] := Heap.DictOf.new s.heap
  have hx1 : (s.heap.push { cls := .type "dict", data := .dict #[] }).get? a = some { cls := .type "list", data := .seq its c } := Heap.get?_push_of_some _ hx
  have alt : a < s.heap.objs.size := Heap.lt_size hx
  have hsz' : its.size ≤ sizeLine := by rw [← hn]; exact hsz
  refine ⟨hnew.typeIs, F.args_dict_init_2 _ _, ?_⟩
  unfold Builtin.«dict.__init__»
  refine wpAny_bind ?_
  unfold Builtin.Dict.selfAndRest
  refine wpAny_bind (wpAny_notOrdered_dict hnew.typeIs ?_)
  show wpAny _ _ (pure (s.heap.objs.size, [Value.ref a])) _ _ _
  refine wpAny_pure ?_
  show wpAny _ _ (Builtin.Dict.updateFrom "dict.__init__" s.heap.objs.size (.ref a) [] .none) _ _ _
  unfold Builtin.Dict.updateFrom
  refine wpAny_bind (wpAny_typeOf (T := "list") ⟨_, hx1, rfl⟩ ?_)
  rw [if_pos (by decide)]
  refine wpAny_bind (keys_none hx1 hA fun h1 tk1 k1 => ?_)
  rw [if_pos (by decide)]
  have hS1 : h1.get? s.heap.objs.size = some { cls := .type "dict", data := .dict #[] } := k1 _ _ (Heap.get?_push_size _ rfl)
  have hd1 : h1.DictOf knd s.heap.objs.size [] := by
    obtain ⟨o, es, ep, ho, r⟩ := hnew
    exact ⟨o, es, ep, k1 _ _ ho, r⟩
  have hx2 := k1 _ _ hx1
  have hL : h1.IsList a its := ⟨_, hx2, rfl, c, rfl⟩
  have slt : s.heap.objs.size < h1.objs.size := Heap.lt_size hS1
  have old : ∀ b o, s.heap.get? b = some o → h1.get? b = some o := fun b o e => k1 b o (Heap.get?_push_of_some _ e)
  refine wpAny_bind (wpAny_rule ?_)
  refine wpAny_bind (wpAny_pyIter_list hL ?_)
  refine wpAny_pure ⟨plainId_quiet plain_upd_loop _, upd_loop (A := A.in1) (knd := knd) (Gd := fun h => ∀ b o, s.heap.get? b = some o → h.get? b = some o) (Walks.list (A := A.in1.in1) hA h1.objs.size a (Nat.ne_of_lt (Nat.lt_trans alt slt)) its) (S := s.heap.objs.size) ?nf ?gd kv hn nd ?val hsz' kv.length 0 _ (by omega) ?st ?g0 ?d0 ?fin⟩
  case nf =>
    intro z
    rcases List.mem_cons.mp z with z | z
    · exact absurd z (Nat.ne_of_lt slt)
    · exact absurd (List.mem_singleton.mp z).symm (Nat.ne_of_lt alt)
  case gd =>
    intro h h' g k b o e
    have hb := Heap.lt_size e
    refine k b o (fun z => ?_) (fun z => ?_) (g b o e)
    · rw [List.mem_singleton.mp z] at hb; exact absurd (Nat.lt_trans hb slt) (Nat.lt_irrefl _)
    · rw [z] at hb; exact absurd hb (Nat.lt_irrefl _)
  case val =>
    intro i v h g hv
    obtain ⟨T, key, x, k, rfl, ⟨o, ho, r⟩, e1, e2⟩ := val i v hv
    exact ⟨T, key, x, k, rfl, ⟨o, g _ _ ho, r⟩, e1, e2⟩
  case st => exact ⟨⟨_, Heap.get?_push_size _ rfl, rfl, rfl⟩, hL.push _⟩
  case g0 => exact fun b o e => Heap.get?_push_of_some _ (old b o e)
  case d0 =>
    obtain ⟨o, es, ep, ho, r⟩ := hd1
    exact ⟨o, es, ep, Heap.get?_push_of_some _ ho, r⟩
  case fin =>
    intro h' tk hd keep
    refine ⟨rfl, h h' tk hd fun b o e => ?_⟩
    have hb := Heap.lt_size e
    refine keep b o (fun z => ?_) (fun z => ?_) (Heap.get?_push_of_some _ (old b o e))
    · rw [List.mem_singleton.mp z] at hb; exact absurd (Nat.lt_trans hb slt) (Nat.lt_irrefl _)
    · rw [z] at hb; exact absurd hb (Nat.lt_irrefl _)
end
section
variable {X : Cx} {pins : List (Addr × Obj)} {σ : St} {H : Hp} {s : Shared}
theorem kv_ints : ∀ {xs : List (Nat × Int)} {vs : List (Key × Value)}, vs.length = xs.length → (∀ (i : Nat) (x : Nat × Int) (p : Key × Value), xs[i]? = some x → vs[i]? = some p → p.1 = Sum.inl (x.1 : Int) ∧ ∃ t, p.2 = .int x.2 t) → KV (xs.map fun x => ((Sum.inl (x.1 : Int) : Key), V.int x.2)) vs
  | [], [], _, _ => .nil
  | x :: xs, p :: vs, hl, h => by
    obtain ⟨e1, t, e2⟩ := h 0 x p rfl rfl
    exact .cons ⟨e1.symm, t, e2⟩ (kv_ints (by simpa using hl) fun i y q a b => h (i + 1) y q a b)
  | [], _ :: _, hl, _ => by simp at hl
  | _ :: _, [], hl, _ => by simp at hl
/-- dict(xs): of a list of tuples with unlike first parts -/
theorem call_dictP (hc : X.calm = true) : CallR X (.type "dict") (fun us H Q => ∃ (l : Addr) (xs : List (Nat × Int)) (ps : List Addr), us = [.ref l] ∧ Pairs H l xs ps ∧ (xs.map Prod.fst).Nodup ∧ xs.length ≤ 1000 ∧
    ∀ p, H p = none → Q (.ref p) (upd H p (.dK (xs.map fun x => ((Sum.inl (x.1 : Int) : Key), V.int x.2))))) := by
  intro pins s σ H vs us Q I r h
  obtain ⟨l, xs, ps, rfl, hP, nd, hz, q⟩ := h
  obtain ⟨u, rfl, rx⟩ := vals1 r
  cases rx
  obtain ⟨z, its, c, rv, hl, e⟩ := I.lstM hP.1
  obtain rfl := refs_are rv
  have hpl := hP.2.1
  have tup : ∀ i (hi : i < xs.length), ∃ t t', s.heap.IsTuple (ps[i]'(by omega)) #[.int (xs[i]'hi).1 t, .int (xs[i]'hi).2 t'] := fun i hi =>
    tup_items I (hP.2.2 i _ _ (List.getElem?_eq_getElem (by omega)) (List.getElem?_eq_getElem hi))
  obtain ⟨kv, kvl, kvi⟩ : ∃ kv : List (Key × Value), kv.length = xs.length ∧ ∀ i (hi : i < xs.length), kv[i]? = some (Sum.inl (((xs[i]'hi).1 : Nat) : Int), Value.int (xs[i]'hi).2 (tup i hi).choose_spec.choose) := by
    refine ⟨List.ofFn fun i : Fin xs.length => (Sum.inl (((xs[i.1]'i.2).1 : Nat) : Int), Value.int (xs[i.1]'i.2).2 (tup i.1 i.2).choose_spec.choose), List.length_ofFn, fun i hi => ?_⟩
    rw [List.getElem?_ofFn, dif_pos hi]
  have kvn : (kv.map (·.1)).Nodup := by
    have ek : kv.map (·.1) = (xs.map Prod.fst).map fun b : Nat => (Sum.inl ((b : Nat) : Int) : Key) := by
      refine List.ext_getElem? fun i => ?_
      rw [List.getElem?_map, List.getElem?_map, List.getElem?_map]
      by_cases hi : i < xs.length
      · rw [kvi i hi, List.getElem?_eq_getElem hi]; rfl
      · rw [List.getElem?_eq_none (l := kv) (by omega), List.getElem?_eq_none (l := xs) (by omega)]; rfl
    rw [ek, List.nodup_iff_pairwise_ne, List.pairwise_map]
    rw [List.nodup_iff_pairwise_ne] at nd
    exact nd.imp fun hne y => hne (by have := Sum.inl.inj y; omega)
  refine call_dict_pairs (knd := mixKind X.prog X.w) (kv := kv) e (I.ok.hd hc) (by rw [kvl, List.size_toArray, List.length_map, hpl]) kvn (fun i v hv => ?_) (by rw [kvl]; exact Nat.le_of_lt (small1000 hz)) fun h' tk' hd keep => ?_
  · rw [List.getElem?_toArray, List.getElem?_map] at hv
    obtain ⟨p, hp, rfl⟩ := Option.map_eq_some_iff.mp hv
    have hi : i < xs.length := by have := (List.getElem?_eq_some_iff.mp hp).1; omega
    have ep : ps[i]'(by omega) = p := (List.getElem?_eq_some_iff.mp hp).2
    subst ep
    exact ⟨_, _, _, _, rfl, (tup i hi).choose_spec.choose_spec, kvi i hi, mixKind_int X.prog X.w _ _⟩
  · refine ⟨.ref s.heap.objs.size, _, I.laid (a := s.heap.objs.size) (o := .dK (xs.map fun x => ((Sum.inl (x.1 : Int) : Key), V.int x.2))) keep (Nat.le_refl _) (dk_new ?_ (beq_eq_false_iff_ne.mpr (Ne.symm (Nat.ne_of_lt I.big))) ?_ hd), rfl, q _ (I.hok.fresh (Nat.le_refl _))⟩
    · rw [List.length_map]; exact Nat.le_of_lt (small1000 hz)
    · refine kv_ints kvl fun i x p e1 e2 => ?_
      have hi : i < xs.length := (List.getElem?_eq_some_iff.mp e1).1
      have ex : xs[i]'hi = x := (List.getElem?_eq_some_iff.mp e1).2
      rw [kvi i hi] at e2
      cases e2
      subst ex
      exact ⟨rfl, _, rfl⟩
end
end L2


set_option Elab.async false
set_option linter.all false
set_option maxRecDepth 100000
/-! winners and pays: amounts, ranks, the first choice; lists of halls turned, one taken out; tuples of whole numbers -/
namespace GP
open L2
noncomputable def amtOf (o : Off) (b : Nat) : Int := ((o.find? fun c => decide (c.1 = b)).map Prod.snd).getD 0
/-- offers of unlike bundles, none of them of nothing -/
noncomputable def GoodO (o : Off) : Prop := (o.map Prod.fst).Nodup ∧ ∀ c ∈ o, 0 < c.1
theorem amt_zero {o : Off} (h : GoodO o) : amtOf o 0 = 0 := by
  unfold amtOf
  rw [List.find?_eq_none.mpr fun c hc => by
    have := h.2 c hc
    simp only [decide_eq_true_eq]; omega]
  rfl
theorem amt_mem {o : Off} {c : Nat × Int} (h : GoodO o) (hc : c ∈ o) : amtOf o c.1 = c.2 := by
  have key : ∀ o : Off, (o.map Prod.fst).Nodup → c ∈ o → (o.find? fun d => decide (d.1 = c.1)) = some c := by
    intro o
    induction o with
    | nil => intro _ hc; cases hc
    | cons d o ih =>
      intro nd hc
      rw [List.map_cons, List.nodup_cons] at nd
      by_cases e : d.1 = c.1
      · rw [List.find?_cons_of_pos (by simp [e])]
        rcases List.mem_cons.mp hc with rfl | hc
        · rfl
        · exact absurd (List.mem_map.mpr ⟨c, hc, e.symm⟩) nd.1
      · rw [List.find?_cons_of_neg (by simp [e])]
        rcases List.mem_cons.mp hc with rfl | hc
        · exact absurd rfl e
        · exact ih nd.2 hc
  unfold amtOf
  rw [key o h.1 hc]; rfl
theorem way_opt_from : ∀ {tk : Nat} {os : List Off} {w : List (Nat × Int)}, IsWay tk os w → ∀ {i : Nat} {o : Off} {c : Nat × Int}, os[i]? = some o → w[i]? = some c → Opt (tk ||| taken (w.take i)) o c
  | tk, o :: os, c :: cs, h, 0, o', c', ho, hc => by
    have e1 : o = o' := Option.some.inj ho
    have e2 : c = c' := Option.some.inj hc
    subst e1 e2
    show Opt (tk ||| 0) o c
    rw [Nat.or_zero]; exact h.1
  | tk, o :: os, c :: cs, h, i + 1, o', c', ho, hc => by
    have z := way_opt_from h.2 (i := i) (o := o') (c := c') ho hc
    rw [List.take_succ_cons, taken_cons, ← Nat.or_assoc]; exact z
  | _, [], _, _, _, _, _, ho, _ => by simp at ho
  | _, _ :: _, [], h, _, _, _, _, _ => h.elim
theorem way_opt {os : List Off} {w : List (Nat × Int)} (h : IsWay 0 os w) {i : Nat} {o : Off} {c : Nat × Int} (ho : os[i]? = some o) (hc : w[i]? = some c) : Opt (taken (w.take i)) o c := by
  have z := way_opt_from h ho hc
  rwa [Nat.zero_or] at z
theorem OffOk.good {n m : Nat} {o : Off} (h : OffOk n m o) : GoodO o := by
  refine ⟨?_, fun c hc => (h.part c hc).1⟩
  have hr := h.rise
  rw [List.nodup_iff_pairwise_ne, List.pairwise_map]
  exact hr.imp fun z => Nat.ne_of_lt z
end GP
namespace L2
open PySem PySem.Spec PyProof.Rows
theorem isD_dK {H : Hp} {a : Addr} {kvs : List (Key × V)} (e : H a = some (.dK kvs)) : IsD H a := .inl ⟨_, .inl e⟩
theorem valV_amt {b : Nat} : ∀ {o : List (Nat × Int)}, (valV (o.map fun x => ((Sum.inl (x.1 : Int) : Key), V.int x.2)) (Sum.inl (b : Int))).getD (V.int 0) = V.int (GP.amtOf o b)
  | [] => rfl
  | x :: o => by
    unfold valV GP.amtOf
    rw [List.map_cons]
    by_cases e : x.1 = b
    · rw [List.find?_cons_of_pos (by simp [e]), List.find?_cons_of_pos (by simp [e])]; rfl
    · rw [List.find?_cons_of_neg (by simp; omega), List.find?_cons_of_neg (by simp [e])]
      exact valV_amt (o := o)
section
variable {X : Cx}
end
namespace R
section
variable {X : Cx} {e : Expr} {te : TE}
end
end R
end L2


set_option Elab.async false
set_option linter.all false
set_option maxRecDepth 100000
/-! repr of a thing: its text hangs on what it holds alone -/
namespace L2
open PySem PySem.Spec PyProof.Rows
/-- plain things, and what a reader has of them -/
inductive Sh0 : V → PyData → Prop
  | int {i : Int} (h : i.natAbs < 10 ^ 9) : Sh0 (.int i) (.int i)
  | bl (b : Bool) : Sh0 (.bl b) (.bool b)
  | non : Sh0 .non .none
  | str {x : Str} (h : (reprText x).length ≤ 50) : Sh0 (.str x) (.str x)
inductive Al (R : V → PyData → Prop) : List V → List PyData → Prop
  | nil : Al R [] []
  | cons {x : V} {d : PyData} {xs : List V} {ds : List PyData} : R x d → Al R xs ds → Al R (x :: xs) (d :: ds)
theorem Al.length {R : V → PyData → Prop} {xs : List V} {ds : List PyData} (h : Al R xs ds) : ds.length = xs.length := by
  induction h with
  | nil => rfl
  | cons _ _ ih => rw [List.length_cons, List.length_cons, ih]
theorem Al.mono {R S : V → PyData → Prop} (hRS : ∀ x d, R x d → S x d) {xs : List V} {ds : List PyData} (h : Al R xs ds) : Al S xs ds := by
  induction h with
  | nil => exact .nil
  | cons a _ ih => exact .cons (hRS _ _ a) ih
/-- each thing of a list has its reader -/
theorem Al.of {R : V → PyData → Prop} : ∀ (xs : List V), (∀ x ∈ xs, ∃ d, R x d) → ∃ ds, Al R xs ds
  | [], _ => ⟨[], .nil⟩
  | x :: xs, h => by
    obtain ⟨d, hd⟩ := h x (by simp)
    obtain ⟨ds, hs⟩ := Al.of xs fun y hy => h y (by simp [hy])
    exact ⟨d :: ds, .cons hd hs⟩
/-- these, and lists and tuples of them -/
inductive Sh1 (H : Hp) : V → PyData → Prop
  | p {v : V} {d : PyData} : Sh0 v d → Sh1 H v d
  | lst {a : Addr} {xs : List V} {ds : List PyData} : H a = some (.lst xs) → xs.length ≤ 20 → Al Sh0 xs ds → Sh1 H (.ref a) (.list ds)
  | tup {a : Addr} {xs : List V} {ds : List PyData} : H a = some (.tup xs) → xs.length ≤ 20 → Al Sh0 xs ds → Sh1 H (.ref a) (.tuple ds)
inductive Sh2 (H : Hp) : V → PyData → Prop
  | p {v : V} {d : PyData} : Sh1 H v d → Sh2 H v d
  | lst {a : Addr} {xs : List V} {ds : List PyData} : H a = some (.lst xs) → xs.length ≤ 20 → Al (Sh1 H) xs ds → Sh2 H (.ref a) (.list ds)
  | dct {a : Addr} : H a = some (.dK []) → Sh2 H (.ref a) (.dict [])
theorem Sh1.same {H H' : Hp} {v : V} {d : PyData} (h : Sh1 H v d) (S : Same H H') : Sh1 H' v d := by
  cases h with
  | p h => exact .p h
  | lst a b c => exact .lst (S _ _ a) b c
  | tup a b c => exact .tup (S _ _ a) b c
theorem Sh2.same {H H' : Hp} {v : V} {d : PyData} (h : Sh2 H v d) (S : Same H H') : Sh2 H' v d := by
  cases h with
  | p h => exact .p (h.same S)
  | lst a b c => exact .lst (S _ _ a) b (c.mono fun _ _ z => z.same S)
  | dct a => exact .dct (S _ _ a)
/-- how long its text is, how deep it goes -/
structure Fit (B D : Nat) (d : PyData) : Prop where
  sh : d.showable = true
  nd : d.hasDict = false
  dp : d.depth ≤ D
  ln : d.shown.length ≤ B
theorem text_ub {B : Nat} : ∀ (ts : List Str) (k : Nat) (acc : Str), (∀ t ∈ ts, t.length ≤ B) → (textFrom k acc ts).length ≤ acc.length + ts.length * (B + 2)
  | [], k, acc, _ => by show acc.length ≤ _; omega
  | t :: r, k, acc, h => by
    have ih := text_ub r (k + 1) (acc ++ (if k > 0 then ", " else "" : String) ++ t) fun u hu => h u (by simp [hu])
    have ht := h t (by simp)
    have e : (acc ++ (if k > 0 then ", " else "" : String) ++ t).length ≤ acc.length + 2 + t.length := by
      rw [strLen_append, strLen_append]
      have : (Str.ofString (if k > 0 then ", " else "" : String)).length ≤ 2 := by split <;> decide
      omega
    show (textFrom (k + 1) _ r).length ≤ _
    rw [List.length_cons, Nat.succ_mul]
    omega
theorem join_ub {B : Nat} : ∀ (ts : List Str), (∀ t ∈ ts, t.length ≤ B) → (Str.join ", " ts).length ≤ ts.length * (B + 2)
  | [], _ => by show (Str.join ", " ([] : List Str)).length ≤ 0 * (B + 2); rw [Nat.zero_mul]; exact Nat.le_of_eq (by rfl)
  | t :: r, h => by
    have e := join_length_add (t :: r) (by simp)
    have hp : ∀ ts : List Str, (∀ t ∈ ts, t.length ≤ B) → piled ts ≤ ts.length * (B + 2) := by
      intro ts
      induction ts with
      | nil => intro _; simp [piled]
      | cons x xs ih =>
        intro h
        have h1 := ih fun u hu => h u (by simp [hu])
        have h2 := h x (by simp)
        have : piled (x :: xs) = x.length + 2 + piled xs := by unfold piled; rw [List.map_cons, List.sum_cons]
        rw [this, List.length_cons, Nat.succ_mul]
        omega
    have := hp (t :: r) h
    omega
theorem shownAll_mem : ∀ {ds : List PyData} {t : Str}, t ∈ PyData.shownAll ds → ∃ d ∈ ds, t = d.shown
  | [], t, h => by simp [PyData.shownAll] at h
  | d :: ds, t, h => by
    rw [PyData.shownAll] at h
    rcases List.mem_cons.mp h with rfl | h
    · exact ⟨d, by simp, rfl⟩
    · obtain ⟨e, he, rfl⟩ := shownAll_mem h
      exact ⟨e, by simp [he], rfl⟩
theorem shownAll_len : ∀ (ds : List PyData), (PyData.shownAll ds).length = ds.length
  | [] => by simp [PyData.shownAll]
  | d :: ds => by rw [PyData.shownAll, List.length_cons, List.length_cons, shownAll_len]
theorem fit_all {B D : Nat} : ∀ {ds : List PyData}, (∀ d ∈ ds, Fit B D d) → PyData.showableAll ds = true ∧ PyData.hasDictAll ds = false ∧ PyData.depthAll ds ≤ D
  | [], _ => ⟨by simp [PyData.showableAll], by simp [PyData.hasDictAll], by simp [PyData.depthAll]⟩
  | d :: ds, h => by
    obtain ⟨h1, h2, h3⟩ := fit_all fun e he => h e (List.mem_cons_of_mem _ he)
    have hd := h d (by simp)
    refine ⟨by rw [PyData.showableAll, hd.sh, h1]; rfl, by rw [PyData.hasDictAll, hd.nd, h2]; rfl, ?_⟩
    rw [PyData.depthAll]
    exact Nat.max_le.mpr ⟨hd.dp, h3⟩
theorem fit_list {B D : Nat} {ds : List PyData} (h : ∀ d ∈ ds, Fit B D d) (hl : ds.length ≤ 20) : Fit (20 * (B + 2) + 4) (D + 1) (.list ds) := by
  obtain ⟨h1, h2, h3⟩ := fit_all h
  refine ⟨by rw [PyData.showable]; exact h1, by rw [PyData.hasDict]; exact h2, by rw [PyData.depth]; omega, ?_⟩
  rw [PyData.shown]
  show (textFrom 0 "[" (PyData.shownAll ds) ++ ("]" : Str)).length ≤ _
  have e := text_ub (B := B) (PyData.shownAll ds) 0 "[" fun t ht => by
    obtain ⟨d, hd, rfl⟩ := shownAll_mem ht
    exact (h d hd).ln
  rw [shownAll_len] at e
  rw [strLen_append]
  have e1 : (("[" : String) : Str).length = 1 := rfl
  have e2 : (("]" : String) : Str).length = 1 := rfl
  have e3 : ds.length * (B + 2) ≤ 20 * (B + 2) := Nat.mul_le_mul_right _ hl
  omega
theorem fit_tup {B D : Nat} {ds : List PyData} (h : ∀ d ∈ ds, Fit B D d) (hl : ds.length ≤ 20) : Fit (20 * (B + 2) + 4) (D + 1) (.tuple ds) := by
  obtain ⟨h1, h2, h3⟩ := fit_all h
  refine ⟨by rw [PyData.showable]; exact h1, by rw [PyData.hasDict]; exact h2, by rw [PyData.depth]; omega, ?_⟩
  rw [PyData.shown]
  show (("(" : Str) ++ Str.join ", " (PyData.shownAll ds) ++ (if (PyData.shownAll ds).length == 1 then ",)" else ")" : String)).length ≤ _
  have e := join_ub (B := B) (PyData.shownAll ds) fun t ht => by
    obtain ⟨d, hd, rfl⟩ := shownAll_mem ht
    exact (h d hd).ln
  rw [shownAll_len] at e
  rw [strLen_append, strLen_append]
  have e1 : (("(" : String) : Str).length = 1 := rfl
  have e2 : (Str.ofString (if (PyData.shownAll ds).length == 1 then ",)" else ")" : String)).length ≤ 2 := by split <;> decide
  have e3 : ds.length * (B + 2) ≤ 20 * (B + 2) := Nat.mul_le_mul_right _ hl
  omega
theorem Sh0.fit {v : V} {d : PyData} (h : Sh0 v d) : Fit 50 0 d := by
  cases h with
  | int h =>
    rename_i i
    have h2 : i.natAbs.log2 < 1920 := by
      have : i.natAbs < 2 ^ 1920 := Nat.lt_of_lt_of_le h (by decide +kernel)
      by_cases h0 : i.natAbs = 0
      · rw [h0]; decide
      · exact (Nat.log2_lt h0).mpr this
    refine ⟨by rw [PyData.showable]; exact decide_eq_true h2, by rw [PyData.hasDict], by rw [PyData.depth]; exact Nat.le_refl _, ?_⟩
    rw [PyData.shown, PySem.ofString_length]
    have := int_text_length_le10 (k := 9) (by decide) h
    omega
  | bl b => exact ⟨by rw [PyData.showable], by rw [PyData.hasDict], by rw [PyData.depth]; exact Nat.le_refl _, by rw [PyData.shown]; cases b <;> decide⟩
  | non => exact ⟨by rw [PyData.showable], by rw [PyData.hasDict], by rw [PyData.depth]; exact Nat.le_refl _, by rw [PyData.shown]; decide⟩
  | str h => exact ⟨by rw [PyData.showable], by rw [PyData.hasDict], by rw [PyData.depth]; exact Nat.le_refl _, by rw [PyData.shown]; exact h⟩
theorem al_all {R : V → PyData → Prop} {P : PyData → Prop} (hR : ∀ x d, R x d → P d) {xs : List V} {ds : List PyData} (h : Al R xs ds) : ∀ d ∈ ds, P d := by
  induction h with
  | nil => intro d hd; cases hd
  | cons a _ ih =>
    intro d hd
    rcases List.mem_cons.mp hd with rfl | hd
    · exact hR _ _ a
    · exact ih d hd
theorem Fit.mono {B D B' D' : Nat} {d : PyData} (h : Fit B D d) (h1 : B ≤ B') (h2 : D ≤ D') : Fit B' D' d := ⟨h.sh, h.nd, Nat.le_trans h.dp h2, Nat.le_trans h.ln h1⟩
theorem Sh1.fit {H : Hp} {v : V} {d : PyData} (h : Sh1 H v d) : Fit 1100 1 d := by
  cases h with
  | p h => exact h.fit.mono (by decide) (by decide)
  | lst _ hl hs => exact (fit_list (al_all (fun _ _ z => z.fit) hs) (by rw [hs.length]; exact hl)).mono (by decide) (by decide)
  | tup _ hl hs => exact (fit_tup (al_all (fun _ _ z => z.fit) hs) (by rw [hs.length]; exact hl)).mono (by decide) (by decide)
section
variable {X : Cx} {pins : List (Addr × Obj)} {σ : St} {H : Hp} {s : Shared}
theorem Sh0.reads {v : V} {u : Value} {d : PyData} (h : Sh0 v d) (r : RelV v u) (hp : Heap) : ∃ as, Reads hp u d as := by
  cases h with
  | int h => obtain ⟨t, rfl⟩ := r; exact ⟨[], .int _ t⟩
  | bl b => cases r; exact ⟨[], .bool b⟩
  | non => cases r; exact ⟨[], .none⟩
  | str h => obtain ⟨t, rfl⟩ := r; exact ⟨[], .str _ t⟩
theorem al_reads {R : V → PyData → Prop} {hp : Heap} (hR : ∀ v u d, R v d → RelV v u → ∃ as, Reads hp u d as) : ∀ {xs : List V} {us : List Value} {ds : List PyData}, Al R xs ds → Vals xs us → ∃ as, ReadsAll hp us ds as
  | _, _, _, .nil, .nil => ⟨[], .nil⟩
  | _, _, _, .cons a b, .cons r rs => by
    obtain ⟨x, hx⟩ := hR _ _ _ a r
    obtain ⟨y, hy⟩ := al_reads hR b rs
    exact ⟨x ++ y, .cons hx hy⟩
theorem reads_lst (I : Inv X pins σ H s) {R : V → PyData → Prop} (hR : ∀ v u d, R v d → RelV v u → ∃ as, Reads s.heap u d as) {a : Addr} {xs : List V} {ds : List PyData} (ha : H a = some (.lst xs)) (h : Al R xs ds) : ∃ as, Reads s.heap (.ref a) (.list ds) as := by
  obtain ⟨its, r, p, _⟩ := I.list (SqL.of ha)
  obtain ⟨o, e, hc, n, hd⟩ := p.isList
  obtain ⟨as, hs⟩ := al_reads hR h r
  exact ⟨a :: as, .list e hc hd (by rw [List.toList_toArray]; exact hs)⟩
theorem reads_tup (I : Inv X pins σ H s) {R : V → PyData → Prop} (hR : ∀ v u d, R v d → RelV v u → ∃ as, Reads s.heap u d as) {a : Addr} {xs : List V} {ds : List PyData} (ha : H a = some (.tup xs)) (h : Al R xs ds) : ∃ as, Reads s.heap (.ref a) (.tuple ds) as := by
  obtain ⟨its, r, p, _⟩ := I.tuple (SqT.of ha)
  obtain ⟨o, e, hc, n, hd⟩ := p
  obtain ⟨as, hs⟩ := al_reads hR h r
  exact ⟨as, .tuple e hc hd (by rw [List.toList_toArray]; exact hs)⟩
theorem Sh1.reads (I : Inv X pins σ H s) (v : V) (u : Value) (d : PyData) (h : Sh1 H v d) (r : RelV v u) : ∃ as, Reads s.heap u d as := by
  cases h with
  | p h => exact h.reads r _
  | lst ha _ hs => cases r; exact reads_lst I (fun _ _ _ a b => a.reads b _) ha hs
  | tup ha _ hs => cases r; exact reads_tup I (fun _ _ _ a b => a.reads b _) ha hs
theorem repr_ref (I : Inv X pins σ H s) {Q : VK} (hg : X.A.guards = some []) (hu : X.A.units + 64 < cLine) {a : Addr} {d : PyData} {as : List Addr} (hr : Reads s.heap (.ref a) d as) (hs : d.showable = true) (hm : d.hasDict = true → sysModules ∉ as) (hd : d.depth ≤ 2) (hz : d.shown.length ≤ sizeLine) (q : Q (.str d.shown) H) :
    wpAny (model X.prog X.w) X.A (call (.builtin "repr") [.ref a]) (EP X pins σ Q) X.xe s :=
  repr_of_reads' hr hs hm hg (by omega) (fun _ _ e => e) (fun h' u tk hk => ⟨.str d.shown, H, I.kept (t' := tk) hk, ⟨u, rfl⟩, q⟩) hz
theorem sz_ok {n : Nat} (h : n ≤ 30000) : n ≤ sizeLine := Nat.le_trans h (by decide)
/-- repr(x): its text -/
theorem call_reprV (hg : X.A.guards = some []) (hu : X.A.units + 64 < cLine) : CallR X (.builtin "repr") (fun xs H Q => ∃ v d, xs = [v] ∧ Sh2 H v d ∧ Q (.str d.shown) H) := by
  intro pins s σ H vs us Q I r h
  obtain ⟨v, d, rfl, hs, q⟩ := h
  obtain ⟨u, rfl, rx⟩ := vals1 r
  cases hs with
  | p h1 =>
    cases h1 with
    | p h0 =>
      have f := h0.fit
      cases h0 with
      | int h =>
        obtain ⟨t, rfl⟩ := rx
        refine PySem.P.repr_of_int (of_decide_eq_true (by have := f.sh; rwa [PyData.showable] at this)) ⟨.str _, H, I.tok _, ⟨_, rfl⟩, ?_⟩
        rw [PyData.shown] at q; exact q
      | bl b =>
        cases rx
        refine PySem.P.repr_of_bool ⟨.str _, H, I.tok _, ⟨_, rfl⟩, ?_⟩
        rw [PyData.shown] at q; exact q
      | non =>
        cases rx
        refine PySem.P.repr_of_none ⟨.str _, H, I.tok _, ⟨_, rfl⟩, ?_⟩
        rw [PyData.shown] at q; exact q
      | str h =>
        obtain ⟨t, rfl⟩ := rx
        refine PySem.P.repr_of_str ⟨.str _, H, I.tok _, ⟨_, rfl⟩, ?_⟩ (sz_ok (Nat.le_trans h (by decide)))
        rw [PyData.shown] at q; exact q
    | lst ha hl hs =>
      cases rx
      have f := (Sh1.lst (H := H) ha hl hs).fit
      obtain ⟨as, hr⟩ := reads_lst I (fun _ _ _ a b => Sh0.reads a b _) ha hs
      exact repr_ref I hg hu hr f.sh (fun z => by rw [f.nd] at z; cases z) (Nat.le_trans f.dp (by decide)) (sz_ok (Nat.le_trans f.ln (by decide))) q
    | tup ha hl hs =>
      cases rx
      have f := (Sh1.tup (H := H) ha hl hs).fit
      obtain ⟨as, hr⟩ := reads_tup I (fun _ _ _ a b => Sh0.reads a b _) ha hs
      exact repr_ref I hg hu hr f.sh (fun z => by rw [f.nd] at z; cases z) (Nat.le_trans f.dp (by decide)) (sz_ok (Nat.le_trans f.ln (by decide))) q
  | lst ha hl hs =>
    cases rx
    have f := fit_list (al_all (fun _ _ z => Sh1.fit z) hs) (by rw [hs.length]; exact hl)
    obtain ⟨as, hr⟩ := reads_lst I (Sh1.reads I) ha hs
    exact repr_ref I hg hu hr f.sh (fun z => by rw [f.nd] at z; cases z) f.dp (sz_ok (Nat.le_trans f.ln (by decide))) q
  | dct ha =>
    cases rx
    obtain ⟨_, hS, vs, rel, o, es, ep, ho, hx, hd, _, hp, _⟩ := dk_of I.hok ha
    cases rel
    have e0 : es.toList = [] := by
      cases he : es.toList with
      | nil => rfl
      | cons e l => rw [he] at hp; cases hp
    refine repr_ref I hg hu (d := .dict []) (.dict ho hx.1 hd (by rw [e0]; exact .nil) (by rw [e0]; exact .nil)) (by simp [PyData.showable, PyData.showableKv]) (fun _ hm => ?_) (by simp [PyData.depth, PyData.depthKv]) (by rw [PyData.shown]; decide +kernel) q
    simp at hm
    rw [← hm] at hS
    simp at hS
end
end L2


set_option Elab.async false
set_option linter.all false
set_option maxRecDepth 100000
set_option maxHeartbeats 4000000
namespace My
open PySem PySem.Spec PyProof.Rows L2 GM GP
noncomputable def top (i : Nat) : Stmt := PySem.Challenge.pw_gavelhall_k41_plans.main.body.getD i (.Pass ⟨0, 0, 0, 0⟩)
noncomputable abbrev s_P_is_whole : Stmt := top 1
noncomputable abbrev s_P_apart : Stmt := top 3
noncomputable abbrev s_P_is_plan : Stmt := top 5
noncomputable abbrev s_P_may_get : Stmt := top 6
noncomputable abbrev s_P_plan_worth : Stmt := top 7
noncomputable abbrev s_P_amount_of : Stmt := top 8
noncomputable abbrev s_L_cell_at : Stmt := top 10
noncomputable abbrev s_L_whole : Stmt := top 11
noncomputable abbrev s_L_offer_by : Stmt := top 12
noncomputable abbrev s_L_listed : Stmt := top 13
noncomputable abbrev s_L_scale : Stmt := top 14
noncomputable abbrev s_L_offers : Stmt := top 15
noncomputable abbrev s_L_copies : Stmt := top 16
noncomputable abbrev s_L_is_plan : Stmt := top 17
noncomputable abbrev s_L_spoilt : Stmt := top 18
noncomputable abbrev s_law : Stmt := top 19
theorem sc_P_is_whole : FnScope ["thing"] ["thing"] (defScope s_P_is_whole) := ⟨rfl, rfl, rfl, by decide +kernel, rfl, by decide +kernel, by decide +kernel⟩
theorem sc_P_apart : FnScope ["one", "other"] ["one", "other"] (defScope s_P_apart) := ⟨rfl, rfl, rfl, by decide +kernel, rfl, by decide +kernel, by decide +kernel⟩
theorem sc_P_is_plan : FnScope ["many", "offers", "plan", "given", "listed", "bundle"] ["many", "offers", "plan"] (defScope s_P_is_plan) := ⟨rfl, rfl, rfl, by decide +kernel, rfl, by decide +kernel, by decide +kernel⟩
theorem sc_P_may_get : FnScope ["listed", "bundle"] ["listed", "bundle"] (defScope s_P_may_get) := ⟨rfl, rfl, rfl, by decide +kernel, rfl, by decide +kernel, by decide +kernel⟩
theorem sc_P_plan_worth : FnScope ["offers", "plan"] ["offers", "plan"] (defScope s_P_plan_worth) := ⟨rfl, rfl, rfl, by decide +kernel, rfl, by decide +kernel, by decide +kernel⟩
theorem sc_P_amount_of : FnScope ["listed", "bundle"] ["listed", "bundle"] (defScope s_P_amount_of) := ⟨rfl, rfl, rfl, by decide +kernel, rfl, by decide +kernel, by decide +kernel⟩
theorem sc_L_cell_at : FnScope ["_law_script", "_law_k"] ["_law_script", "_law_k"] (defScope s_L_cell_at) := ⟨rfl, rfl, rfl, by decide +kernel, rfl, by decide +kernel, by decide +kernel⟩
theorem sc_L_whole : FnScope ["_law_found"] ["_law_found"] (defScope s_L_whole) := ⟨rfl, rfl, rfl, by decide +kernel, rfl, by decide +kernel, by decide +kernel⟩
theorem sc_L_offer_by : FnScope ["_law_cell", "_law_many", "_law_scale_here", "_law_top", "_law_bundle", "_law_rest", "_law_bits", "_law_size"] ["_law_cell", "_law_many", "_law_scale_here"] (defScope s_L_offer_by) := ⟨rfl, rfl, rfl, by decide +kernel, rfl, by decide +kernel, by decide +kernel⟩
theorem sc_L_listed : FnScope ["_law_cells", "_law_many", "_law_scale_here", "_law_made", "_law_cell", "_law_offer"] ["_law_cells", "_law_many", "_law_scale_here"] (defScope s_L_listed) := ⟨rfl, rfl, rfl, by decide +kernel, rfl, by decide +kernel, by decide +kernel⟩
theorem sc_L_scale : FnScope ["_law_cell"] ["_law_cell"] (defScope s_L_scale) := ⟨rfl, rfl, rfl, by decide +kernel, rfl, by decide +kernel, by decide +kernel⟩
theorem sc_L_offers : FnScope ["_law_script", "_law_at", "_law_many", "_law_bidders", "_law_most", "_law_scale_here", "_law_made", "_law_who", "_law_place", "_law_cells"] ["_law_script", "_law_at", "_law_many", "_law_bidders", "_law_most"] (defScope s_L_offers) := ⟨rfl, rfl, rfl, by decide +kernel, rfl, by decide +kernel, by decide +kernel⟩
theorem sc_L_copies : FnScope ["_law_offers_here"] ["_law_offers_here"] (defScope s_L_copies) := ⟨rfl, rfl, rfl, by decide +kernel, rfl, by decide +kernel, by decide +kernel⟩
theorem sc_L_is_plan : FnScope ["_law_offers_here", "_law_thing", "_law_taken", "_law_k"] ["_law_offers_here", "_law_thing"] (defScope s_L_is_plan) := ⟨rfl, rfl, rfl, by decide +kernel, rfl, by decide +kernel, by decide +kernel⟩
theorem sc_L_spoilt : FnScope ["_law_offers_here", "_law_plan", "_law_cell", "_law_part", "_law_way", "_law_made", "_law_at", "_law_one", "_law_bit", "_law_beside", "_law_odd"] ["_law_offers_here", "_law_plan", "_law_cell", "_law_part"] (defScope s_L_spoilt) := ⟨rfl, rfl, rfl, by decide +kernel, rfl, by decide +kernel, by decide +kernel⟩
theorem sc_law : FnScope ["_law_script", "_law_many", "_law_offers_here", "_law_plan", "_law_loose", "_law_taken", "_law_due", "_law_who", "_law_chosen", "_law_handed", "_law_given", "_law_worth", "_law_thing", "_law_kept", "_law_found"] ["_law_script"] (defScope s_law) := ⟨rfl, rfl, rfl, by decide +kernel, rfl, by decide +kernel, by decide +kernel⟩
theorem lst0 {T : Type} {P : List T → Prop} {us : List T} (h : us.length = 0) (f : P []) : P us := by cases us with | nil => exact f | cons a us => cases h
theorem lst1 {T : Type} {P : List T → Prop} {us : List T} (h : us.length = 1) (f : ∀ a, P [a]) : P us := by cases us with | nil => cases h | cons a us => exact lst0 (P := fun l => P (a :: l)) (Nat.succ.inj h) (f a)
theorem lst2 {T : Type} {P : List T → Prop} {us : List T} (h : us.length = 2) (f : ∀ a b, P [a, b]) : P us := by cases us with | nil => cases h | cons a us => exact lst1 (P := fun l => P (a :: l)) (Nat.succ.inj h) (f a)
theorem lst3 {T : Type} {P : List T → Prop} {us : List T} (h : us.length = 3) (f : ∀ a b c, P [a, b, c]) : P us := by cases us with | nil => cases h | cons a us => exact lst2 (P := fun l => P (a :: l)) (Nat.succ.inj h) (f a)
theorem lst4 {T : Type} {P : List T → Prop} {us : List T} (h : us.length = 4) (f : ∀ a b c d, P [a, b, c, d]) : P us := by cases us with | nil => cases h | cons a us => exact lst3 (P := fun l => P (a :: l)) (Nat.succ.inj h) (f a)
theorem bnd1 {K : PySem.W.Frag} {x qual : Str} {st : Stmt} {f : Addr} {fd : FuncData} {p0 : Str} (F : Fun K x qual st f fd) (h : ∀ (kV doc pm : Value) (an : Option Addr) (cdv ct : Value) (a : Value), bindArgs (PySem.W.fnOf x qual (defArgs st) (defBody st) (defScope st) .none kV doc pm an cdv ct) ⟨[a], []⟩ = pure ([p0].zip [a])) : Binds K fd [p0] [] :=
  F.binds fun kV doc pm an cdv ct us hl => lst1 (P := fun us => bindArgs (PySem.W.fnOf x qual (defArgs st) (defBody st) (defScope st) .none kV doc pm an cdv ct) ⟨us, []⟩ = pure ([p0].zip us)) hl (h kV doc pm an cdv ct)
theorem bnd2 {K : PySem.W.Frag} {x qual : Str} {st : Stmt} {f : Addr} {fd : FuncData} {p0 p1 : Str} (F : Fun K x qual st f fd) (h : ∀ (kV doc pm : Value) (an : Option Addr) (cdv ct : Value) (a b : Value), bindArgs (PySem.W.fnOf x qual (defArgs st) (defBody st) (defScope st) .none kV doc pm an cdv ct) ⟨[a, b], []⟩ = pure ([p0, p1].zip [a, b])) : Binds K fd [p0, p1] [] :=
  F.binds fun kV doc pm an cdv ct us hl => lst2 (P := fun us => bindArgs (PySem.W.fnOf x qual (defArgs st) (defBody st) (defScope st) .none kV doc pm an cdv ct) ⟨us, []⟩ = pure ([p0, p1].zip us)) hl (h kV doc pm an cdv ct)
theorem bnd3 {K : PySem.W.Frag} {x qual : Str} {st : Stmt} {f : Addr} {fd : FuncData} {p0 p1 p2 : Str} (F : Fun K x qual st f fd) (h : ∀ (kV doc pm : Value) (an : Option Addr) (cdv ct : Value) (a b c : Value), bindArgs (PySem.W.fnOf x qual (defArgs st) (defBody st) (defScope st) .none kV doc pm an cdv ct) ⟨[a, b, c], []⟩ = pure ([p0, p1, p2].zip [a, b, c])) : Binds K fd [p0, p1, p2] [] :=
  F.binds fun kV doc pm an cdv ct us hl => lst3 (P := fun us => bindArgs (PySem.W.fnOf x qual (defArgs st) (defBody st) (defScope st) .none kV doc pm an cdv ct) ⟨us, []⟩ = pure ([p0, p1, p2].zip us)) hl (h kV doc pm an cdv ct)
theorem bnd4 {K : PySem.W.Frag} {x qual : Str} {st : Stmt} {f : Addr} {fd : FuncData} {p0 p1 p2 p3 : Str} (F : Fun K x qual st f fd) (h : ∀ (kV doc pm : Value) (an : Option Addr) (cdv ct : Value) (a b c d : Value), bindArgs (PySem.W.fnOf x qual (defArgs st) (defBody st) (defScope st) .none kV doc pm an cdv ct) ⟨[a, b, c, d], []⟩ = pure ([p0, p1, p2, p3].zip [a, b, c, d])) : Binds K fd [p0, p1, p2, p3] [] :=
  F.binds fun kV doc pm an cdv ct us hl => lst4 (P := fun us => bindArgs (PySem.W.fnOf x qual (defArgs st) (defBody st) (defScope st) .none kV doc pm an cdv ct) ⟨us, []⟩ = pure ([p0, p1, p2, p3].zip us)) hl (h kV doc pm an cdv ct)
theorem lst5 {T : Type} {P : List T → Prop} {us : List T} (h : us.length = 5) (f : ∀ a b c d e, P [a, b, c, d, e]) : P us := by cases us with | nil => cases h | cons a us => exact lst4 (P := fun l => P (a :: l)) (Nat.succ.inj h) (f a)
theorem bnd5 {K : PySem.W.Frag} {x qual : Str} {st : Stmt} {f : Addr} {fd : FuncData} {p0 p1 p2 p3 p4 : Str} (F : Fun K x qual st f fd) (h : ∀ (kV doc pm : Value) (an : Option Addr) (cdv ct : Value) (a b c d e : Value), bindArgs (PySem.W.fnOf x qual (defArgs st) (defBody st) (defScope st) .none kV doc pm an cdv ct) ⟨[a, b, c, d, e], []⟩ = pure ([p0, p1, p2, p3, p4].zip [a, b, c, d, e])) : Binds K fd [p0, p1, p2, p3, p4] [] :=
  F.binds fun kV doc pm an cdv ct us hl => lst5 (P := fun us => bindArgs (PySem.W.fnOf x qual (defArgs st) (defBody st) (defScope st) .none kV doc pm an cdv ct) ⟨us, []⟩ = pure ([p0, p1, p2, p3, p4].zip us)) hl (h kV doc pm an cdv ct)
theorem whole_key : ∀ n : Nm, (isN n .int = true → (!isN n .bl) = decide (n = .int)) ∧ (¬ isN n .int = true → false = decide (n = .int)) := by intro n; cases n <;> decide
noncomputable def nv (k : Nat) : V := .int (k : Int)
noncomputable def cellAt (ns : List Int) (k : Int) : Int := ns.getD k.toNat 0
theorem getD_at {ws : List Int} {b : Nat} (h : b < ws.length) : atI (ws.map V.int) (b : Int) = some (V.int (ws.getD b 0)) := by
  refine at_nat ?_
  rw [List.getElem?_map, List.getElem?_eq_getElem h, List.getD_eq_getElem?_getD, List.getElem?_eq_getElem h]; rfl
theorem pow7 {n : Nat} (h : n < 7) : 2 ^ n ≤ 64 ∧ 0 < 2 ^ n := ⟨(Nat.pow_le_pow_right (n := 2) (by decide) (by omega) : 2 ^ n ≤ 2 ^ 6), Nat.two_pow_pos _⟩
noncomputable def sp_L_cell_at (K : PySem.W.Frag) : Sp := fun vs H Q _ => ∃ a ns k, vs = [.ref a, .int k] ∧ SqL K H a (ns.map V.int) ∧ 0 ≤ k ∧ Q (.int (cellAt ns k)) H
noncomputable def sp_L_whole (K : PySem.W.Frag) : Sp := fun vs H Q _ => ∃ v n, vs = [v] ∧ KindIs K H v n ∧ Q (.bl (decide (n = Nm.int))) H
noncomputable def sp_P_amount_of (_K : PySem.W.Frag) : Sp := fun vs H Q _ => ∃ (l : Addr) (o : Off) (ps : List Addr) (b : Nat), vs = [.ref l, nv b] ∧ Pairs H l o ps ∧ (o.map Prod.fst).Nodup ∧ o.length ≤ 90 ∧ ∀ H', Same H H' → Q (.int (amtOf o b)) H'
noncomputable def ScaleAt (H : Hp) (t : Addr) : Prop := ∃ s0 s1 s2 : Int, H t = some (.tup [.int s0, .int s1, .int s2]) ∧ 0 ≤ s0 ∧ s0 ≤ 3 ∧ 1 ≤ s1 ∧ s1 ≤ 10 ^ 12 ∧ 1 ≤ s2
theorem ScaleAt.same {H H' : Hp} {t : Addr} (h : ScaleAt H t) (S : Same H H') : ScaleAt H' t := by
  obtain ⟨s0, s1, s2, e, r⟩ := h
  exact ⟨s0, s1, s2, S _ _ e, r⟩
noncomputable def sp_L_scale (_K : PySem.W.Frag) : Sp := fun vs H Q _ => ∃ c, vs = [.int c] ∧ ∀ t H', Same H H' → ScaleAt H' t → Q (.ref t) H'
noncomputable def sp_L_offer_by (_K : PySem.W.Frag) : Sp := fun vs H Q _ => ∃ (c : Int) (n : Nat) (t : Addr), vs = [.int c, nv n, .ref t] ∧ 1 ≤ n ∧ n < 7 ∧ ScaleAt H t ∧ ∀ p H' (b : Nat) (x : Int), Same H H' → H' p = some (.tup [.int (b : Int), .int x]) → 0 < b → b < 2 ^ n → 0 < x → Q (.ref p) H'
noncomputable def sp_L_listed (K : PySem.W.Frag) : Sp := fun vs H Q _ => ∃ (l t : Addr) (cs : List Int) (n : Nat), vs = [.ref l, nv n, .ref t] ∧ SqL K H l (cs.map V.int) ∧ cs.length ≤ 60 ∧ (cs ≠ [] → 1 ≤ n) ∧ n < 7 ∧ ScaleAt H t ∧ ∀ (r : Addr) (H' : Hp) (o : Off) (ps : List Addr), Same H H' → H r = none → Pairs H' r o ps → OffOk n cs.length o → Q (.ref r) H'
noncomputable def sp_L_offers (K : PySem.W.Frag) : Sp := fun vs H Q _ => ∃ (a : Addr) (ns : List Int) (at0 n b m : Nat), vs = [.ref a, nv at0, nv n, nv b, nv m] ∧ SqL K H a (ns.map V.int) ∧ n < 7 ∧ b ≤ 6 ∧ m ≤ 20 ∧ ∀ (l : Addr) (H' : Hp) (os : List Off) (as : List Addr), Same H H' → H l = none → HallAt H' l os as → os.length = b → (∀ o ∈ os, OffOk n m o) → Q (.ref l) H'
noncomputable def sp_L_copies (_K : PySem.W.Frag) : Sp := fun vs H Q _ => ∃ (l : Addr) (os : List Off) (as : List Addr), vs = [.ref l] ∧ HallAt H l os as ∧ os.length ≤ 100 ∧ ∀ (r : Addr) (H' : Hp) (bs : List Addr), Same H H' → H r = none → (∀ b ∈ bs, H b = none) → (∀ b ∈ bs, b ≠ r) → bs.Nodup → HallAt H' r os bs → Q (.ref r) H'
theorem hT_put {H H' : Hp} {t l : Addr} {zs : List V} {o : HO} (h : ScaleAt H t) (S : Same H H') (hl : H' l = some (.lst zs)) : ScaleAt (upd H' l o) t := by
  obtain ⟨s0, s1, s2, e, r⟩ := h
  have e' := S _ _ e
  exact ⟨s0, s1, s2, by rw [upd_ne (fun z => by rw [z, hl] at e'; cases e')]; exact e', r⟩
noncomputable def sp_P_plan_worth (_K : PySem.W.Frag) : Sp := fun vs H Q _ => ∃ (l p : Addr) (os : List Off) (as : List Addr) (w : Way), vs = [.ref l, .ref p] ∧ HallAt H l os as ∧ os.length ≤ 12 ∧ (∀ o ∈ os, o.length ≤ 90 ∧ GoodO o) ∧ H p = some (.lst (w.map fun c => V.int (c.1 : Int))) ∧ IsWay 0 os w ∧ ∀ H', Same H H' → Q (.int (worth w)) H'
noncomputable def intOf : V → Int
  | .int i => i
  | _ => 0
/-- may a bidder with these offers get it -/
noncomputable def mayV (o : Off) : V → Bool
  | .int i => decide (i = 0 ∨ i ∈ o.map fun c => (c.1 : Int))
  | _ => false
noncomputable def okP : Nat → List Off → List V → Bool
  | tk, o :: os, x :: xs => mayV o x && (decide (tk &&& (intOf x).toNat = 0) && okP (tk ||| (intOf x).toNat) os xs)
  | _, [], [] => true
  | _, _, _ => false
noncomputable def KindE (K : PySem.W.Frag) (H : Hp) (x : V) : Prop := ∃ n, KindIs K H x n ∧ ((n = Nm.int ∧ ∃ i, x = .int i) ∨ (n ≠ Nm.int ∧ ∀ o, mayV o x = false))
theorem KindIs.same {K : PySem.W.Frag} {H H' : Hp} {v : V} {t : Value} (h : TyOf K H v t) (S : Same H H') : TyOf K H' v t := by
  cases h with
  | non => exact .non
  | bl x => exact .bl x
  | int i => exact .int i
  | str x => exact .str x
  | flt x => exact .flt x
  | lst e => exact .lst (S _ _ e)
  | frz e => exact .frz (S _ _ e)
  | tup e => exact .tup (S _ _ e)
  | dK e => exact .dK (S _ _ e)
  | dT e => exact .dT (S _ _ e)
  | ins e a b c d f => exact .ins (S _ _ e) a b c d f
theorem KindE.same {K : PySem.W.Frag} {H H' : Hp} {v : V} (h : KindE K H v) (S : Same H H') : KindE K H' v := by
  obtain ⟨n, h1, h2⟩ := h
  exact ⟨n, KindIs.same h1 S, h2⟩
theorem kind0 {K : PySem.W.Frag} {H : Hp} {v : V} {d : PyData} (h : Sh0 v d) : KindE K H v := by
  cases h with
  | int _ => exact ⟨.int, TyOf.int _, .inl ⟨rfl, _, rfl⟩⟩
  | bl b => exact ⟨.bl, TyOf.bl _, .inr ⟨by decide, fun _ => rfl⟩⟩
  | non => exact ⟨.non, TyOf.non, .inr ⟨by decide, fun _ => rfl⟩⟩
  | str _ => exact ⟨.str, TyOf.str _, .inr ⟨by decide, fun _ => rfl⟩⟩
theorem kind1 {K : PySem.W.Frag} {H : Hp} {v : V} {d : PyData} (h : Sh1 H v d) : KindE K H v := by
  cases h with
  | p h => exact kind0 h
  | lst e _ _ => exact ⟨.lst, TyOf.lst e, .inr ⟨by decide, fun _ => rfl⟩⟩
  | tup e _ _ => exact ⟨.tup, TyOf.tup e, .inr ⟨by decide, fun _ => rfl⟩⟩
noncomputable def Plan (K : PySem.W.Frag) (H : Hp) (os : List Off) (v : V) (ans : Bool) : Prop :=
  (∃ n, KindIs K H v n ∧ n ≠ Nm.lst ∧ ans = false) ∨ ∃ p xs, v = .ref p ∧ H p = some (.lst xs) ∧ xs.length ≤ 20 ∧ (∀ x ∈ xs, KindE K H x) ∧ ans = (decide (xs.length = os.length) && okP 0 os xs)
theorem Plan.same {K : PySem.W.Frag} {H H' : Hp} {os : List Off} {v : V} {ans : Bool} (h : Plan K H os v ans) (S : Same H H') : Plan K H' os v ans := by
  rcases h with ⟨n, h1, h2⟩ | ⟨p, xs, h1, h2, h3, h4, h5⟩
  · exact .inl ⟨n, KindIs.same h1 S, h2⟩
  · exact .inr ⟨p, xs, h1, S _ _ h2, h3, fun x hx => (h4 x hx).same S, h5⟩
theorem al_kind {K : PySem.W.Frag} {H : Hp} {R : V → PyData → Prop} (hR : ∀ x d, R x d → KindE K H x) {xs : List V} {ds : List PyData} (h : Al R xs ds) : ∀ x ∈ xs, KindE K H x := by
  induction h with
  | nil => intro x hx; cases hx
  | cons a _ ih =>
    intro x hx
    rcases List.mem_cons.mp hx with rfl | hx
    · exact hR _ _ a
    · exact ih x hx
theorem plan_of {K : PySem.W.Frag} {H : Hp} {v : V} {d : PyData} (os : List Off) (h : Sh2 H v d) : ∃ ans, Plan K H os v ans := by
  cases h with
  | p h =>
    cases h with
    | p h =>
      cases h with
      | int _ => exact ⟨_, .inl ⟨.int, TyOf.int _, by decide, rfl⟩⟩
      | bl b => exact ⟨_, .inl ⟨.bl, TyOf.bl _, by decide, rfl⟩⟩
      | non => exact ⟨_, .inl ⟨.non, TyOf.non, by decide, rfl⟩⟩
      | str _ => exact ⟨_, .inl ⟨.str, TyOf.str _, by decide, rfl⟩⟩
    | lst e hl hs => exact ⟨_, .inr ⟨_, _, rfl, e, hl, al_kind (fun _ _ z => kind0 z) hs, rfl⟩⟩
    | tup e _ _ => exact ⟨_, .inl ⟨.tup, TyOf.tup e, by decide, rfl⟩⟩
  | lst e hl hs => exact ⟨_, .inr ⟨_, _, rfl, e, hl, al_kind (fun _ _ z => kind1 z) hs, rfl⟩⟩
  | dct e => exact ⟨_, .inl ⟨.dct, TyOf.dK e, by decide, rfl⟩⟩
theorem in_fstsI {o : List (Nat × Int)} {i : Int} : inV (V.int i) (o.map fun c => V.int (c.1 : Int)) = decide (i ∈ o.map fun c => (c.1 : Int)) := by
  unfold inV
  rw [Bool.eq_iff_iff, List.any_eq_true, decide_eq_true_iff]
  constructor
  · rintro ⟨y, hy, e⟩
    obtain ⟨c', hc', rfl⟩ := List.mem_map.mp hy
    have e' : (c'.1 : Int) = i := by simpa [eqV] using e
    exact List.mem_map.mpr ⟨c', hc', e'⟩
  · intro hb
    obtain ⟨c', hc', e⟩ := List.mem_map.mp hb
    exact ⟨_, List.mem_map.mpr ⟨c', hc', rfl⟩, by simp [eqV, e]⟩
/-- a plan of choices that are ways is one -/
theorem ok_way : ∀ {tk : Nat} {os : List Off} {u : Way}, IsWay tk os u → okP tk os (u.map fun c => V.int (c.1 : Int)) = true
  | _, [], [], _ => rfl
  | tk, o :: os, c :: cs, h => by
    have ih := ok_way h.2
    show (mayV o (.int (c.1 : Int)) && (decide (tk &&& ((c.1 : Nat) : Int).toNat = 0) && okP (tk ||| ((c.1 : Nat) : Int).toNat) os (cs.map fun c => V.int (c.1 : Int)))) = true
    rw [Int.toNat_natCast, ih, Bool.and_true]
    have h1 : (c.1 : Int) = 0 ∨ (c.1 : Int) ∈ o.map fun c => (c.1 : Int) := by
      rcases h.1 with rfl | ⟨z, _⟩
      · exact .inl rfl
      · exact .inr (List.mem_map.mpr ⟨c, z, rfl⟩)
    have h2 : tk &&& c.1 = 0 := by
      rcases h.1 with rfl | ⟨_, z⟩
      · exact Nat.and_zero _
      · exact z
    show (decide ((c.1 : Int) = 0 ∨ (c.1 : Int) ∈ o.map fun c => (c.1 : Int)) && decide (tk &&& c.1 = 0)) = true
    rw [decide_eq_true h1, decide_eq_true h2]; rfl
  | _, [], _ :: _, h => h.elim
  | _, _ :: _, [], h => h.elim
theorem may_nat {o : Off} {x : V} (h : mayV o x = true) : ∃ k : Nat, x = .int (k : Int) := by
  cases x with
  | int i =>
    have h1 : i = 0 ∨ i ∈ o.map fun c => (c.1 : Int) := of_decide_eq_true h
    rcases h1 with rfl | h1
    · exact ⟨0, rfl⟩
    · obtain ⟨c, _, rfl⟩ := List.mem_map.mp h1
      exact ⟨c.1, rfl⟩
  | _ => cases h
theorem isN_lst {n : Nm} (h : n ≠ .lst) : isN n .lst = false := by cases n <;> first | rfl | exact absurd rfl h
noncomputable def sp_P_is_whole (K : PySem.W.Frag) : Sp := fun vs H Q _ => ∃ v n, vs = [v] ∧ KindIs K H v n ∧ Q (.bl (decide (n = Nm.int))) H
noncomputable def sp_P_apart (_K : PySem.W.Frag) : Sp := fun vs H Q _ => ∃ a b : Nat, vs = [nv a, nv b] ∧ Q (.bl (decide (a &&& b = 0))) H
noncomputable def sp_P_may_get (K : PySem.W.Frag) : Sp := fun vs H Q _ => ∃ (l : Addr) (o : Off) (ps : List Addr) (v : V), vs = [.ref l, v] ∧ Pairs H l o ps ∧ o.length ≤ 90 ∧ KindE K H v ∧ ∀ H', Same H H' → Q (.bl (mayV o v)) H'
noncomputable def sp_P_is_plan (K : PySem.W.Frag) : Sp := fun vs H Q _ => ∃ (v0 v : V) (l : Addr) (os : List Off) (as : List Addr) (ans : Bool), vs = [v0, .ref l, v] ∧ HallAt H l os as ∧ (∀ o ∈ os, o.length ≤ 90) ∧ Plan K H os v ans ∧ ∀ H', Same H H' → Q (.bl ans) H'
noncomputable def sp_L_is_plan (K : PySem.W.Frag) : Sp := fun vs H Q _ => ∃ (v : V) (l : Addr) (os : List Off) (as : List Addr) (ans : Bool), vs = [.ref l, v] ∧ HallAt H l os as ∧ os.length ≤ 12 ∧ (∀ o ∈ os, o.length ≤ 90) ∧ Plan K H os v ans ∧ ∀ H', Same H H' → Q (.bl ans) H'
noncomputable def sp_L_spoilt (_K : PySem.W.Frag) : Sp := fun vs H Q _ => ∃ (l pl : Addr) (os : List Off) (as : List Addr) (bs : List Nat) (cell part : Int), vs = [.ref l, .ref pl, .int cell, .int part] ∧ HallAt H l os as ∧ os.length ≤ 4 ∧ (∀ o ∈ os, o.length ≤ 4 ∧ ∀ c ∈ o, c.1 < 64) ∧ H pl = some (.lst (bs.map nv)) ∧ bs.length = os.length ∧ (∀ b ∈ bs, b < 64) ∧ ∀ (v : V) (d : PyData) (H' : Hp), Same H H' → Sh2 H' v d → Q v H'
section
variable {P : Program} {w : World} {K : PySem.W.Frag} {mg : Str → Option Value} {base : Heap}
theorem cell_in {ns : List Int} {k : Int} (h0 : 0 ≤ k) (h : k < (ns.length : Int)) : atI (ns.map V.int) k = some (V.int (cellAt ns k)) := by
  obtain ⟨j, rfl⟩ : ∃ j : Nat, k = (j : Int) := ⟨k.toNat, by omega⟩
  have z := getD_at (ws := ns) (b := j) (by omega)
  rw [z]; rfl
theorem cell_out {ns : List Int} {k : Int} (h : ¬ k < (ns.length : Int)) : cellAt ns k = 0 := by
  unfold cellAt
  rw [List.getD_eq_getElem?_getD, List.getElem?_eq_none (by omega)]; rfl
theorem ok_L_cell_at {f : Addr} {fd : FuncData} (F : Fun K "_law_cell_at" "_law_cell_at" s_L_cell_at f fd) (m_self : mg "_law_cell_at" = some (.ref f)) (m_len : mg "len" = none) : DefOk P w K mg base 1 "_law_cell_at" ["_law_script", "_law_k"] [] (sp_L_cell_at K) := by
  refine F.def_okQ m_self (bnd2 F fun _ _ _ _ _ _ _ _ => rfl) sc_L_cell_at (fun vs H Q E h => ?_) (fun cdv A outer s H vs Q E hr h => ?_)
  · obtain ⟨a, ns, k, rfl, _⟩ := h; rfl
  obtain ⟨a, ns, k, rfl, hS, h0, q⟩ := h
  have hl : (ns.map V.int).length = ns.length := List.length_map _
  refine ⟨_, (R.pss_cons (R.ps_if (R.pt_cmpR op_lt (R.pv 1) (R.pe_cB call_len_seq rfl m_len PySem.boot_len (R.pa_c (R.pv 0) R.pa_nil)) (nomark _)) (R.pss_one (R.ps_ret (R.pe_ix ix_list (R.pv 0) (R.pv 1) (fun _ _ => rfl)))) R.pss_nil)
    (R.pss_one (R.ps_ret R.pe_int))), ?_⟩
  refine ⟨_, rfl, _, rfl, a, _, rfl, .inl hS, _, _, rfl, rfl, _, rfl, ?_⟩
  refine ite2 (fun c => ?_) (fun c => ?_)
  · have c' : k < (((ns.map V.int).length : Nat) : Int) := of_decide_eq_true c
    rw [hl] at c'
    exact ⟨_, rfl, _, rfl, a, _, _, _, rfl, rfl, hS, cell_in h0 c', q⟩
  · have c' : ¬ k < (((ns.map V.int).length : Nat) : Int) := of_decide_eq_false (Bool.eq_false_iff.mpr c)
    rw [hl] at c'
    show Q (.int 0) H
    rw [cell_out c'] at q; exact q
theorem ok_L_whole {f : Addr} {fd : FuncData} (F : Fun K "_law_whole" "_law_whole" s_L_whole f fd) (m_self : mg "_law_whole" = some (.ref f)) (m_isinstance : mg "isinstance" = none) (m_int : mg "int" = none) (m_bool : mg "bool" = none) : DefOk P w K mg base 1 "_law_whole" ["_law_found"] [] (sp_L_whole K) := by
  refine F.def_okQ m_self (bnd1 F fun _ _ _ _ _ _ _ => rfl) sc_L_whole (fun vs H Q E h => ?_) (fun cdv A outer s H vs Q E hr h => ?_)
  · obtain ⟨v, n, rfl, _⟩ := h; rfl
  obtain ⟨v, n, rfl, hk, q⟩ := h
  refine ⟨_, (R.pss_one (R.ps_ret (R.pe_and (R.pe_isi .int rfl m_isinstance rfl m_int (R.pv 0)) (R.pe_one (R.pe_not (R.pe_isi .bl rfl m_isinstance rfl m_bool (R.pv 0))))))), ?_⟩
  refine ⟨_, rfl, v, n, rfl, hk, _, rfl, ?_⟩
  refine ite2 (fun c => ?_) (fun c => ?_)
  · refine ⟨_, rfl, v, n, rfl, hk, _, rfl, ?_⟩
    rw [(whole_key n).1 c]; exact q
  · show Q (.bl false) H
    rw [(whole_key n).2 c]; exact q
theorem ok_P_amount_of {f : Addr} {fd : FuncData} (F : Fun K "amount_of" "amount_of" s_P_amount_of f fd) (m_self : mg "amount_of" = some (.ref f)) (m_dict : mg "dict" = none) : DefOk P w K mg base 1 "amount_of" ["listed", "bundle"] [] (sp_P_amount_of K) := by
  refine F.def_okQ m_self (bnd2 F fun _ _ _ _ _ _ _ _ => rfl) sc_P_amount_of (fun vs H Q E h => ?_) (fun cdv A outer s H vs Q E hr h => ?_)
  · obtain ⟨l, o, ps, b, rfl, _⟩ := h; rfl
  obtain ⟨l, o, ps, b, rfl, hP, nd, few, q⟩ := h
  refine ⟨_, (R.pss_one (R.ps_ret (R.pe_dget2 hr.units (R.pe_cTy (call_dictP rfl) rfl m_dict (boot_dict) (R.pa_c (R.pv 0) R.pa_nil)) (R.pv 1) R.pe_int))), ?_⟩
  refine ⟨_, rfl, l, o, ps, rfl, hP, nd, by omega, fun p hp => ⟨p, rfl, isD_dK upd_same, _, rfl, _, DGet.k (k := Sum.inl (b : Int)) upd_same, ?_⟩⟩
  rw [valV_amt]
  exact q _ (same_new hp _)
theorem ok_P_plan_worth {f : Addr} {fd : FuncData} (F : Fun K "plan_worth" "plan_worth" s_P_plan_worth f fd) (m_self : mg "plan_worth" = some (.ref f)) (m_sum : mg "sum" = none) (m_zip : mg "zip" = none)
    (D_P_amount_of : DefOk P w K mg base 1 "amount_of" ["listed", "bundle"] [] (sp_P_amount_of K)) : DefOk P w K mg base 2 "plan_worth" ["offers", "plan"] [] (sp_P_plan_worth K) := by
  refine F.def_okQ m_self (bnd2 F fun _ _ _ _ _ _ _ _ => rfl) sc_P_plan_worth (fun vs H Q E h => ?_) (fun cdv A outer s H vs Q E hr h => ?_)
  · obtain ⟨l, p, os, as, wy, rfl, _⟩ := h; rfl
  obtain ⟨l, p, os, as, wy, rfl, hH, h12, few, hp, hW, q⟩ := h
  refine ⟨_, (R.pss_one (R.ps_ret (R.pe_cB (call_sumL rfl) rfl m_sum (boot_sum) (R.pa_c (R.pe_comp (defScope s_P_plan_worth) ["offers", "plan"] ["listed", "bundle"] [] [] rfl rfl rfl ⟨s.heap.objs.size + 1, rfl⟩ rfl rfl (by decide +kernel) (R.pi_zip rfl m_zip (R.pa_c (R.pv 0) (R.pa_c (R.pv 1) R.pa_nil))) (fun C s2 H2 fp => (R.pg_tup K 2 rfl (R.pgs_cons (R.pg_name (i := 0) (show List.Nodup (["listed", "bundle"] : List Str) from by decide +kernel) rfl (Or.inl rfl)) (R.pgs_cons (R.pg_name (i := 1) (show List.Nodup (["listed", "bundle"] : List Str) from by decide +kernel) rfl (Or.inl rfl)) R.pgs_nil)))) (fun C s2 H2 fp => R.pf_nil) (fun C s2 H2 fp => (R.pe_callD D_P_amount_of hr (by decide) rfl (R.pa_c (R.pv 0) (R.pa_c (R.pv 1) R.pa_nil))))) R.pa_nil)))), ?_⟩
  have wl := hW.length
  have l1 : (as.map V.ref).length = os.length := by rw [List.length_map, hH.2.1]
  have l2 : (wy.map fun c => V.int (c.1 : Int)).length = os.length := by rw [List.length_map, wl]
  refine ⟨_, rfl, _, rfl, l, p, rfl, ⟨_, SqL.of hH.1⟩, ⟨_, SqL.of hp⟩, fun r hr => ?_⟩
  refine comp_zip2 (xs := as.map V.ref) (ys := wy.map fun c => V.int (c.1 : Int)) (by rw [l1, l2]) (fun k H' => Same H H' ∧ H' r = some (.lst (((wy.take k).map Prod.snd).map V.int))) ?_ (fun k H' _ z => ⟨SqL.of (z.1 _ _ hH.1), SqL.of (z.1 _ _ hp)⟩) ?_ ?_
  · exact ⟨same_new hr _, by rw [List.take_zero]; exact upd_same⟩
  · rintro k x u t H2 hx hy ⟨s2, e2⟩ ht K1 K0 k1 k0
    have s3 := same_new ht (.tup [x, u])
    have sA := s2.trans s3
    obtain ⟨a, o, ps, rfl, _, ho, hP⟩ := (hH.same sA).at hx
    rw [List.getElem?_map] at hy
    obtain ⟨c, hc, rfl⟩ := Option.map_eq_some_iff.mp hy
    obtain ⟨g1, g2⟩ := few o (List.mem_of_getElem? ho)
    refine fnilT ⟨_, rfl, _, rfl, a, o, ps, c.1, rfl, hP, g2.1, g1, fun H4 s4 => ?_⟩
    have ea : amtOf o c.1 = c.2 := by
      rcases way_opt hW ho hc with rfl | ⟨z, _⟩
      · exact amt_zero g2
      · exact amt_mem g2 z
    rw [ea]
    refine k1 _ _ _ (s4 _ _ (s3 _ _ e2)) ?_ ⟨(sA.trans s4).upd hr _, ?_⟩
    · rw [List.length_map, List.length_map]
      have := List.length_take_le' k wy
      exact small1000 (by omega)
    · rw [upd_same, List.take_add_one, hc, List.map_append, List.map_append]; rfl
  · rintro H2 ⟨s2, e2⟩
    rw [l1, ← wl, List.take_length] at e2
    exact ⟨r, wy.map Prod.snd, rfl, SqL.of e2, q H2 s2⟩
theorem ok_P_is_whole {f : Addr} {fd : FuncData} (F : Fun K "is_whole" "is_whole" s_P_is_whole f fd) (m_self : mg "is_whole" = some (.ref f)) (m_isinstance : mg "isinstance" = none) (m_int : mg "int" = none) (m_bool : mg "bool" = none) : DefOk P w K mg base 1 "is_whole" ["thing"] [] (sp_P_is_whole K) := by
  refine F.def_okQ m_self (bnd1 F fun _ _ _ _ _ _ _ => rfl) sc_P_is_whole (fun vs H Q E h => ?_) (fun cdv A outer s H vs Q E hr h => ?_)
  · obtain ⟨v, n, rfl, _⟩ := h; rfl
  obtain ⟨v, n, rfl, hk, q⟩ := h
  refine ⟨_, (R.pss_one (R.ps_ret (R.pe_and (R.pe_isi .int rfl m_isinstance rfl m_int (R.pv 0)) (R.pe_one (R.pe_not (R.pe_isi .bl rfl m_isinstance rfl m_bool (R.pv 0))))))), ?_⟩
  refine ⟨_, rfl, v, n, rfl, hk, _, rfl, ?_⟩
  refine ite2 (fun c => ?_) (fun c => ?_)
  · refine ⟨_, rfl, v, n, rfl, hk, _, rfl, ?_⟩
    rw [(whole_key n).1 c]; exact q
  · show Q (.bl false) H
    rw [(whole_key n).2 c]; exact q
theorem ok_P_apart {f : Addr} {fd : FuncData} (F : Fun K "apart" "apart" s_P_apart f fd) (m_self : mg "apart" = some (.ref f)) : DefOk P w K mg base 1 "apart" ["one", "other"] [] (sp_P_apart K) := by
  refine F.def_okQ m_self (bnd2 F fun _ _ _ _ _ _ _ _ => rfl) sc_P_apart (fun vs H Q E h => ?_) (fun cdv A outer s H vs Q E hr h => ?_)
  · obtain ⟨a, b, rfl, _⟩ := h; rfl
  obtain ⟨a, b, rfl, q⟩ := h
  refine ⟨_, (R.pss_one (R.ps_ret (R.pe_cmpR op_eq (R.pe_op op_andN (R.pv 0) (R.pv 1)) R.pe_int (nomark _)))), ?_⟩
  refine ⟨_, rfl, _, rfl, a, b, rfl, rfl, rfl, ?_⟩
  rw [show decide (V.int ((a &&& b : Nat) : Int) = V.int 0) = decide (a &&& b = 0) from int_eq_nat (b := 0)]
  exact q
theorem ok_P_may_get {f : Addr} {fd : FuncData} (F : Fun K "may_get" "may_get" s_P_may_get f fd) (m_self : mg "may_get" = some (.ref f))
    (D_P_is_whole : DefOk P w K mg base 1 "is_whole" ["thing"] [] (sp_P_is_whole K)) : DefOk P w K mg base 2 "may_get" ["listed", "bundle"] [] (sp_P_may_get K) := by
  refine F.def_okQ m_self (bnd2 F fun _ _ _ _ _ _ _ _ => rfl) sc_P_may_get (fun vs H Q E h => ?_) (fun cdv A outer s H vs Q E hr h => ?_)
  · obtain ⟨l, o, ps, v, rfl, _⟩ := h; rfl
  obtain ⟨l, o, ps, v, rfl, hP, few, ⟨n, hk, hn⟩, q⟩ := h
  refine ⟨_, (R.pss_cons (R.ps_if (R.pt_not (R.pt_val (R.pe_callD D_P_is_whole hr (by decide) rfl (R.pa_c (R.pv 1) R.pa_nil)))) (R.pss_one (R.ps_ret R.pe_bl)) R.pss_nil)
    (R.pss_one (R.ps_ret (R.pe_or (R.pe_cmpR op_eq (R.pv 1) R.pe_int (nomark _)) (R.pe_one (R.pe_cmpR op_in_seq (R.pv 1) (R.pe_comp (defScope s_P_may_get) ["listed", "bundle"] ["offered", "amount"] [] [] rfl rfl rfl ⟨s.heap.objs.size + 1, rfl⟩ rfl rfl (by decide +kernel) (R.pi_list (R.pv 0)) (fun C s2 H2 fp => (R.pg_tup K 2 rfl (R.pgs_cons (R.pg_name (i := 0) (show List.Nodup (["offered", "amount"] : List Str) from by decide +kernel) rfl (Or.inl rfl)) (R.pgs_cons (R.pg_name (i := 1) (show List.Nodup (["offered", "amount"] : List Str) from by decide +kernel) rfl (Or.inl rfl)) R.pgs_nil)))) (fun C s2 H2 fp => R.pf_nil) (fun C s2 H2 fp => (R.pv 0))) (by with_unfolding_all rfl))))))), ?_⟩
  refine ⟨_, rfl, v, n, rfl, hk, _, rfl, ?_⟩
  rcases hn with ⟨rfl, i, rfl⟩ | ⟨hn, hm⟩
  · rw [decide_eq_true rfl]
    refine iteF ?_
    refine ⟨_, rfl, rfl, _, rfl, ?_⟩
    rw [show decide (V.int i = V.int 0) = decide (i = 0) by simp]
    by_cases h0 : i = 0
    · rw [decide_eq_true h0]
      have z := q H (Same.refl _)
      have e : mayV o (.int i) = true := decide_eq_true (.inl h0)
      rw [e] at z
      exact iteT z
    rw [decide_eq_false h0]
    refine iteF ?_
    refine ⟨_, rfl, _, rfl, l, rfl, ⟨_, SqL.of hP.1⟩, fun l2 h2 => ?_⟩
    refine comp_lst2 (xs := ps.map V.ref) (fun k H' => Same H H' ∧ H' l2 = some (.lst ((o.take k).map fun c => V.int (c.1 : Int)))) ?_ (fun k H' _ z => SqL.of (z.1 _ _ hP.1)) ?_ ?_
    · exact ⟨same_new h2 _, by rw [List.take_zero]; exact upd_same⟩
    · rintro k v H2 hv ⟨s2, e2⟩
      obtain ⟨p2, x, rfl, hx, hp2⟩ := (hP.same s2).at hv
      refine ⟨p2, _, _, rfl, SqT.of hp2, ?_⟩
      intro K1 K0 k1 k0
      refine fnilT ⟨_, rfl, ?_⟩
      refine k1 _ _ _ e2 ?_ ⟨s2.upd h2 _, ?_⟩
      · rw [List.length_map]
        have z2 := List.length_take_le' k o
        exact small1000 (by omega)
      · rw [upd_same, List.take_add_one, hx, List.map_append]; rfl
    · rintro H2 ⟨s2, e2⟩
      have ex : o.take (ps.map V.ref).length = o := by rw [List.length_map, hP.2.1, List.take_length]
      rw [ex] at e2
      refine ⟨l2, _, rfl, .inl (SqL.of e2), rfl, (by rw [List.all_eq_true]; intro y hy; obtain ⟨c', _, rfl⟩ := List.mem_map.mp hy; rfl), ?_⟩
      rw [if_neg Bool.false_ne_true, in_fstsI]
      have z := q H2 s2
      have ez : mayV o (.int i) = decide (i ∈ o.map fun c => (c.1 : Int)) := by
        show decide (i = 0 ∨ i ∈ o.map fun c => (c.1 : Int)) = _
        simp [h0]
      rw [ez] at z; exact z
  · rw [decide_eq_false hn]
    have z := q H (Same.refl _)
    rw [hm o] at z
    exact iteT z
theorem ok_P_is_plan {f : Addr} {fd : FuncData} (F : Fun K "is_plan" "is_plan" s_P_is_plan f fd) (m_self : mg "is_plan" = some (.ref f)) (m_zip : mg "zip" = none) (m_isinstance : mg "isinstance" = none) (m_list : mg "list" = none) (m_len : mg "len" = none)
    (D_P_may_get : DefOk P w K mg base 2 "may_get" ["listed", "bundle"] [] (sp_P_may_get K))
    (D_P_apart : DefOk P w K mg base 1 "apart" ["one", "other"] [] (sp_P_apart K)) : DefOk P w K mg base 3 "is_plan" ["many", "offers", "plan"] [] (sp_P_is_plan K) := by
  refine F.def_okQ m_self (bnd3 F fun _ _ _ _ _ _ _ _ _ => rfl) sc_P_is_plan (fun vs H Q E h => ?_) (fun cdv A outer s H vs Q E hr h => ?_)
  · obtain ⟨v0, v, l, os, as, ans, rfl, _⟩ := h; rfl
  obtain ⟨v0, v, l, os, as, ans, rfl, hH, few, hPl, q⟩ := h
  refine ⟨_, (R.pss_cons (R.ps_if (R.pt (R.pw_or (R.pt_not (R.pt_val (R.pe_isi .lst rfl m_isinstance rfl m_list (R.pv 2)))) (R.pw_or1 (R.pt_cmpR op_ne (R.pe_cB call_len_seq rfl m_len PySem.boot_len (R.pa_c (R.pv 2) R.pa_nil)) (R.pe_cB call_len_seq rfl m_len PySem.boot_len (R.pa_c (R.pv 1) R.pa_nil)) (nomark _))))) (R.pss_one (R.ps_ret R.pe_bl)) R.pss_nil)
    (R.pss_cons (R.ps_set (i := 3) sc_P_is_plan.nd rfl (Or.inl rfl) R.pe_int)
    (R.pss_cons (R.ps_for PassesOwn.never rfl (R.pi_zip rfl m_zip (R.pa_c (R.pv 1) (R.pa_c (R.pv 2) R.pa_nil))) (R.pg_tup K 2 rfl (R.pgs_cons (R.pg_name (i := 4) sc_P_is_plan.nd rfl (Or.inl rfl)) (R.pgs_cons (R.pg_name (i := 5) sc_P_is_plan.nd rfl (Or.inl rfl)) R.pgs_nil))) (R.pss_cons (R.ps_if (R.pt (R.pw_or (R.pt_not (R.pt_val (R.pe_callD D_P_may_get hr (by decide) rfl (R.pa_c (R.pv 4) (R.pa_c (R.pv 5) R.pa_nil))))) (R.pw_or1 (R.pt_not (R.pt_val (R.pe_callD D_P_apart hr (by decide) rfl (R.pa_c (R.pv 3) (R.pa_c (R.pv 5) R.pa_nil)))))))) (R.pss_one (R.ps_ret R.pe_bl)) R.pss_nil)
      (R.pss_one (R.ps_set (i := 3) sc_P_is_plan.nd rfl (Or.inl rfl) (R.pe_op op_orN (R.pv 3) (R.pv 5))))))
    (R.pss_one (R.ps_ret R.pe_bl))))), ?_⟩
  have l1 : (as.map V.ref).length = os.length := by rw [List.length_map, hH.2.1]
  rcases hPl with ⟨n, hk, hn, rfl⟩ | ⟨p, xs, rfl, hp, h20, hks, rfl⟩
  · refine ⟨_, rfl, v, n, rfl, hk, _, rfl, ?_⟩
    rw [isN_lst hn]
    refine iteT ?_
    exact q H (Same.refl _)
  refine ⟨_, rfl, _, .lst, rfl, TyOf.lst hp, _, rfl, iteF ?_⟩
  refine ⟨_, rfl, p, _, rfl, .inl (SqL.of hp), _, rfl, l, _, rfl, .inl (SqL.of hH.1), rfl, _, rfl, ?_⟩
  rw [l1]
  by_cases hlen : xs.length = os.length
  case neg =>
    rw [show decide (V.int ((xs.length : Nat) : Int) = V.int ((os.length : Nat) : Int)) = false from decide_eq_false (fun z => hlen (by have := V.int.inj z; omega))]
    rw [decide_eq_false hlen] at q
    exact iteT (q H (Same.refl _))
  rw [hlen, decide_eq_true rfl]
  rw [decide_eq_true hlen, Bool.true_and] at q
  refine iteF ?_
  refine ⟨_, rfl, _, rfl, l, p, rfl, ⟨_, SqL.of hH.1⟩, ⟨_, SqL.of hp⟩, ?_⟩
  refine for_zip (xs := as.map V.ref) (ys := xs) (by rw [l1, hlen]) (fun i σ H' => Same H H' ∧ ∃ tk : Nat, okP tk (os.drop i) (xs.drop i) = okP 0 os xs ∧ ∃ y1 y2, σ = [some v0, some (.ref l), some (.ref p), some (nv tk), y1, y2]) ?_ ?_ ?_ ?_
  · exact ⟨Same.refl _, 0, rfl, _, _, rfl⟩
  · rintro i σ H' _ ⟨s', _⟩
    exact ⟨SqL.of (s' _ _ hH.1), SqL.of (s' _ _ hp)⟩
  · rintro i x u t σ H' hx hy ⟨s', tk, hok, y1, y2, rfl⟩ ht
    have s2 := same_new ht (.tup [x, u])
    have sA := s'.trans s2
    obtain ⟨a, o, ps, rfl, _, ho, hP⟩ := (hH.same sA).at hx
    have ed1 : os.drop i = o :: os.drop (i + 1) := by
      have hi := (List.getElem?_eq_some_iff.mp ho).1
      rw [List.drop_eq_getElem_cons hi, (List.getElem?_eq_some_iff.mp ho).2]
    have ed2 : xs.drop i = u :: xs.drop (i + 1) := by
      have hi := (List.getElem?_eq_some_iff.mp hy).1
      rw [List.drop_eq_getElem_cons hi, (List.getElem?_eq_some_iff.mp hy).2]
    rw [ed1, ed2] at hok
    have hok : (mayV o u && (decide (tk &&& (intOf u).toNat = 0) && okP (tk ||| (intOf u).toNat) (os.drop (i + 1)) (xs.drop (i + 1)))) = okP 0 os xs := hok
    refine ⟨t, _, rfl, SqT.of upd_same, rfl, _, _, rfl, _, _, rfl, rfl, ?_⟩
    refine ⟨_, rfl, _, rfl, a, o, ps, u, rfl, hP, few o (List.mem_of_getElem? ho), (hks u (List.mem_of_getElem? hy)).same sA, fun H3 s3 => ⟨_, rfl, ?_⟩⟩
    have sB := sA.trans s3
    cases hm : mayV o u with
    | false =>
      rw [hm, Bool.false_and] at hok
      rw [← hok] at q
      exact iteT (q H3 sB)
    | true =>
      obtain ⟨k, rfl⟩ := may_nat hm
      rw [hm, Bool.true_and] at hok
      have hok : (decide (tk &&& ((k : Nat) : Int).toNat = 0) && okP (tk ||| ((k : Nat) : Int).toNat) (os.drop (i + 1)) (xs.drop (i + 1))) = okP 0 os xs := hok
      rw [Int.toNat_natCast] at hok
      refine iteF ⟨_, rfl, _, rfl, tk, k, rfl, _, rfl, ?_⟩
      by_cases h0 : tk &&& k = 0
      · rw [decide_eq_true h0]
        rw [decide_eq_true h0, Bool.true_and] at hok
        refine iteF ⟨_, rfl, _, rfl, tk, k, rfl, rfl, ?_⟩
        exact ⟨sB, tk ||| k, hok, _, _, rfl⟩
      · rw [decide_eq_false h0]
        rw [decide_eq_false h0, Bool.false_and] at hok
        rw [← hok] at q
        exact iteT (q H3 sB)
  · rintro σ H' ⟨s', tk, hok, y1, y2, rfl⟩
    rw [l1, List.drop_length, ← hlen, List.drop_length] at hok
    rw [← hok] at q
    exact q H' s'
end
end My


set_option Elab.async false
set_option linter.all false
set_option maxRecDepth 100000
set_option maxHeartbeats 4000000
namespace My
open PySem PySem.Spec PyProof.Rows L2 GM GP
section
variable {P : Program} {w : World} {K : PySem.W.Frag} {mg : Str → Option Value} {base : Heap}
theorem ok_L_scale {f : Addr} {fd : FuncData} (F : Fun K "_law_scale" "_law_scale" s_L_scale f fd) (m_self : mg "_law_scale" = some (.ref f)) : DefOk P w K mg base 1 "_law_scale" ["_law_cell"] [] (sp_L_scale K) := by
  refine F.def_okQ m_self (bnd1 F fun _ _ _ _ _ _ _ => rfl) sc_L_scale (fun vs H Q E h => ?_) (fun cdv A outer s H vs Q E hr h => ?_)
  · obtain ⟨c, rfl, _⟩ := h; rfl
  obtain ⟨c, rfl, q⟩ := h
  refine ⟨_, (R.pss_one (R.ps_ret (R.pe_tup (R.pa_c (R.pe_op op_mod (R.pv 0) R.pe_int) (R.pa_c (R.pe_ix ix_list (R.pe_lst (R.pa_c R.pe_int (R.pa_c R.pe_int (R.pa_c (R.pe_op op_mulB R.pe_int (R.pe_op op_pow R.pe_int R.pe_int)) R.pa_nil)))) (R.pe_op (opE op_mod) (R.pe_op op_fdiv (R.pv 0) R.pe_int) R.pe_int) (fun _ _ => rfl)) (R.pa_c (R.pe_ix ix_list (R.pe_lst (R.pa_c R.pe_int (R.pa_c R.pe_int (R.pa_c R.pe_int (R.pa_c (R.pe_op op_pow R.pe_int R.pe_int) R.pa_nil))))) (R.pe_op (opE op_mod) (R.pe_op op_fdiv (R.pv 0) R.pe_int) R.pe_int) (fun _ _ => rfl)) R.pa_nil)))))), ?_⟩
  obtain ⟨j, ej, hj⟩ : ∃ j : Nat, c / 4 % 3 = (j : Int) ∧ j < 3 := ⟨(c / 4 % 3).toNat, by omega, by omega⟩
  obtain ⟨i, ei, hi⟩ : ∃ i : Nat, c / 12 % 4 = (i : Int) ∧ i < 4 := ⟨(c / 12 % 4).toNat, by omega, by omega⟩
  obtain ⟨v1, e1, b1, b2⟩ : ∃ v : Int, ([V.int 1, V.int 7, V.int (4 * 10 ^ 10)] : List V)[j]? = some (V.int v) ∧ 1 ≤ v ∧ v ≤ 10 ^ 12 := by
    rcases (show j = 0 ∨ j = 1 ∨ j = 2 by omega) with rfl | rfl | rfl
    · exact ⟨1, rfl, by decide, by decide⟩
    · exact ⟨7, rfl, by decide, by decide⟩
    · exact ⟨4 * 10 ^ 10, rfl, by decide, by decide⟩
  obtain ⟨v2, e2, b3⟩ : ∃ v : Int, ([V.int 1, V.int 1, V.int 2, V.int (10 ^ 10)] : List V)[i]? = some (V.int v) ∧ 1 ≤ v := by
    rcases (show i = 0 ∨ i = 1 ∨ i = 2 ∨ i = 3 by omega) with rfl | rfl | rfl | rfl
    · exact ⟨1, rfl, by decide⟩
    · exact ⟨1, rfl, by decide⟩
    · exact ⟨2, rfl, by decide⟩
    · exact ⟨10 ^ 10, rfl, by decide⟩
  refine ⟨_, rfl, _, _, rfl, rfl, (by show (0 : Int) < 4; decide), ?_⟩
  refine ⟨_, _, rfl, rfl, ⟨by decide, by decide, by decide⟩, _, _, rfl, rfl, mulOk_left (by decide), (by show 3 ≤ sizeLine; decide), fun la ha => ?_⟩
  refine ⟨_, rfl, _, _, rfl, rfl, ⟨by decide, by decide⟩, _, _, nv j, rfl, rfl, (by show (0 : Int) < 3; decide), congrArg V.int ej, la, _, _, V.int v1, rfl, rfl, SqL.of upd_same, at_nat e1, ?_⟩
  refine ⟨_, _, rfl, rfl, ⟨by decide, by decide, by decide⟩, (by show 4 ≤ sizeLine; decide), fun lb hb => ?_⟩
  refine ⟨_, rfl, _, _, rfl, rfl, ⟨by decide, by decide⟩, _, _, nv i, rfl, rfl, (by show (0 : Int) < 4; decide), congrArg V.int ei, lb, _, _, V.int v2, rfl, rfl, SqL.of upd_same, at_nat e2, ?_⟩
  refine ⟨(by show 3 ≤ sizeLine; decide), fun t ht => ?_⟩
  refine q t _ (((same_new ha _).trans (same_new hb _)).trans (same_new ht _)) ⟨c % 4, v1, v2, upd_same, by omega, by omega, b1, b2, b3⟩
theorem ok_L_offer_by {f : Addr} {fd : FuncData} (F : Fun K "_law_offer_by" "_law_offer_by" s_L_offer_by f fd) (m_self : mg "_law_offer_by" = some (.ref f)) (m_sum : mg "sum" = none) (m_range : mg "range" = none) : DefOk P w K mg base 1 "_law_offer_by" ["_law_cell", "_law_many", "_law_scale_here"] [] (sp_L_offer_by K) := by
  refine F.def_okQ m_self (bnd3 F fun _ _ _ _ _ _ _ _ _ => rfl) sc_L_offer_by (fun vs H Q E h => ?_) (fun cdv A outer s H vs Q E hr h => ?_)
  · obtain ⟨c, n, t, rfl, _⟩ := h; rfl
  obtain ⟨c, n, t, rfl, n1, hn, ⟨s0, s1, s2, et, g0, g1, g2, g3, g4⟩, q⟩ := h
  refine ⟨_, (R.pss_cons (R.ps_set (i := 3) sc_L_offer_by.nd rfl (Or.inl rfl) (R.pe_op (opE0 op_sub) (R.pe_op op_shlN R.pe_int (R.pv 1)) R.pe_int))
    (R.pss_cons (R.ps_set (i := 4) sc_L_offer_by.nd rfl (Or.inr rfl) (R.pe_op (opE0 op_add) (R.pe_op (opE op_mod) (R.pv 0) (R.pv 3)) R.pe_int))
    (R.pss_cons (R.ps_set (i := 5) sc_L_offer_by.nd rfl (Or.inl rfl) (R.pe_op op_fdiv (R.pv 0) (R.pv 3)))
    (R.pss_cons (R.ps_set (i := 6) sc_L_offer_by.nd rfl (Or.inl rfl) (R.pe_cB (call_sumL rfl) rfl m_sum (boot_sum) (R.pa_c (R.pe_comp (defScope s_L_offer_by) ["_law_cell", "_law_many", "_law_scale_here", "_law_top", "_law_bundle", "_law_rest", "_law_bits", "_law_size"] ["_law_k"] ["_law_bundle"] [4] rfl rfl rfl ⟨s.heap.objs.size + 1, rfl⟩ rfl rfl (by decide +kernel) (R.pi_range1 rfl m_range (R.pa_c (R.pv 1) R.pa_nil)) (fun C s2 H2 fp => (R.pg_name (i := 0) (show List.Nodup (["_law_k", "_law_bundle"] : List Str) from by decide +kernel) rfl (Or.inl rfl))) (fun C s2 H2 fp => R.pf_nil) (fun C s2 H2 fp => (R.pe_op op_andN (R.pe_op op_shrN (R.pv 1) (R.pv 0)) R.pe_int))) R.pa_nil)))
    (R.pss_cons (R.ps_set (i := 7) sc_L_offer_by.nd rfl (Or.inl rfl) (R.pe_op op_add (R.pe_op op_add (R.pe_op op_mod (R.pv 5) R.pe_int) R.pe_int) (R.pe_op op_mulB (R.pe_ix ix_tup (R.pv 2) R.pe_int (fun _ _ => rfl)) (R.pe_op op_sub (R.pv 6) R.pe_int))))
    (R.pss_one (R.ps_ret (R.pe_tup (R.pa_c (R.pv 4) (R.pa_c (R.pe_op op_add (R.pe_op op_mulB (R.pv 7) (R.pe_ix ix_tup (R.pv 2) R.pe_int (fun _ _ => rfl))) (R.pe_op op_mod (R.pe_op op_mulB (R.pe_op op_fdiv (R.pv 5) R.pe_int) R.pe_int) (R.pe_ix ix_tup (R.pv 2) R.pe_int (fun _ _ => rfl)))) R.pa_nil)))))))))), ?_⟩
  obtain ⟨f1, f2⟩ := pow7 hn
  have f3 : 2 ≤ 2 ^ n := (Nat.pow_le_pow_right (n := 2) (by decide) n1 : 2 ^ 1 ≤ 2 ^ n)
  have tpos : (0 : Int) < ((2 ^ n - 1 : Nat) : Int) := by omega
  refine ⟨_, rfl, n, rfl, rfl, by omega, _, _, nv (2 ^ n - 1), rfl, rfl, (by show V.int (((2 ^ n : Nat) : Int) - 1) = V.int ((2 ^ n - 1 : Nat) : Int); congr 1; omega), ?_⟩
  obtain ⟨j, ej, hj⟩ : ∃ j : Nat, c % ((2 ^ n - 1 : Nat) : Int) = (j : Int) ∧ j < 2 ^ n - 1 := by
    have a1 := Int.emod_nonneg c (show ((2 ^ n - 1 : Nat) : Int) ≠ 0 by omega)
    have a2 := Int.emod_lt_of_pos c tpos
    exact ⟨(c % ((2 ^ n - 1 : Nat) : Int)).toNat, by omega, by omega⟩
  refine ⟨_, rfl, _, rfl, _, _, nv j, rfl, rfl, tpos, congrArg V.int ej, _, _, nv (j + 1), rfl, rfl, rfl, ?_⟩
  refine ⟨_, rfl, _, rfl, _, _, rfl, rfl, ⟨tpos, by omega⟩, ?_⟩
  obtain ⟨rest, erest⟩ : ∃ r, c / ((2 ^ n - 1 : Nat) : Int) = r := ⟨_, rfl⟩
  refine ⟨_, rfl, _, rfl, by omega, by omega, fun l1 h1 => ?_⟩
  rw [Int.toNat_natCast]
  refine comp_rng_map (fun _ => true) (fun k => .int ((((j + 1) / 2 ^ k &&& 1 : Nat)) : Int)) (by omega) h1 ?_ ?_ ?_
  · intro k H1 hk s1 C hC; exact hC _ (Same.refl _)
  · intro k H1 hk _ s1 C hC
    rw [Int.zero_add]
    exact ⟨_, rfl, _, rfl, j + 1, k, rfl, rfl, _, 1, rfl, rfl, hC _ (Same.refl _)⟩
  · intro H1 z1 e1
    have bp := bits_pos n hn (j + 1) (by omega) (by omega)
    have em : (((List.range n).filter fun _ => true).map fun k => V.int ((((j + 1) / 2 ^ k &&& 1 : Nat)) : Int)) = ((List.range n).map fun k => ((((j + 1) / 2 ^ k &&& 1 : Nat)) : Int)).map V.int := by
      rw [List.filter_eq_self.mpr (fun _ _ => rfl), List.map_map]; rfl
    rw [em] at e1
    generalize ((List.range n).map fun k => ((((j + 1) / 2 ^ k &&& 1 : Nat)) : Int)) = bs at e1 bp
    refine ⟨l1, bs, rfl, SqL.of e1, ?_⟩
    generalize bs.sum = sb at bp
    have et1 := z1 _ _ et
    refine ⟨_, rfl, _, _, rfl, rfl, (by show (0 : Int) < 6; decide), _, _, rfl, rfl, _, rfl, t, _, _, _, rfl, rfl, SqT.of et1, at_nat (k := 0) rfl, _, rfl, _, _, rfl, rfl, _, _, rfl, rfl, mulOk_left (by omega), _, _, rfl, rfl, ?_⟩
    refine ⟨_, rfl, _, rfl, _, rfl, t, _, _, _, rfl, rfl, SqT.of et1, at_nat (k := 1) rfl, _, _, rfl, rfl, mulOk_small (by omega), ?_⟩
    refine ⟨_, rfl, _, _, rfl, rfl, ⟨by decide, by decide⟩, _, _, rfl, rfl, mulOk_small (by decide), _, rfl, t, _, _, _, rfl, rfl, SqT.of et1, at_nat (k := 2) rfl, _, _, rfl, rfl, (by show (0 : Int) < s2; omega), _, _, rfl, rfl, (by show 2 ≤ sizeLine; decide), fun p hp => ?_⟩
    refine q p _ (j + 1) _ (z1.trans (same_new hp _)) upd_same (by omega) (by omega) ?_
    have k1 : 0 ≤ s0 * (sb - 1) := Int.mul_nonneg g0 (by omega)
    have k2 : 0 ≤ rest % 6 := Int.emod_nonneg _ (by decide)
    have k3 : 0 ≤ rest / 6 * 48271 % s2 := Int.emod_nonneg _ (by omega)
    have k4 : 0 < (rest % 6 + 1 + s0 * (sb - 1)) * s1 := Int.mul_pos (by omega) (by omega)
    rw [erest]
    omega
theorem ok_L_listed {f : Addr} {fd : FuncData} (F : Fun K "_law_listed" "_law_listed" s_L_listed f fd) (m_self : mg "_law_listed" = some (.ref f)) (m_sorted : mg "sorted" = none)
    (D_L_offer_by : DefOk P w K mg base 1 "_law_offer_by" ["_law_cell", "_law_many", "_law_scale_here"] [] (sp_L_offer_by K)) : DefOk P w K mg base 2 "_law_listed" ["_law_cells", "_law_many", "_law_scale_here"] [] (sp_L_listed K) := by
  refine F.def_okQ m_self (bnd3 F fun _ _ _ _ _ _ _ _ _ => rfl) sc_L_listed (fun vs H Q E h => ?_) (fun cdv A outer s H vs Q E hr h => ?_)
  · obtain ⟨l, t, cs, n, rfl, _⟩ := h; rfl
  obtain ⟨l, t, cs, n, rfl, hS, few, hn1, hn, hT, q⟩ := h
  refine ⟨_, (R.pss_cons (R.ps_set (i := 3) sc_L_listed.nd rfl (Or.inl rfl) (R.pe_lst R.pa_nil))
    (R.pss_cons (R.ps_for PassesOwn.never rfl (R.pi_list (R.pv 0)) (R.pg_name (i := 4) sc_L_listed.nd rfl (Or.inl rfl)) (R.pss_cons (R.ps_set (i := 5) sc_L_listed.nd rfl (Or.inl rfl) (R.pe_callD D_L_offer_by hr (by decide) rfl (R.pa_c (R.pv 4) (R.pa_c (R.pv 1) (R.pa_c (R.pv 2) R.pa_nil)))))
      (R.pss_one (R.ps_if (R.pt_cmpR op_notIn_seq (R.pe_ix ix_tup (R.pv 5) R.pe_int (fun _ _ => rfl)) (R.pe_comp (defScope s_L_listed) ["_law_cells", "_law_many", "_law_scale_here", "_law_made", "_law_cell", "_law_offer"] ["_law_one"] [] [] rfl rfl rfl ⟨s.heap.objs.size + 1, rfl⟩ rfl rfl (by decide +kernel) (R.pi_list (R.pv 3)) (fun C s2 H2 fp => (R.pg_name (i := 0) (show List.Nodup (["_law_one"] : List Str) from by decide +kernel) rfl (Or.inl rfl))) (fun C s2 H2 fp => R.pf_nil) (fun C s2 H2 fp => (R.pe_ix (R.ixT K) (R.pv 0) R.pe_int (fun _ _ => rfl)))) (by with_unfolding_all rfl)) (R.pss_one (R.ps_expr (R.pe_append (R.pv 3) (R.pa_c (R.pv 5) R.pa_nil)))) R.pss_nil))))
    (R.pss_one (R.ps_ret (R.pe_cB call_sortedP rfl m_sorted (boot_sorted) (R.pa_c (R.pv 3) R.pa_nil)))))), ?_⟩
  refine ⟨(by show 0 ≤ sizeLine; decide), fun m hm => ?_⟩
  have s1 := same_new hm (.lst [])
  have cl : (cs.map V.int).length = cs.length := List.length_map _
  refine ⟨_, rfl, l, rfl, ⟨_, s1.seq hS⟩, ?_⟩
  refine for_list (xs := cs.map V.int) (fun i σ H' => Same H H' ∧ (∃ xs ps, Pairs H' m xs ps ∧ xs.length ≤ i ∧ (∀ c ∈ xs, (0 < c.1 ∧ c.1 < 2 ^ n) ∧ 0 < c.2) ∧ (xs.map Prod.fst).Nodup) ∧ ∃ y1 y2, σ = [some (.ref l), some (nv n), some (.ref t), some (.ref m), y1, y2]) ?_ ?_ ?_ ?_
  · exact ⟨s1, ⟨[], [], pairs_nil upd_same, Nat.le_refl _, (fun c hc => by cases hc), List.nodup_nil⟩, _, _, rfl⟩
  · rintro i σ H2 _ ⟨s2, _⟩; exact s2.seq hS
  · rintro i v σ H2 hv ⟨s2, ⟨xs, ps, hP, hxl, hg, hnd⟩, y1, y2, rfl⟩
    have hi : i < cs.length := by have := (List.getElem?_eq_some_iff.mp hv).1; omega
    rw [List.getElem?_map] at hv
    obtain ⟨c, hc, rfl⟩ := Option.map_eq_some_iff.mp hv
    have ne : cs ≠ [] := fun z => by rw [z] at hi; simp at hi
    refine ⟨_, rfl, _, rfl, _, rfl, c, n, t, rfl, hn1 ne, hn, hT.same s2, fun p H3 b x s3 hp b1 b2 b3 => ?_⟩
    have hP3 := hP.same s3
    obtain ⟨z1, z2, z3⟩ := pairs_zip hP3
    refine ⟨_, rfl, p, _, _, _, rfl, rfl, SqT.of hp, at_nat (k := 0) rfl, ?_⟩
    refine ⟨_, rfl, m, rfl, ⟨_, SqL.of z1⟩, fun l2 h2 => ?_⟩
    have zl : (ps.zip xs).length = xs.length := by rw [List.length_zip, hP.2.1, Nat.min_self]
    refine comp_lst_map pairV (ps.zip xs) (fun _ => true) (fun z => .int (z.2.1 : Int)) (SqL.of z1) (by omega) h2 ?_ ?_ ?_
    · intro z hz H4 s4 C hC; exact hC _ (Same.refl _)
    · intro z hz _ H4 s4 C hC
      exact ⟨_, rfl, z.1, _, _, _, rfl, rfl, SqT.of (s4 _ _ (z2 z hz)), at_nat (k := 0) rfl, hC _ (Same.refl _)⟩
    · intro H4 s4 e4
      have em : (((ps.zip xs).filter fun _ => true).map fun z : Addr × (Nat × Int) => V.int (z.2.1 : Int)) = xs.map fun c => V.int (c.1 : Int) := by
        rw [List.filter_eq_self.mpr (fun _ _ => rfl)]
        have : ((ps.zip xs).map fun z : Addr × (Nat × Int) => V.int (z.2.1 : Int)) = ((ps.zip xs).map Prod.snd).map fun c => V.int (c.1 : Int) := by rw [List.map_map]; rfl
        rw [this, z3]
      rw [em] at e4
      have iv : inV (V.int (b : Int)) (xs.map fun c => V.int (c.1 : Int)) = decide (b ∈ xs.map Prod.fst) := by
        unfold inV
        rw [Bool.eq_iff_iff, List.any_eq_true, decide_eq_true_iff]
        constructor
        · rintro ⟨y, hy, e⟩
          obtain ⟨c', hc', rfl⟩ := List.mem_map.mp hy
          have e' : (c'.1 : Int) = (b : Int) := by simpa [eqV] using e
          exact List.mem_map.mpr ⟨c', hc', by omega⟩
        · intro hb
          obtain ⟨c', hc', rfl⟩ := List.mem_map.mp hb
          exact ⟨_, List.mem_map.mpr ⟨c', hc', rfl⟩, by simp [eqV]⟩
      have s24 := s2.trans (s3.trans s4)
      have hP4 := hP3.same s4
      refine ⟨l2, _, rfl, .inl (SqL.of e4), rfl, (by rw [List.all_eq_true]; intro y hy; obtain ⟨c', _, rfl⟩ := List.mem_map.mp hy; rfl), _, rfl, ?_⟩
      rw [if_pos rfl, iv]
      by_cases hb : b ∈ xs.map Prod.fst
      · rw [decide_eq_true hb]
        refine iteF ⟨s24, ⟨xs, ps, hP4, by omega, hg, hnd⟩, _, _, rfl⟩
      · rw [decide_eq_false hb]
        refine iteT ⟨_, rfl, .inl ⟨rfl, _, SqL.of hP4.1⟩, _, rfl, m, _, _, rfl, rfl, hP4.1, by rw [List.length_map, hP4.2.1]; exact small1000 (by omega), ?_⟩
        refine ⟨s24.upd hm _, ⟨xs ++ [(b, x)], ps ++ [p], pairs_snoc (x := (b, x)) hP4 (s4 _ _ hp), by rw [List.length_append, List.length_singleton]; omega, fun c' hc' => ?_, ?_⟩, _, _, rfl⟩
        · rcases List.mem_append.mp hc' with hc' | hc'
          · exact hg c' hc'
          · rw [List.mem_singleton.mp hc']; exact ⟨⟨b1, b2⟩, b3⟩
        · rw [List.map_append, List.nodup_append]
          refine ⟨hnd, by simp, fun u hu w hw => ?_⟩
          have : w = b := by simpa using hw
          subst this
          exact fun z => hb (z ▸ hu)
  · rintro σ H2 ⟨s2, ⟨xs, ps, hP, hxl, hg, hnd⟩, y1, y2, rfl⟩
    rw [cl] at hxl
    refine ⟨_, rfl, m, xs, ps, rfl, hP, by omega, hnd, fun r ys qs hr hperm hpw hQ => ?_⟩
    exact q r _ ys qs (s2.trans (same_new hr _)) (s2.free hr) hQ ⟨by rw [hperm.length_eq]; exact hxl, fun c hc => (hg c (hperm.mem_iff.mp hc)).1, fun c hc => (hg c (hperm.mem_iff.mp hc)).2, hpw⟩
theorem ok_L_offers {f : Addr} {fd : FuncData} (F : Fun K "_law_offers" "_law_offers" s_L_offers f fd) (m_self : mg "_law_offers" = some (.ref f)) (m_range : mg "range" = none)
    (D_L_scale : DefOk P w K mg base 1 "_law_scale" ["_law_cell"] [] (sp_L_scale K))
    (D_L_cell_at : DefOk P w K mg base 1 "_law_cell_at" ["_law_script", "_law_k"] [] (sp_L_cell_at K))
    (D_L_listed : DefOk P w K mg base 2 "_law_listed" ["_law_cells", "_law_many", "_law_scale_here"] [] (sp_L_listed K)) : DefOk P w K mg base 3 "_law_offers" ["_law_script", "_law_at", "_law_many", "_law_bidders", "_law_most"] [] (sp_L_offers K) := by
  refine F.def_okQ m_self (bnd5 F fun _ _ _ _ _ _ _ _ _ _ _ => rfl) sc_L_offers (fun vs H Q E h => ?_) (fun cdv A outer s H vs Q E hr h => ?_)
  · obtain ⟨a, ns, at0, n, b, m, rfl, _⟩ := h; rfl
  obtain ⟨a, ns, at0, n, b, m, rfl, hS, hn, hb, hm, q⟩ := h
  refine ⟨_, (R.pss_cons (R.ps_set (i := 5) sc_L_offers.nd rfl (Or.inl rfl) (R.pe_callD D_L_scale hr (by decide) rfl (R.pa_c (R.pe_callD D_L_cell_at hr (by decide) rfl (R.pa_c (R.pv 0) (R.pa_c (R.pv 1) R.pa_nil))) R.pa_nil)))
    (R.pss_cons (R.ps_set (i := 6) sc_L_offers.nd rfl (Or.inl rfl) (R.pe_lst R.pa_nil))
    (R.pss_cons (R.ps_for PassesOwn.never rfl (R.pi_range1 rfl m_range (R.pa_c (R.pv 3) R.pa_nil)) (R.pg_name (i := 7) sc_L_offers.nd rfl (Or.inl rfl)) (R.pss_cons (R.ps_set (i := 8) sc_L_offers.nd rfl (Or.inr rfl) (R.pe_op (opE0 op_add) (R.pe_op op_add (R.pv 1) R.pe_int) (R.pe_op op_mulB (R.pe_op op_add (R.pv 4) R.pe_int) (R.pv 7))))
      (R.pss_cons (R.ps_compE (i := 9) (defScope s_L_offers) ["_law_script", "_law_at", "_law_many", "_law_bidders", "_law_most", "_law_scale_here", "_law_made", "_law_who", "_law_place", "_law_cells"] ["_law_k"] ["_law_script", "_law_place"] [0, 8] sc_L_offers.nd rfl (Or.inl rfl) rfl rfl rfl rfl rfl ⟨s.heap.objs.size + 1, rfl⟩ rfl rfl (by decide +kernel) (R.pi_range1 rfl m_range (R.pa_c (R.pe_op (opE op_mod) (R.pe_callD D_L_cell_at hr (by decide) rfl (R.pa_c (R.pv 0) (R.pa_c (R.pv 8) R.pa_nil))) (R.pe_op op_add (R.pv 4) R.pe_int)) R.pa_nil)) (fun C s2 H2 fp => (R.pg_name (i := 0) (show List.Nodup (["_law_k", "_law_script", "_law_place"] : List Str) from by decide +kernel) rfl (Or.inl rfl))) (fun C s2 H2 fp => R.pf_nil) (fun C s2 H2 fp => (R.pe_callD D_L_cell_at hr (by decide) rfl (R.pa_c (R.pv 1) (R.pa_c (R.pe_op op_add (R.pe_op op_add (R.pv 2) R.pe_int) (R.pv 0)) R.pa_nil)))))
      (R.pss_cons (R.ps_if (R.pt_cmpR op_eq (R.pv 2) R.pe_int (nomark _)) (R.pss_one (R.ps_set (i := 9) sc_L_offers.nd rfl (Or.inl rfl) (R.pe_lst R.pa_nil))) R.pss_nil)
      (R.pss_one (R.ps_expr (R.pe_append (R.pv 6) (R.pa_c (R.pe_callD D_L_listed hr (by decide) rfl (R.pa_c (R.pv 9) (R.pa_c (R.pv 2) (R.pa_c (R.pv 5) R.pa_nil)))) R.pa_nil))))))))
    (R.pss_one (R.ps_ret (R.pv 6)))))), ?_⟩
  refine ⟨_, rfl, _, rfl, a, ns, _, rfl, hS, by omega, _, rfl, fun t H1 s1 hT => ?_⟩
  refine ⟨(by show 0 ≤ sizeLine; decide), fun l hl => ?_⟩
  have hl0 : H l = none := s1.free hl
  have s2 := s1.trans (same_new hl (.lst []))
  refine ⟨_, rfl, _, rfl, by omega, by omega, ?_⟩
  rw [Int.toNat_natCast]
  refine for_range (n := b) (lo := 0) (fun i σ H' => Same H H' ∧ ScaleAt H' t ∧ (∃ os as, HallAt H' l os as ∧ os.length = i ∧ (∀ x ∈ as, x ≠ l) ∧ ∀ o ∈ os, OffOk n m o) ∧ ∃ y1 y2 y3, σ = [some (.ref a), some (nv at0), some (nv n), some (nv b), some (nv m), some (.ref t), some (.ref l), y1, y2, y3]) ?_ ?_ ?_
  · exact ⟨s2, hT.same (same_new hl _), ⟨[], [], hall_nil upd_same, rfl, (fun x hx => by cases hx), fun x hx => by cases hx⟩, _, _, _, rfl⟩
  · rintro k σ H2 hk ⟨z2, hT2, ⟨os, as, hH, hol, hne, hok⟩, y1, y2, y3, rfl⟩
    rw [Int.zero_add]
    have hS2 := z2.seq hS
    obtain ⟨pl, epl, pn⟩ : ∃ pl : Int, (at0 : Int) + 1 + ((m : Int) + 1) * (k : Int) = pl ∧ 0 ≤ pl := ⟨_, rfl, by
      have : (0 : Int) ≤ ((m : Int) + 1) * (k : Int) := Int.mul_nonneg (by omega) (by omega)
      omega⟩
    refine ⟨_, rfl, _, _, rfl, rfl, _, rfl, _, _, rfl, rfl, _, rfl, _, _, rfl, rfl, mulOk_small (by omega), _, _, V.int pl, rfl, rfl, congrArg V.int epl, ?_⟩
    obtain ⟨j, ej, hj⟩ : ∃ j : Nat, cellAt ns pl % ((m : Int) + 1) = (j : Int) ∧ j ≤ m := by
      have a1 := Int.emod_nonneg (cellAt ns pl) (show ((m : Int) + 1) ≠ 0 by omega)
      have a2 := Int.emod_lt_of_pos (cellAt ns pl) (show (0 : Int) < (m : Int) + 1 by omega)
      exact ⟨(cellAt ns pl % ((m : Int) + 1)).toNat, by omega, by omega⟩
    refine ⟨_, rfl, _, rfl, a, ns, pl, rfl, hS2, pn, _, rfl, _, _, rfl, rfl, _, _, nv j, rfl, rfl, (by show (0 : Int) < (m : Int) + 1; omega), congrArg V.int ej, _, rfl, by omega, by omega, fun lc hc => ?_⟩
    rw [Int.toNat_natCast]
    refine comp_rng_map (fun _ => true) (fun i => .int (cellAt ns (pl + 1 + (i : Int)))) (by omega) hc ?_ ?_ ?_
    · intro i H3 hi s3 C hC; exact hC _ (Same.refl _)
    · intro i H3 hi _ s3 C hC
      rw [Int.zero_add]
      exact ⟨_, rfl, _, rfl, _, _, rfl, rfl, _, rfl, _, _, rfl, rfl, a, ns, _, rfl, s3.seq hS2, by omega, hC _ (Same.refl _)⟩
    · intro H3 s3 e3
      have em : (((List.range j).filter fun _ => true).map fun i : Nat => V.int (cellAt ns (pl + 1 + (i : Int)))) = ((List.range j).map fun i : Nat => cellAt ns (pl + 1 + (i : Int))).map V.int := by
        rw [List.filter_eq_self.mpr (fun _ _ => rfl), List.map_map]; rfl
      rw [em] at e3
      have cl : ((List.range j).map fun i : Nat => cellAt ns (pl + 1 + (i : Int))).length = j := by rw [List.length_map, List.length_range]
      generalize ((List.range j).map fun i : Nat => cellAt ns (pl + 1 + (i : Int))) = cs at e3 cl
      have z3 := z2.trans s3
      have hT3 := hT2.same s3
      have hH3 := hH.same s3
      refine ⟨_, rfl, rfl, _, rfl, ?_⟩
      by_cases h0 : n = 0
      · rw [show decide (nv n = V.int 0) = true from decide_eq_true (by rw [h0]; rfl)]
        refine iteT ⟨(by show 0 ≤ sizeLine; decide), fun le he => ?_⟩
        have s4 := same_new he (.lst [])
        refine ⟨_, rfl, .inl ⟨rfl, _, SqL.of ((hH3.same s4)).1⟩, _, rfl, _, rfl, _, rfl, le, t, [], n, rfl, (SqL.of upd_same), (Nat.zero_le _), (fun z => absurd rfl z), hn, (hT3.same s4), fun r H5 o ps s5 hr hP hok5 => ?_⟩
        have hH5 := ((hH3.same s4)).same s5
        have nr : r ≠ l := Ne.symm (ne_of_none ((hH3.same s4)).1 hr)
        obtain ⟨g1, g2⟩ := hall_snoc hH5 hne hP nr
        refine ⟨l, _, _, rfl, rfl, hH5.1, by rw [List.length_map, hH.2.1, hol]; exact small1000 (by omega), ?_⟩
        refine ⟨(((z3.trans s4)).trans s5).upd hl0 _, (hT_put ((hT3.same s4)) s5 hH5.1), ⟨os ++ [o], as ++ [r], g1, by rw [List.length_append, hol]; rfl, g2, fun o' ho' => ?_⟩, _, _, _, rfl⟩
        rcases List.mem_append.mp ho' with ho' | ho'
        · exact hok o' ho'
        · rw [List.mem_singleton.mp ho']
          exact ⟨Nat.le_trans hok5.few (by show 0 ≤ m; omega), hok5.part, hok5.amt, hok5.rise⟩
      · rw [show decide (nv n = V.int 0) = false from decide_eq_false (fun z => h0 (Int.ofNat.inj (V.int.inj z)))]
        refine iteF ?_
        refine ⟨_, rfl, .inl ⟨rfl, _, SqL.of (hH3).1⟩, _, rfl, _, rfl, _, rfl, lc, t, cs, n, rfl, (SqL.of e3), (by omega), (fun _ => by omega), hn, hT3, fun r H5 o ps s5 hr hP hok5 => ?_⟩
        have hH5 := (hH3).same s5
        have nr : r ≠ l := Ne.symm (ne_of_none (hH3).1 hr)
        obtain ⟨g1, g2⟩ := hall_snoc hH5 hne hP nr
        refine ⟨l, _, _, rfl, rfl, hH5.1, by rw [List.length_map, hH.2.1, hol]; exact small1000 (by omega), ?_⟩
        refine ⟨((z3).trans s5).upd hl0 _, (hT_put (hT3) s5 hH5.1), ⟨os ++ [o], as ++ [r], g1, by rw [List.length_append, hol]; rfl, g2, fun o' ho' => ?_⟩, _, _, _, rfl⟩
        rcases List.mem_append.mp ho' with ho' | ho'
        · exact hok o' ho'
        · rw [List.mem_singleton.mp ho']
          exact ⟨Nat.le_trans hok5.few (by omega), hok5.part, hok5.amt, hok5.rise⟩
  · rintro σ H2 ⟨z2, hT2, ⟨os, as, hH, hol, hne, hok⟩, y1, y2, y3, rfl⟩
    exact ⟨_, rfl, q l H2 os as z2 hl0 hH hol hok⟩
theorem ok_L_copies {f : Addr} {fd : FuncData} (F : Fun K "_law_copies" "_law_copies" s_L_copies f fd) (m_self : mg "_law_copies" = some (.ref f)) (m_list : mg "list" = none) : DefOk P w K mg base 1 "_law_copies" ["_law_offers_here"] [] (sp_L_copies K) := by
  refine F.def_okQ m_self (bnd1 F fun _ _ _ _ _ _ _ => rfl) sc_L_copies (fun vs H Q E h => ?_) (fun cdv A outer s H vs Q E hr h => ?_)
  · obtain ⟨l, os, as, rfl, _⟩ := h; rfl
  obtain ⟨l, os, as, rfl, hH, few, q⟩ := h
  refine ⟨_, (R.pss_one (R.ps_ret (R.pe_comp (defScope s_L_copies) ["_law_offers_here"] ["_law_listed_here"] [] [] rfl rfl rfl ⟨s.heap.objs.size + 1, rfl⟩ rfl rfl (by decide +kernel) (R.pi_list (R.pv 0)) (fun C s2 H2 fp => (R.pg_name (i := 0) (show List.Nodup (["_law_listed_here"] : List Str) from by decide +kernel) rfl (Or.inl rfl))) (fun C s2 H2 fp => R.pf_nil) (fun C s2 H2 fp => (R.pe_cTy (call_listK K) rfl m_list (boot_list) (R.pa_c (R.pv 0) R.pa_nil)))))), ?_⟩
  have al : (as.map V.ref).length = os.length := by rw [List.length_map, hH.2.1]
  refine ⟨_, rfl, l, rfl, ⟨_, SqL.of hH.1⟩, fun r hr => ?_⟩
  refine comp_lst1 (xs := as.map V.ref) (fun k H' => Same H H' ∧ ∃ bs, HallAt H' r (os.take k) bs ∧ (∀ b ∈ bs, b ≠ r) ∧ (∀ b ∈ bs, H b = none) ∧ bs.Nodup) ?_ (fun k H' _ z => SqL.of (z.1 _ _ hH.1)) ?_ ?_
  · exact ⟨same_new hr _, [], by rw [List.take_zero]; exact hall_nil upd_same, (fun x hx => by cases hx), (fun x hx => by cases hx), List.nodup_nil⟩
  · rintro k v H2 hv ⟨s2, bs, hB, hne, hnn, hnd⟩ K1 K0 k1 k0
    have hk : k < os.length := by have := (List.getElem?_eq_some_iff.mp hv).1; omega
    obtain ⟨x, o, ps, rfl, _, ho, hP⟩ := (hH.same s2).at hv
    refine fnilT ⟨_, rfl, x, _, rfl, .inl (SqL.of hP.1), fun c hc => ?_⟩
    have s3 := same_new hc (.lst (ps.map V.ref))
    have hB3 := hB.same s3
    have nc : c ≠ r := Ne.symm (ne_of_none hB.1 hc)
    obtain ⟨g1, g2⟩ := hall_snoc hB3 hne (pairs_copy hP hc) nc
    refine k1 _ _ _ hB3.1 (by rw [List.length_map, hB.2.1, List.length_take]; exact small1000 (by omega)) ⟨(s2.trans s3).upd hr _, bs ++ [c], ?_, g2, fun b hb => ?_, ?_⟩
    · rw [List.take_add_one, ho]; exact g1
    · rcases List.mem_append.mp hb with hb | hb
      · exact hnn b hb
      · rw [List.mem_singleton.mp hb]; exact s2.free hc
    · exact nodup_snoc hnd fun hm => by
        obtain ⟨zs, z⟩ := hB.lives hm
        rw [hc] at z; cases z
  · rintro H2 ⟨s2, bs, hB, hne, hnn, hnd⟩
    rw [al, List.take_length] at hB
    exact q r H2 bs s2 hr hnn hne hnd hB
theorem ok_L_is_plan {f : Addr} {fd : FuncData} (F : Fun K "_law_is_plan" "_law_is_plan" s_L_is_plan f fd) (m_self : mg "_law_is_plan" = some (.ref f)) (m_range : mg "range" = none) (m_len : mg "len" = none) (m_isinstance : mg "isinstance" = none) (m_list : mg "list" = none)
    (D_L_whole : DefOk P w K mg base 1 "_law_whole" ["_law_found"] [] (sp_L_whole K)) : DefOk P w K mg base 2 "_law_is_plan" ["_law_offers_here", "_law_thing"] [] (sp_L_is_plan K) := by
  refine F.def_okQ m_self (bnd2 F fun _ _ _ _ _ _ _ _ => rfl) sc_L_is_plan (fun vs H Q E h => ?_) (fun cdv A outer s H vs Q E hr h => ?_)
  · obtain ⟨v, l, os, as, ans, rfl, _⟩ := h; rfl
  obtain ⟨v, l, os, as, ans, rfl, hH, h12, few, hPl, q⟩ := h
  refine ⟨_, (R.pss_cons (R.ps_if (R.pt (R.pw_or (R.pt_not (R.pt_val (R.pe_isi .lst rfl m_isinstance rfl m_list (R.pv 1)))) (R.pw_or1 (R.pt_cmpR op_ne (R.pe_cB call_len_seq rfl m_len PySem.boot_len (R.pa_c (R.pv 1) R.pa_nil)) (R.pe_cB call_len_seq rfl m_len PySem.boot_len (R.pa_c (R.pv 0) R.pa_nil)) (nomark _))))) (R.pss_one (R.ps_ret R.pe_bl)) R.pss_nil)
    (R.pss_cons (R.ps_set (i := 2) sc_L_is_plan.nd rfl (Or.inl rfl) R.pe_int)
    (R.pss_cons (R.ps_for PassesOwn.never rfl (R.pi_range1 rfl m_range (R.pa_c (R.pe_cB call_len_seq rfl m_len PySem.boot_len (R.pa_c (R.pv 1) R.pa_nil)) R.pa_nil)) (R.pg_name (i := 3) sc_L_is_plan.nd rfl (Or.inl rfl)) (R.pss_cons (R.ps_if (R.pt (R.pw_or (R.pt_not (R.pt_val (R.pe_callD D_L_whole hr (by decide) rfl (R.pa_c (R.pe_ix (R.ixL K) (R.pv 1) (R.pv 3) (fun _ _ => rfl)) R.pa_nil)))) (R.pw_or (R.pt_cmpR op_lt (R.pe_ix (R.ixL K) (R.pv 1) (R.pv 3) (fun _ _ => rfl)) R.pe_int (nomark _)) (R.pw_or1 (R.pt_cmpR op_gt (R.pe_op op_andN (R.pv 2) (R.pe_ix (R.ixL K) (R.pv 1) (R.pv 3) (fun _ _ => rfl))) R.pe_int (nomark _)))))) (R.pss_one (R.ps_ret R.pe_bl)) R.pss_nil)
      (R.pss_cons (R.ps_if (R.pt_cmpR op_notIn_seq (R.pe_ix (R.ixL K) (R.pv 1) (R.pv 3) (fun _ _ => rfl)) (R.pe_op op_cat (R.pe_lst (R.pa_c R.pe_int R.pa_nil)) (R.pe_comp (defScope s_L_is_plan) ["_law_offers_here", "_law_thing", "_law_taken", "_law_k"] ["_law_offer"] [] [] rfl rfl rfl ⟨s.heap.objs.size + 1, rfl⟩ rfl rfl (by decide +kernel) (R.pi_list (R.pe_ix (R.ixL K) (R.pv 0) (R.pv 3) (fun _ _ => rfl))) (fun C s2 H2 fp => (R.pg_name (i := 0) (show List.Nodup (["_law_offer"] : List Str) from by decide +kernel) rfl (Or.inl rfl))) (fun C s2 H2 fp => R.pf_nil) (fun C s2 H2 fp => (R.pe_ix (R.ixT K) (R.pv 0) R.pe_int (fun _ _ => rfl))))) (by with_unfolding_all rfl)) (R.pss_one (R.ps_ret R.pe_bl)) R.pss_nil)
      (R.pss_one (R.ps_set (i := 2) sc_L_is_plan.nd rfl (Or.inl rfl) (R.pe_op op_orN (R.pv 2) (R.pe_ix (R.ixL K) (R.pv 1) (R.pv 3) (fun _ _ => rfl))))))))
    (R.pss_one (R.ps_ret R.pe_bl))))), ?_⟩
  have l1 : (as.map V.ref).length = os.length := by rw [List.length_map, hH.2.1]
  rcases hPl with ⟨n, hk, hn, rfl⟩ | ⟨p, xs, rfl, hp, h20, hks, rfl⟩
  · refine ⟨_, rfl, v, n, rfl, hk, _, rfl, ?_⟩
    rw [isN_lst hn]
    refine iteT ?_
    exact q H (Same.refl _)
  refine ⟨_, rfl, _, .lst, rfl, TyOf.lst hp, _, rfl, iteF ?_⟩
  refine ⟨_, rfl, p, _, rfl, .inl (SqL.of hp), _, rfl, l, _, rfl, .inl (SqL.of hH.1), rfl, _, rfl, ?_⟩
  rw [l1]
  by_cases hlen : xs.length = os.length
  case neg =>
    rw [show decide (V.int ((xs.length : Nat) : Int) = V.int ((os.length : Nat) : Int)) = false from decide_eq_false (fun z => hlen (by have := V.int.inj z; omega))]
    rw [decide_eq_false hlen] at q
    exact iteT (q H (Same.refl _))
  rw [hlen, decide_eq_true rfl]
  rw [decide_eq_true hlen, Bool.true_and] at q
  refine iteF ?_
  refine ⟨_, rfl, p, _, rfl, .inl (SqL.of hp), _, rfl, by omega, by omega, ?_⟩
  rw [Int.toNat_natCast]
  refine for_range (n := xs.length) (lo := 0) (fun i σ H' => Same H H' ∧ ∃ tk : Nat, okP tk (os.drop i) (xs.drop i) = okP 0 os xs ∧ ∃ y, σ = [some (.ref l), some (.ref p), some (nv tk), y]) ?_ ?_ ?_
  · exact ⟨Same.refl _, 0, rfl, _, rfl⟩
  · rintro k σ H1 hk ⟨s1, tk, hok, y, rfl⟩
    rw [Int.zero_add]
    have hko : k < os.length := by omega
    have hak : as[k]? = some (as[k]'(by rw [hH.2.1]; exact hko)) := List.getElem?_eq_getElem _
    have ho : os[k]? = some (os[k]'hko) := List.getElem?_eq_getElem _
    have hx : xs[k]? = some (xs[k]'hk) := List.getElem?_eq_getElem _
    obtain ⟨ps, hP⟩ := (hH.same s1).2.2 k _ _ hak ho
    rw [List.drop_eq_getElem_cons hko, List.drop_eq_getElem_cons hk] at hok
    have hke := (hks _ (List.mem_of_getElem? hx)).same s1
    have fw := few _ (List.mem_of_getElem? ho)
    have hp1 := s1 _ _ hp
    have atx : atI xs (k : Int) = some (xs[k]'hk) := at_nat hx
    generalize xs[k]'hk = u at hok hke atx
    generalize os[k]'hko = o at hok hP fw
    have hok : (mayV o u && (decide (tk &&& (intOf u).toNat = 0) && okP (tk ||| (intOf u).toNat) (os.drop (k + 1)) (xs.drop (k + 1)))) = okP 0 os xs := hok
    obtain ⟨n, hkd, hn⟩ := hke
    refine ⟨_, rfl, _, rfl, p, _, _, _, rfl, rfl, SqL.of hp1, atx, u, n, rfl, hkd, _, rfl, ?_⟩
    rcases hn with ⟨rfl, i, rfl⟩ | ⟨hn, hm⟩
    case inr =>
      rw [decide_eq_false hn]
      rw [hm o, Bool.false_and] at hok
      rw [← hok] at q
      exact iteT (q H1 s1)
    rw [decide_eq_true rfl]
    refine iteF ?_
    refine ⟨_, rfl, _, rfl, p, _, _, _, rfl, rfl, SqL.of hp1, atx, _, _, rfl, rfl, _, rfl, ?_⟩
    by_cases hneg : i < 0
    · rw [decide_eq_true hneg]
      have hm : mayV o (.int i) = false := by
        refine decide_eq_false fun z => ?_
        rcases z with z | z
        · omega
        · obtain ⟨c, _, e⟩ := List.mem_map.mp z
          omega
      rw [hm, Bool.false_and] at hok
      rw [← hok] at q
      exact iteT (q H1 s1)
    rw [decide_eq_false hneg]
    refine iteF ?_
    obtain ⟨b, rfl⟩ : ∃ b : Nat, i = (b : Int) := ⟨i.toNat, by omega⟩
    have hok : (mayV o (.int (b : Int)) && (decide (tk &&& ((b : Nat) : Int).toNat = 0) && okP (tk ||| ((b : Nat) : Int).toNat) (os.drop (k + 1)) (xs.drop (k + 1)))) = okP 0 os xs := hok
    rw [Int.toNat_natCast] at hok
    refine ⟨_, rfl, _, rfl, _, rfl, p, _, _, _, rfl, rfl, SqL.of hp1, atx, tk, b, rfl, rfl, _, _, rfl, rfl, _, rfl, ?_⟩
    rw [show decide (((tk &&& b : Nat) : Int) > 0) = !decide (tk &&& b = 0) by
      by_cases z : tk &&& b = 0
      · rw [decide_eq_true z, z]; rfl
      · rw [decide_eq_false z]; exact decide_eq_true (by omega)]
    by_cases h0 : tk &&& b = 0
    case neg =>
      rw [decide_eq_false h0]
      rw [decide_eq_false h0, Bool.false_and, Bool.and_false] at hok
      rw [← hok] at q
      exact iteT (q H1 s1)
    rw [decide_eq_true h0]
    rw [decide_eq_true h0, Bool.true_and] at hok
    refine iteF ?_
    refine ⟨_, rfl, _, rfl, p, _, _, _, rfl, rfl, SqL.of hp1, atx, (by show 1 ≤ sizeLine; decide), fun l0 h0' => ?_⟩
    have s2 := same_new h0' (.lst [V.int 0])
    have hP2 := hP.same s2
    refine ⟨_, rfl, _, rfl, l, _, _, _, rfl, rfl, SqL.of ((hH.same s1).same s2).1, at_nat (by rw [List.getElem?_map, hak]; rfl), _, rfl, ⟨_, SqL.of hP2.1⟩, fun l2 h2 => ?_⟩
    refine comp_lst1 (xs := ps.map V.ref) (fun j H' => Same (upd H1 l0 (.lst [V.int 0])) H' ∧ H' l2 = some (.lst ((o.take j).map fun c => V.int (c.1 : Int)))) ?_ (fun j H' _ z => SqL.of (z.1 _ _ hP2.1)) ?_ ?_
    · exact ⟨same_new h2 _, by rw [List.take_zero]; exact upd_same⟩
    · rintro j v H3 hv ⟨s3, e3⟩ K1 K0 k1 k0
      obtain ⟨p2, x, rfl, hx2, hp2⟩ := (hP2.same s3).at hv
      refine fnilT ⟨_, rfl, p2, _, _, _, rfl, rfl, SqT.of hp2, at_nat (k := 0) rfl, ?_⟩
      refine k1 _ _ _ e3 ?_ ⟨s3.upd h2 _, ?_⟩
      · rw [List.length_map]
        have z2 := List.length_take_le' j o
        exact small1000 (by omega)
      · rw [upd_same, List.take_add_one, hx2, List.map_append]; rfl
    · rintro H3 ⟨s3, e3⟩
      have ex : o.take (ps.map V.ref).length = o := by rw [List.length_map, hP.2.1, List.take_length]
      rw [ex] at e3
      refine ⟨l0, l2, _, _, rfl, rfl, s3 _ _ upd_same, e3, by rw [List.length_map]; show 1 + _ ≤ _; exact Nat.le_of_lt (small1000 (by omega)), fun lc hc => ?_⟩
      have s4 := same_new hc (.lst ([V.int 0] ++ o.map fun c => V.int (c.1 : Int)))
      have sA := ((s1.trans s2).trans s3).trans s4
      refine ⟨lc, _, rfl, .inl (SqL.of upd_same), rfl, (by rw [List.all_eq_true]; intro y hy; rcases List.mem_append.mp hy with hy | hy; (rw [List.mem_singleton.mp hy]; rfl); (obtain ⟨c', _, rfl⟩ := List.mem_map.mp hy; rfl)), _, rfl, ?_⟩
      have ei : inV (V.int (b : Int)) ([V.int 0] ++ o.map fun c => V.int (c.1 : Int)) = mayV o (.int (b : Int)) := by
        show (eqV (V.int 0) (V.int (b : Int)) || inV (V.int (b : Int)) (o.map fun c => V.int (c.1 : Int))) = decide ((b : Int) = 0 ∨ (b : Int) ∈ o.map fun c => (c.1 : Int))
        rw [in_fstsI]
        have e1 : eqV (V.int 0) (V.int (b : Int)) = decide ((b : Int) = 0) := by
          rw [Bool.eq_iff_iff]
          simp [eqV]
          omega
        rw [e1, Bool.decide_or]
      rw [if_pos rfl, ei]
      cases hm : mayV o (.int (b : Int)) with
      | false =>
        rw [hm, Bool.false_and] at hok
        rw [← hok] at q
        exact iteT (q _ sA)
      | true =>
        rw [hm, Bool.true_and] at hok
        refine iteF ?_
        refine ⟨_, rfl, _, rfl, _, rfl, p, _, _, _, rfl, rfl, SqL.of (sA _ _ hp), atx, tk, b, rfl, rfl, ?_⟩
        exact ⟨sA, tk ||| b, hok, _, rfl⟩
  · rintro σ H1 ⟨s1, tk, hok, y, rfl⟩
    rw [List.drop_length, hlen, List.drop_length] at hok
    rw [← hok] at q
    exact q H1 s1
end
end My


set_option Elab.async false
set_option linter.all false
set_option maxRecDepth 100000
set_option maxHeartbeats 4000000
namespace My
open PySem PySem.Spec PyProof.Rows L2 GM GP
theorem ne_of_none' {H : Hp} {a b : Addr} {o : HO} (h : H b = some o) (h2 : H a = none) : a ≠ b := fun z => by rw [z, h] at h2; cases h2
section
variable {P : Program} {w : World} {K : PySem.W.Frag} {mg : Str → Option Value} {base : Heap}
theorem modn (c : Int) (n : Nat) (h : 0 < n) : ∃ j : Nat, c % (n : Int) = (j : Int) ∧ j < n := by
  have a1 := Int.emod_nonneg c (show (n : Int) ≠ 0 by omega)
  have a2 := Int.emod_lt_of_pos c (show (0 : Int) < (n : Int) by omega)
  exact ⟨(c % (n : Int)).toNat, by omega, by omega⟩
theorem sh_nat (b : Nat) (h : b < 1000) : Sh0 (nv b) (.int (b : Int)) := .int (by rw [Int.natAbs_natCast]; exact Nat.lt_of_lt_of_le h (by decide))
theorem sh_int (i : Int) (h : i.natAbs < 1000) : Sh0 (.int i) (.int i) := .int (Nat.lt_of_lt_of_le h (by decide))
theorem al_nats {xs : List V} (h : ∀ x ∈ xs, ∃ b : Nat, x = nv b ∧ b < 1000) : ∃ ds, Al Sh0 xs ds :=
  Al.of xs fun x hx => by
    obtain ⟨b, rfl, hb⟩ := h x hx
    exact ⟨_, sh_nat b hb⟩
theorem sh_empty : (reprText (Str.ofString "")).length ≤ 50 := by decide +kernel
theorem sh_one : (reprText (Str.ofString "1")).length ≤ 50 := by decide +kernel
theorem or_lt {a e : Nat} (ha : a < 64) (he : e < 6) : a ||| 2 ^ e < 1000 := by
  have h1 : 2 ^ e < 2 ^ 6 := Nat.pow_lt_pow_right (by decide) he
  have h2 := Nat.or_lt_two_pow (n := 6) (show a < 2 ^ 6 by omega) h1
  omega
theorem ok_L_spoilt {f : Addr} {fd : FuncData} (F : Fun K "_law_spoilt" "_law_spoilt" s_L_spoilt f fd) (m_self : mg "_law_spoilt" = some (.ref f)) (m_list : mg "list" = none) (m_tuple : mg "tuple" = none) (m_len : mg "len" = none) : DefOk P w K mg base 1 "_law_spoilt" ["_law_offers_here", "_law_plan", "_law_cell", "_law_part"] [] (sp_L_spoilt K) := by
  refine F.def_okQ m_self (bnd4 F fun _ _ _ _ _ _ _ _ _ _ => rfl) sc_L_spoilt (fun vs H Q E h => ?_) (fun cdv A outer s H vs Q E hr h => ?_)
  · obtain ⟨l, pl, os, as, bs, cell, part, rfl, _⟩ := h; rfl
  obtain ⟨l, pl, os, as, bs, cell, part, rfl, hH, h4, hof, hpl, hbl, hb64, q⟩ := h
  refine ⟨_, (R.pss_cons (R.ps_set (i := 4) sc_L_spoilt.nd rfl (Or.inl rfl) (R.pe_op op_mod (R.pv 2) R.pe_int))
    (R.pss_cons (R.ps_if (R.pt_cmpR op_lt (R.pv 4) R.pe_int (nomark _)) (R.pss_one (R.ps_ret (R.pv 1))) R.pss_nil)
    (R.pss_cons (R.ps_if (R.pt_cmpR op_eq (R.pv 4) R.pe_int (nomark _)) (R.pss_one (R.ps_ret (R.pe_op op_cat (R.pv 1) (R.pe_lst (R.pa_c R.pe_int R.pa_nil))))) R.pss_nil)
    (R.pss_cons (R.ps_if (R.pt_cmpR op_eq (R.pv 4) R.pe_int (nomark _)) (R.pss_one (R.ps_ret (R.pe_slice sl_list (R.pv 1) (R.po_some R.pe_int) R.po_none))) R.pss_nil)
    (R.pss_cons (R.ps_if (R.pt_cmpR op_eq (R.pv 4) R.pe_int (nomark _)) (R.pss_one (R.ps_ret (R.pe_cTy call_tuple_of rfl m_tuple (boot_tuple) (R.pa_c (R.pv 1) R.pa_nil)))) R.pss_nil)
    (R.pss_cons (R.ps_if (R.pt_cmpR op_eq (R.pv 4) R.pe_int (nomark _)) (R.pss_one (R.ps_ret (R.pe_ix (R.ixL K) (R.pe_lst (R.pa_c R.pe_non (R.pa_c R.pe_int (R.pa_c R.pe_str (R.pa_c R.pe_dnewK (R.pa_c R.pe_bl R.pa_nil)))))) (R.pe_op (opE op_mod) (R.pv 3) R.pe_int) (fun _ _ => rfl)))) R.pss_nil)
    (R.pss_cons (R.ps_set (i := 5) sc_L_spoilt.nd rfl (Or.inl rfl) (R.pe_cTy call_list_of rfl m_list (boot_list) (R.pa_c (R.pv 1) R.pa_nil)))
    (R.pss_cons (R.ps_if (R.pt_cmpR op_gt (R.pe_cB call_len_seq rfl m_len PySem.boot_len (R.pa_c (R.pv 5) R.pa_nil)) R.pe_int (nomark _)) (R.pss_cons (R.ps_set (i := 6) sc_L_spoilt.nd rfl (Or.inl rfl) (R.pe_op (opE op_mod) (R.pv 3) (R.pe_cB call_len_seq rfl m_len PySem.boot_len (R.pa_c (R.pv 5) R.pa_nil))))
      (R.pss_cons (R.ps_set (i := 7) sc_L_spoilt.nd rfl (Or.inl rfl) (R.pe_op (opE op_mod) (R.pe_op op_fdiv (R.pv 2) R.pe_int) R.pe_int))
      (R.pss_cons (R.ps_set (i := 8) sc_L_spoilt.nd rfl (Or.inl rfl) (R.pe_op op_shlN R.pe_int (R.pe_op (opE op_mod) (R.pe_op op_fdiv (R.pv 2) R.pe_int) R.pe_int)))
      (R.pss_cons (R.ps_set (i := 9) sc_L_spoilt.nd rfl (Or.inl rfl) (R.pe_op op_cat (R.pe_comp (defScope s_L_spoilt) ["_law_offers_here", "_law_plan", "_law_cell", "_law_part", "_law_way", "_law_made", "_law_at", "_law_one", "_law_bit", "_law_beside", "_law_odd"] ["_law_offer"] [] [] rfl rfl rfl ⟨s.heap.objs.size + 1, rfl⟩ rfl rfl (by decide +kernel) (R.pi_list (R.pe_ix (R.ixL K) (R.pv 0) (R.pe_op (opE op_mod) (R.pe_op (opE0 op_add) (R.pv 6) R.pe_int) (R.pe_cB call_len_seq rfl m_len PySem.boot_len (R.pa_c (R.pv 5) R.pa_nil))) (fun _ _ => rfl))) (fun C s2 H2 fp => (R.pg_name (i := 0) (show List.Nodup (["_law_offer"] : List Str) from by decide +kernel) rfl (Or.inl rfl))) (fun C s2 H2 fp => R.pf_nil) (fun C s2 H2 fp => (R.pe_ix (R.ixT K) (R.pv 0) R.pe_int (fun _ _ => rfl)))) (R.pe_lst (R.pa_c (R.pv 7) R.pa_nil))))
      (R.pss_cons (R.ps_set (i := 10) sc_L_spoilt.nd rfl (Or.inl rfl) (R.pe_lst (R.pa_c (R.pv 7) (R.pa_c (R.pe_op op_sub (R.pe_un un_neg R.pe_int) (R.pv 7)) (R.pa_c R.pe_bl (R.pa_c R.pe_bl (R.pa_c R.pe_non (R.pa_c R.pe_str (R.pa_c (R.pe_tup (R.pa_c R.pe_int R.pa_nil)) (R.pa_c (R.pe_lst (R.pa_c R.pe_int R.pa_nil)) (R.pa_c (R.pe_op op_orN (R.pe_ix (R.ixL K) (R.pv 5) (R.pv 6) (fun _ _ => rfl)) (R.pv 8)) (R.pa_c (R.pe_op op_sub (R.pe_ix (R.ixL K) (R.pv 5) (R.pv 6) (fun _ _ => rfl)) (R.pe_op op_andN (R.pe_ix (R.ixL K) (R.pv 5) (R.pv 6) (fun _ _ => rfl)) (R.pv 8))) R.pa_nil))))))))))))
      (R.pss_cons (R.ps_set (i := 10) sc_L_spoilt.nd rfl (Or.inl rfl) (R.pe_op op_cat (R.pv 10) (R.pe_lst (R.pa_c (R.pe_ix (R.ixL K) (R.pv 9) (R.pe_op (opE op_mod) (R.pe_op op_fdiv (R.pv 2) R.pe_int) (R.pe_cB call_len_seq rfl m_len PySem.boot_len (R.pa_c (R.pv 9) R.pa_nil))) (fun _ _ => rfl)) (R.pa_c (R.pe_ix (R.ixL K) (R.pv 1) (R.pe_op (opE op_mod) (R.pe_op (opE0 op_add) (R.pv 6) R.pe_int) (R.pe_cB call_len_seq rfl m_len PySem.boot_len (R.pa_c (R.pv 5) R.pa_nil))) (fun _ _ => rfl)) R.pa_nil)))))
      (R.pss_one (R.ps_asg (R.pe_ix (R.ixL K) (R.pv 10) (R.pe_op (opE op_mod) (R.pe_op op_fdiv (R.pv 2) R.pe_int) R.pe_int) (fun _ _ => rfl)) (R.pg_setL (R.pv 5) (R.pv 6)))))))))) R.pss_nil)
    (R.pss_one (R.ps_ret (R.pv 5))))))))))), ?_⟩
  have hbn : ∀ x ∈ bs.map nv, ∃ b : Nat, x = nv b ∧ b < 1000 := fun x hx => by
    obtain ⟨b, hb, rfl⟩ := List.mem_map.mp hx
    exact ⟨b, rfl, by have := hb64 b hb; omega⟩
  have lb : (bs.map nv).length = bs.length := List.length_map _
  refine ⟨_, rfl, _, _, rfl, rfl, (by show (0 : Int) < 18; decide), ?_⟩
  refine ⟨_, rfl, _, _, rfl, rfl, _, rfl, ite2 (fun _ => ?_) (fun _ => ?_)⟩
  · obtain ⟨ds, hds⟩ := al_nats hbn
    exact ⟨_, rfl, q _ _ H (Same.refl _) (.p (.lst hpl (by omega) hds))⟩
  refine ⟨_, rfl, rfl, _, rfl, ite2 (fun _ => ?_) (fun _ => ?_)⟩
  · refine ⟨_, rfl, (by show 1 ≤ sizeLine; decide), fun l1 h1 => ?_⟩
    have s1 := same_new h1 (.lst [V.int 0])
    refine ⟨pl, l1, _, _, rfl, rfl, s1 _ _ hpl, upd_same, by rw [lb]; show _ + 1 ≤ _; exact Nat.le_of_lt (small1000 (by omega)), fun p hp => ?_⟩
    obtain ⟨ds, hds⟩ := al_nats (xs := bs.map nv ++ [V.int 0]) fun x hx => by
      rcases List.mem_append.mp hx with hx | hx
      · exact hbn x hx
      · exact ⟨0, List.mem_singleton.mp hx, by decide⟩
    exact q _ _ _ (s1.trans (same_new hp _)) (.p (.lst upd_same (by rw [List.length_append, lb, List.length_singleton]; omega) hds))
  refine ⟨_, rfl, rfl, _, rfl, ite2 (fun _ => ?_) (fun _ => ?_)⟩
  · refine ⟨_, rfl, _, rfl, pl, _, rfl, SqL.of hpl, fun p hp => ?_⟩
    have hc : (cutV (bs.map nv) (some 1) none).length ≤ (bs.map nv).length := cutV_length _ _ _
    obtain ⟨ds, hds⟩ := al_nats (xs := cutV (bs.map nv) (some 1) none) fun x hx => by
      unfold cutV at hx
      exact hbn x (List.mem_of_mem_drop (List.mem_of_mem_take hx))
    exact q _ _ _ (same_new hp _) (.p (.lst upd_same (by omega) hds))
  refine ⟨_, rfl, rfl, _, rfl, ite2 (fun _ => ?_) (fun _ => ?_)⟩
  · refine ⟨_, rfl, pl, _, rfl, .inl ⟨SqL.of hpl, fun p hp => ?_⟩⟩
    obtain ⟨ds, hds⟩ := al_nats hbn
    exact q _ _ _ (same_new hp _) (.p (.tup upd_same (by omega) hds))
  refine ⟨_, rfl, rfl, _, rfl, ite2 (fun _ => ?_) (fun _ => ?_)⟩
  · obtain ⟨j, ej, hj⟩ := modn part 5 (by decide)
    refine fun dd hdd => ⟨(by show 5 ≤ sizeLine; decide), fun l1 h1 => ?_⟩
    have s1 := (same_new hdd (.dK [])).trans (same_new h1 (.lst [V.non, V.int 0, V.str (Str.ofString ""), V.ref dd, V.bl true]))
    have ed := same_new h1 (.lst [V.non, V.int 0, V.str (Str.ofString ""), V.ref dd, V.bl true]) _ _ (upd_same (H := H) (a := dd) (o := .dK []))
    obtain ⟨v, d, hv, hd⟩ : ∃ v d, ([V.non, V.int 0, V.str (Str.ofString ""), V.ref dd, V.bl true] : List V)[j]? = some v ∧ Sh2 (upd (upd H dd (.dK [])) l1 (.lst [V.non, V.int 0, V.str (Str.ofString ""), V.ref dd, V.bl true])) v d := by
      rcases (show j = 0 ∨ j = 1 ∨ j = 2 ∨ j = 3 ∨ j = 4 by omega) with rfl | rfl | rfl | rfl | rfl
      · exact ⟨_, _, rfl, .p (.p .non)⟩
      · exact ⟨_, _, rfl, .p (.p (sh_nat 0 (by decide)))⟩
      · exact ⟨_, _, rfl, .p (.p (.str sh_empty))⟩
      · exact ⟨_, _, rfl, .dct ed⟩
      · exact ⟨_, _, rfl, .p (.p (.bl true))⟩
    exact ⟨_, rfl, _, _, nv j, rfl, rfl, (by show (0 : Int) < 5; decide), congrArg V.int ej, l1, _, _, v, rfl, rfl, SqL.of upd_same, at_nat hv, q v d _ s1 hd⟩
  refine ⟨_, rfl, pl, _, rfl, .inl (SqL.of hpl), fun lm hm => ?_⟩
  have sm := same_new hm (.lst (bs.map nv))
  have em : upd H lm (.lst (bs.map nv)) lm = some (.lst (bs.map nv)) := upd_same
  generalize upd H lm (.lst (bs.map nv)) = H1 at sm em ⊢
  refine ⟨_, rfl, lm, _, rfl, .inl (SqL.of em), _, _, rfl, rfl, _, rfl, ?_⟩
  rw [lb]
  by_cases h0 : bs.length = 0
  · rw [show decide (((bs.length : Nat) : Int) > 0) = false from decide_eq_false (by omega)]
    obtain ⟨ds, hds⟩ := al_nats hbn
    exact iteF ⟨_, rfl, q _ _ _ sm (.p (.lst em (by omega) hds))⟩
  rw [show decide (((bs.length : Nat) : Int) > 0) = true from decide_eq_true (by omega)]
  refine iteT ?_
  obtain ⟨a0, ea, ha⟩ := modn part bs.length (by omega)
  obtain ⟨one, eo, ho⟩ := modn (cell / 216) 64 (by decide)
  obtain ⟨e6, ee, he6⟩ := modn (cell / 216) 6 (by decide)
  obtain ⟨a1, ea1, ha1⟩ := modn ((a0 + 1 : Nat) : Int) bs.length (by omega)
  have hlen : (0 : Int) < (((bs.map nv).length : Nat) : Int) := by rw [lb]; omega
  have f1 : ∀ c : Int, ∀ j : Nat, c % (bs.length : Int) = (j : Int) → V.int (c % (((bs.map nv).length : Nat) : Int)) = nv j := fun c j e => by rw [lb]; exact congrArg V.int e
  refine ⟨_, rfl, _, rfl, lm, _, rfl, .inl (SqL.of em), _, _, nv a0, rfl, rfl, hlen, f1 _ _ ea, ?_⟩
  refine ⟨_, rfl, _, _, rfl, rfl, ⟨by decide, by decide⟩, _, _, nv one, rfl, rfl, (by show (0 : Int) < 64; decide), congrArg V.int eo, ?_⟩
  refine ⟨_, rfl, _, _, rfl, rfl, ⟨by decide, by decide⟩, _, _, nv e6, rfl, rfl, (by show (0 : Int) < 6; decide), congrArg V.int ee, e6, rfl, rfl, by omega, ?_⟩
  have hH1 := hH.same sm
  have ha1o : a1 < os.length := by omega
  have hak : as[a1]? = some (as[a1]'(by rw [hH.2.1]; exact ha1o)) := List.getElem?_eq_getElem _
  have hoi : os[a1]? = some (os[a1]'ha1o) := List.getElem?_eq_getElem _
  obtain ⟨ps, hP⟩ := hH1.2.2 a1 _ _ hak hoi
  obtain ⟨hof1, hof2⟩ := hof _ (List.mem_of_getElem? hoi)
  refine ⟨_, rfl, _, rfl, _, _, nv (a0 + 1), rfl, rfl, rfl, _, rfl, lm, _, rfl, .inl (SqL.of em), _, _, nv a1, rfl, rfl, hlen, f1 _ _ ea1, l, _, _, _, rfl, rfl, SqL.of hH1.1, at_nat (by rw [List.getElem?_map, hak]; rfl), _, rfl, ⟨_, SqL.of hP.1⟩, fun l2 h2 => ?_⟩
  generalize os[a1]'ha1o = o at hoi hP hof1 hof2
  refine comp_lst1 (xs := ps.map V.ref) (fun j H' => Same H1 H' ∧ H' l2 = some (.lst ((o.take j).map fun c => nv c.1))) ?_ (fun j H' _ z => SqL.of (z.1 _ _ hP.1)) ?_ ?_
  · exact ⟨same_new h2 _, by rw [List.take_zero]; exact upd_same⟩
  · rintro j v H3 hv ⟨s3, e3⟩ K1 K0 k1 k0
    obtain ⟨p2, x, rfl, hx2, hp2⟩ := (hP.same s3).at hv
    refine fnilT ⟨_, rfl, p2, _, _, _, rfl, rfl, SqT.of hp2, at_nat (k := 0) rfl, ?_⟩
    refine k1 _ _ _ e3 ?_ ⟨s3.upd h2 _, ?_⟩
    · rw [List.length_map]
      have z2 := List.length_take_le' j o
      exact small1000 (by omega)
    · rw [upd_same, List.take_add_one, hx2, List.map_append]; rfl
  rintro H2 ⟨s2, e2⟩
  have ex : o.take (ps.map V.ref).length = o := by rw [List.length_map, hP.2.1, List.take_length]
  rw [ex] at e2
  refine ⟨_, rfl, (by show 1 ≤ sizeLine; decide), fun l3 h3 => ?_⟩
  have s3 := same_new h3 (.lst [nv one])
  refine ⟨l2, l3, _, _, rfl, rfl, s3 _ _ e2, upd_same, by rw [List.length_map]; show _ + 1 ≤ _; exact Nat.le_of_lt (small1000 (by omega)), fun lbs hlbs => ?_⟩
  have s4 := same_new hlbs (.lst ((o.map fun c => nv c.1) ++ [nv one]))
  have eb : upd (upd H2 l3 (.lst [nv one])) lbs (.lst ((o.map fun c => nv c.1) ++ [nv one])) lbs = some (.lst ((o.map fun c => nv c.1) ++ [nv one])) := upd_same
  have s14 := (s2.trans s3).trans s4
  generalize upd (upd H2 l3 (.lst [nv one])) lbs (.lst ((o.map fun c => nv c.1) ++ [nv one])) = H4 at s14 eb ⊢
  have em4 := s14 _ _ em
  have hab : bs[a0]? = some (bs[a0]'ha) := List.getElem?_eq_getElem _
  have hb0 := hb64 _ (List.mem_of_getElem? hab)
  have atm : atI (bs.map nv) (a0 : Int) = some (nv (bs[a0]'ha)) := at_nat (by rw [List.getElem?_map, hab]; rfl)
  have hab1 : bs[a1]? = some (bs[a1]'ha1) := List.getElem?_eq_getElem _
  have hb1 := hb64 _ (List.mem_of_getElem? hab1)
  have atm1 : atI (bs.map nv) (a1 : Int) = some (nv (bs[a1]'ha1)) := at_nat (by rw [List.getElem?_map, hab1]; rfl)
  generalize bs[a0]'ha = b0 at hb0 atm
  generalize bs[a1]'ha1 = b1 at hb1 atm1
  refine ⟨_, rfl, _, rfl, _, rfl, _, _, rfl, rfl, (by show 1 ≤ sizeLine; decide), fun t1 ht1 => ⟨(by show 1 ≤ sizeLine; decide), fun l5 h5 => ?_⟩⟩
  have s5 := (same_new ht1 (.tup [V.int 1])).trans (same_new h5 (.lst [V.int 1]))
  have et1 := same_new h5 (.lst [V.int 1]) _ _ (upd_same (H := H4) (a := t1) (o := .tup [V.int 1]))
  have el5 : upd (upd H4 t1 (.tup [V.int 1])) l5 (.lst [V.int 1]) l5 = some (.lst [V.int 1]) := upd_same
  generalize upd (upd H4 t1 (.tup [V.int 1])) l5 (.lst [V.int 1]) = H5 at s5 et1 el5 ⊢
  have em5 := s5 _ _ em4
  refine ⟨_, rfl, _, rfl, lm, _, _, _, rfl, rfl, SqL.of em5, atm, _, rfl, b0, 2 ^ e6, rfl, rfl, ?_⟩
  refine ⟨_, rfl, _, rfl, lm, _, _, _, rfl, rfl, SqL.of em5, atm, _, rfl, _, rfl, lm, _, _, _, rfl, rfl, SqL.of em5, atm, _, rfl, b0, 2 ^ e6, rfl, rfl, _, _, rfl, rfl, (by show 10 ≤ sizeLine; decide), fun lo hlo => ?_⟩
  have s6 := same_new hlo (.lst [nv one, V.int (-1 - (one : Int)), V.bl true, V.bl false, V.non, V.str (Str.ofString "1"), V.ref t1, V.ref l5, nv (b0 ||| 2 ^ e6), V.int ((b0 : Int) - ((b0 &&& 2 ^ e6 : Nat) : Int))])
  have elo : upd H5 lo (.lst [nv one, V.int (-1 - (one : Int)), V.bl true, V.bl false, V.non, V.str (Str.ofString "1"), V.ref t1, V.ref l5, nv (b0 ||| 2 ^ e6), V.int ((b0 : Int) - ((b0 &&& 2 ^ e6 : Nat) : Int))]) lo = some (.lst [nv one, V.int (-1 - (one : Int)), V.bl true, V.bl false, V.non, V.str (Str.ofString "1"), V.ref t1, V.ref l5, nv (b0 ||| 2 ^ e6), V.int ((b0 : Int) - ((b0 &&& 2 ^ e6 : Nat) : Int))]) := upd_same
  have ez : upd H5 lo (.lst [nv one, V.int (-1 - (one : Int)), V.bl true, V.bl false, V.non, V.str (Str.ofString "1"), V.ref t1, V.ref l5, nv (b0 ||| 2 ^ e6), V.int ((b0 : Int) - ((b0 &&& 2 ^ e6 : Nat) : Int))]) = upd H5 lo (.lst [nv one, V.int (-1 - (one : Int)), V.bl true, V.bl false, V.non, V.str (Str.ofString "1"), V.ref t1, V.ref l5, nv (b0 ||| 2 ^ e6), V.int ((b0 : Int) - ((b0 &&& 2 ^ e6 : Nat) : Int))]) := rfl
  obtain ⟨H6, eH6⟩ : ∃ X, upd H5 lo (.lst [nv one, V.int (-1 - (one : Int)), V.bl true, V.bl false, V.non, V.str (Str.ofString "1"), V.ref t1, V.ref l5, nv (b0 ||| 2 ^ e6), V.int ((b0 : Int) - ((b0 &&& 2 ^ e6 : Nat) : Int))]) = X := ⟨_, rfl⟩
  rw [eH6] at s6 elo
  have go : ∀ {G : Hp → Prop}, G H6 → G (upd H5 lo (.lst [nv one, V.int (-1 - (one : Int)), V.bl true, V.bl false, V.non, V.str (Str.ofString "1"), V.ref t1, V.ref l5, nv (b0 ||| 2 ^ e6), V.int ((b0 : Int) - ((b0 &&& 2 ^ e6 : Nat) : Int))])) := fun g => by rw [eH6]; exact g
  refine go (G := fun Hx => _) ?_
  have s46 := s5.trans s6
  have em6 := s6 _ _ em5
  have eb6 := s46 _ _ eb
  have epl6 : H6 pl = some (.lst (bs.map nv)) := s46 _ _ (s14 _ _ (sm _ _ hpl))
  have lbe : ((o.map fun c => nv c.1) ++ [nv one]).length = o.length + 1 := by rw [List.length_append, List.length_map]; rfl
  obtain ⟨j2, ej2, hj2⟩ := modn (cell / 1296) (o.length + 1) (by omega)
  obtain ⟨c2, hc2, hc2l⟩ : ∃ c : Nat, ((o.map fun c => nv c.1) ++ [nv one])[j2]? = some (nv c) ∧ c < 64 := by
    by_cases hj : j2 < o.length
    · rw [List.getElem?_append_left (by rw [List.length_map]; exact hj), List.getElem?_map, List.getElem?_eq_getElem hj]
      exact ⟨_, rfl, hof2 _ (List.getElem_mem hj)⟩
    · have : j2 = o.length := by omega
      subst this
      rw [List.getElem?_append_right (by rw [List.length_map]; exact Nat.le_refl _), List.length_map, Nat.sub_self]
      exact ⟨one, rfl, ho⟩
  refine ⟨_, rfl, _, rfl, _, rfl, _, _, rfl, rfl, ⟨by decide, by decide⟩, _, rfl, lbs, _, rfl, .inl (SqL.of eb6), _, _, nv j2, rfl, rfl, ?_, ?_, lbs, _, _, nv c2, rfl, rfl, SqL.of eb6, at_nat hc2, ?_⟩
  · show (0 : Int) < ((((o.map fun c => nv c.1) ++ [nv one]).length : Nat) : Int); rw [lbe]; omega
  · rw [lbe]; exact congrArg V.int ej2
  refine ⟨_, rfl, _, rfl, _, _, nv (a0 + 1), rfl, rfl, rfl, _, rfl, lm, _, rfl, .inl (SqL.of em6), _, _, nv a1, rfl, rfl, hlen, f1 _ _ ea1, pl, _, _, nv b1, rfl, rfl, SqL.of epl6, atm1, (by show 2 ≤ sizeLine; decide), fun lp hlp => ?_⟩
  have s7 := same_new hlp (.lst [nv c2, nv b1])
  refine ⟨lo, lp, _, _, rfl, rfl, s7 _ _ elo, upd_same, by show 10 + 2 ≤ sizeLine; decide, fun lq hlq => ?_⟩
  obtain ⟨x12, ex12⟩ : ∃ X : List V, [nv one, V.int (-1 - (one : Int)), V.bl true, V.bl false, V.non, V.str (Str.ofString "1"), V.ref t1, V.ref l5, nv (b0 ||| 2 ^ e6), V.int ((b0 : Int) - ((b0 &&& 2 ^ e6 : Nat) : Int))] ++ [nv c2, nv b1] = X := ⟨_, rfl⟩
  rw [ex12]
  have s8 := same_new hlq (.lst x12)
  have elq : upd (upd H6 lp (.lst [nv c2, nv b1])) lq (.lst x12) lq = some (.lst x12) := upd_same
  have s68 := s7.trans s8
  generalize upd (upd H6 lp (.lst [nv c2, nv b1])) lq (.lst x12) = H8 at s68 elq ⊢
  have em8 := s68 _ _ em6
  have s18 := (s14.trans s46).trans s68
  have x12l : x12.length = 12 := by rw [← ex12]; rfl
  obtain ⟨j3, ej3, hj3⟩ := modn (cell / 18) 12 (by decide)
  have hx3 : x12[j3]? = some (x12[j3]'(by omega)) := List.getElem?_eq_getElem _
  refine ⟨_, rfl, _, rfl, _, _, rfl, rfl, ⟨by decide, by decide⟩, _, _, nv j3, rfl, rfl, (by show (0 : Int) < 12; decide), congrArg V.int ej3, lq, _, _, x12[j3]'(by omega), rfl, rfl, SqL.of elq, at_nat hx3, _, rfl, _, rfl, lm, _, (a0 : Int), a0, rfl, rfl, em8, ?_, ?_⟩
  · unfold ixN
    rw [if_pos (by omega), if_pos (by rw [lb]; omega), Int.toNat_natCast]
  have et9 : H8 t1 = some (.tup [V.int 1]) := s68 _ _ (s6 _ _ et1)
  have el9 : H8 l5 = some (.lst [V.int 1]) := s68 _ _ (s6 _ _ el5)
  have nt : t1 ≠ lm := fun z => by rw [z, em8] at et9; cases et9
  have nl : l5 ≠ lm := ne_of_none' (H := H4) em4 (by
    have : upd H4 t1 (.tup [V.int 1]) l5 = none := h5
    by_cases z : l5 = t1
    · rw [z, upd_same] at this; cases this
    · rwa [upd_ne z] at this)
  obtain ⟨ds1, hd1⟩ := al_nats (xs := [V.int 1]) fun x hx => ⟨1, List.mem_singleton.mp hx, by decide⟩
  have all12 : ∀ x ∈ x12, ∃ d, Sh1 (upd H8 lm (.lst ((bs.map nv).set a0 (x12[j3]'(by omega))))) x d := fun x hx => by
    rw [← ex12] at hx
    simp only [List.mem_append, List.mem_cons, List.not_mem_nil, or_false] at hx
    rcases hx with (rfl | rfl | rfl | rfl | rfl | rfl | rfl | rfl | rfl | rfl) | (rfl | rfl)
    · exact ⟨_, .p (sh_nat one (by omega))⟩
    · exact ⟨_, .p (sh_int _ (by omega))⟩
    · exact ⟨_, .p (.bl true)⟩
    · exact ⟨_, .p (.bl false)⟩
    · exact ⟨_, .p .non⟩
    · exact ⟨_, .p (.str sh_one)⟩
    · exact ⟨_, .tup (by rw [upd_ne nt]; exact et9) (by decide) hd1⟩
    · exact ⟨_, .lst (by rw [upd_ne nl]; exact el9) (by decide) hd1⟩
    · exact ⟨_, .p (sh_nat _ (or_lt hb0 he6))⟩
    · have := Nat.and_le_left (n := b0) (m := 2 ^ e6)
      exact ⟨_, .p (sh_int _ (by omega))⟩
    · exact ⟨_, .p (sh_nat _ (by omega))⟩
    · exact ⟨_, .p (sh_nat _ (by omega))⟩
  obtain ⟨ds, hds⟩ := Al.of (R := Sh1 (upd H8 lm (.lst ((bs.map nv).set a0 (x12[j3]'(by omega)))))) ((bs.map nv).set a0 (x12[j3]'(by omega))) fun x hx => by
    rcases List.mem_or_eq_of_mem_set hx with z | rfl
    · obtain ⟨b, rfl, hb⟩ := hbn x z
      exact ⟨_, .p (sh_nat b hb)⟩
    · exact all12 _ (List.getElem_mem _)
  exact ⟨_, rfl, q _ _ _ ((sm.trans s18).upd hm _) (.lst upd_same (by rw [List.length_set, lb]; omega) hds)⟩
end
end My


set_option Elab.async false
set_option linter.all false
set_option maxRecDepth 100000
set_option maxHeartbeats 4000000
namespace My
open PySem PySem.Spec PyProof.Rows L2 GM GP
noncomputable def sp_law (K : PySem.W.Frag) : Sp := fun vs H Q _ => ∃ (a : Addr) (ns : List Int), vs = [.ref a] ∧ SqL K H a (ns.map V.int) ∧ ns.length ≤ 63 ∧ ∀ H', Q (.bl true) H'
theorem seq_join {c : TT} {t u : TS} {D : Ends} {σ : L2.St} {H : Hp} (M : L2.St → Hp → Prop) (h : (∀ σ' H', M σ' H' → u D σ' H') → tIfS c t tNext { D with nx := u D } σ H) (h2 : ∀ σ' H', M σ' H' → u D σ' H') : tSeq (tIfS c t tNext) u D σ H := h h2
theorem way_nil {tk : Nat} : IsWay tk [] [] := trivial
section
variable {P : Program} {w : World} {K : PySem.W.Frag} {mg : Str → Option Value} {base : Heap}
theorem ok_law {f : Addr} {fd : FuncData} (F : Fun K "law" "law" s_law f fd) (m_self : mg "law" = some (.ref f)) (m_range : mg "range" = none) (m_list : mg "list" = none) (m_repr : mg "repr" = none) (m_len : mg "len" = none) (m_isinstance : mg "isinstance" = none) (m_bool : mg "bool" = none)
    (D_L_offers : DefOk P w K mg base 3 "_law_offers" ["_law_script", "_law_at", "_law_many", "_law_bidders", "_law_most"] [] (sp_L_offers K))
    (D_L_copies : DefOk P w K mg base 1 "_law_copies" ["_law_offers_here"] [] (sp_L_copies K))
    (D_P_plan_worth : DefOk P w K mg base 2 "plan_worth" ["offers", "plan"] [] (sp_P_plan_worth K))
    (D_L_spoilt : DefOk P w K mg base 1 "_law_spoilt" ["_law_offers_here", "_law_plan", "_law_cell", "_law_part"] [] (sp_L_spoilt K))
    (D_P_is_plan : DefOk P w K mg base 3 "is_plan" ["many", "offers", "plan"] [] (sp_P_is_plan K))
    (D_L_cell_at : DefOk P w K mg base 1 "_law_cell_at" ["_law_script", "_law_k"] [] (sp_L_cell_at K))
    (D_L_whole : DefOk P w K mg base 1 "_law_whole" ["_law_found"] [] (sp_L_whole K))
    (D_L_is_plan : DefOk P w K mg base 2 "_law_is_plan" ["_law_offers_here", "_law_thing"] [] (sp_L_is_plan K)) : FnOk P w K mg base CX0 4 f fd ["_law_script"] (sp_law K) := by
  refine F.okQ sc_law (fun vs H Q E h => ?_) (fun cdv A outer s H vs Q E hr h => ?_)
  · obtain ⟨a, ns, rfl, _⟩ := h; rfl
  obtain ⟨a, ns, rfl, hS, h63, q⟩ := h
  refine ⟨_, (R.pss_cons (R.ps_set (i := 1) sc_law.nd rfl (Or.inl rfl) (R.pe_op (opE op_mod) (R.pe_callD D_L_cell_at hr (by decide) rfl (R.pa_c (R.pv 0) (R.pa_c R.pe_int R.pa_nil))) R.pe_int))
    (R.pss_cons (R.ps_set (i := 2) sc_law.nd rfl (Or.inl rfl) (R.pe_callD D_L_offers hr (by decide) rfl (R.pa_c (R.pv 0) (R.pa_c R.pe_int (R.pa_c (R.pv 1) (R.pa_c (R.pe_op (opE op_mod) (R.pe_callD D_L_cell_at hr (by decide) rfl (R.pa_c (R.pv 0) (R.pa_c R.pe_int R.pa_nil))) R.pe_int) (R.pa_c R.pe_int R.pa_nil)))))))
    (R.pss_cons (R.ps_set (i := 3) sc_law.nd rfl (Or.inl rfl) (R.pe_lst R.pa_nil))
    (R.pss_cons (R.ps_set (i := 4) sc_law.nd rfl (Or.inl rfl) (R.pe_lst R.pa_nil))
    (R.pss_cons (R.ps_set (i := 5) sc_law.nd rfl (Or.inl rfl) R.pe_int)
    (R.pss_cons (R.ps_set (i := 6) sc_law.nd rfl (Or.inl rfl) R.pe_int)
    (R.pss_cons (R.ps_for PassesOwn.never rfl (R.pi_range1 rfl m_range (R.pa_c (R.pe_cB call_len_seq rfl m_len PySem.boot_len (R.pa_c (R.pv 2) R.pa_nil)) R.pa_nil)) (R.pg_name (i := 7) sc_law.nd rfl (Or.inl rfl)) (R.pss_cons (R.ps_set (i := 8) sc_law.nd rfl (Or.inl rfl) (R.pe_tup (R.pa_c R.pe_int (R.pa_c R.pe_int R.pa_nil))))
      (R.pss_cons (R.ps_if (R.pt (R.pw_and (R.pt_cmpR op_gt (R.pe_cB call_len_seq rfl m_len PySem.boot_len (R.pa_c (R.pe_ix (R.ixL K) (R.pv 2) (R.pv 7) (fun _ _ => rfl)) R.pa_nil)) R.pe_int (nomark _)) (R.pw_and1 (R.pt_cmpR op_gt (R.pe_op op_mod (R.pe_callD D_L_cell_at hr (by decide) rfl (R.pa_c (R.pv 0) (R.pa_c (R.pe_op (opE0 op_add) R.pe_int (R.pv 7)) R.pa_nil))) R.pe_int) R.pe_int (nomark _))))) (R.pss_one (R.ps_set (i := 8) sc_law.nd rfl (Or.inl rfl) (R.pe_ix (R.ixL K) (R.pe_ix (R.ixL K) (R.pv 2) (R.pv 7) (fun _ _ => rfl)) (R.pe_op (opE op_mod) (R.pe_op op_fdiv (R.pe_callD D_L_cell_at hr (by decide) rfl (R.pa_c (R.pv 0) (R.pa_c (R.pe_op (opE0 op_add) R.pe_int (R.pv 7)) R.pa_nil))) R.pe_int) (R.pe_cB call_len_seq rfl m_len PySem.boot_len (R.pa_c (R.pe_ix (R.ixL K) (R.pv 2) (R.pv 7) (fun _ _ => rfl)) R.pa_nil))) (fun _ _ => rfl)))) R.pss_nil)
      (R.pss_cons (R.ps_expr (R.pe_append (R.pv 4) (R.pa_c (R.pe_ix (R.ixT K) (R.pv 8) R.pe_int (fun _ _ => rfl)) R.pa_nil)))
      (R.pss_cons (R.ps_if (R.pt_cmpR op_gt (R.pe_op op_andN (R.pv 5) (R.pe_ix (R.ixT K) (R.pv 8) R.pe_int (fun _ _ => rfl))) R.pe_int (nomark _)) (R.pss_one (R.ps_set (i := 8) sc_law.nd rfl (Or.inl rfl) (R.pe_tup (R.pa_c R.pe_int (R.pa_c R.pe_int R.pa_nil))))) R.pss_nil)
      (R.pss_cons (R.ps_expr (R.pe_append (R.pv 3) (R.pa_c (R.pe_ix (R.ixT K) (R.pv 8) R.pe_int (fun _ _ => rfl)) R.pa_nil)))
      (R.pss_cons (R.ps_set (i := 5) sc_law.nd rfl (Or.inl rfl) (R.pe_op op_orN (R.pv 5) (R.pe_ix (R.ixT K) (R.pv 8) R.pe_int (fun _ _ => rfl))))
      (R.pss_one (R.ps_set (i := 6) sc_law.nd rfl (Or.inl rfl) (R.pe_op op_add (R.pv 6) (R.pe_ix (R.ixT K) (R.pv 8) R.pe_int (fun _ _ => rfl))))))))))))
    (R.pss_cons (R.ps_set (i := 9) sc_law.nd rfl (Or.inl rfl) (R.pe_callD D_L_copies hr (by decide) rfl (R.pa_c (R.pv 2) R.pa_nil)))
    (R.pss_cons (R.ps_set (i := 10) sc_law.nd rfl (Or.inl rfl) (R.pe_cTy call_list_of rfl m_list (boot_list) (R.pa_c (R.pv 3) R.pa_nil)))
    (R.pss_cons (R.ps_set (i := 11) sc_law.nd rfl (Or.inl rfl) (R.pe_callD D_P_plan_worth hr (by decide) rfl (R.pa_c (R.pv 9) (R.pa_c (R.pv 10) R.pa_nil))))
    (R.pss_cons (R.ps_if (R.pt (R.pw_or (R.pt_not (R.pt_val (R.pe_callD D_L_whole hr (by decide) rfl (R.pa_c (R.pv 11) R.pa_nil)))) (R.pw_or (R.pt_cmpR op_ne (R.pv 11) (R.pv 6) (nomark _)) (R.pw_or (R.pt_cmpR op_isnotB (R.pe_callD D_P_is_plan hr (by decide) rfl (R.pa_c (R.pv 1) (R.pa_c (R.pv 9) (R.pa_c (R.pv 10) R.pa_nil)))) R.pe_bl (nomark _)) (R.pw_or1 (R.pt_cmpR (op_neI hr.units0) (R.pv 10) (R.pv 3) (nomark _))))))) (R.pss_one (R.ps_ret R.pe_bl)) R.pss_nil)
    (R.pss_cons (R.ps_set (i := 12) sc_law.nd rfl (Or.inl rfl) (R.pe_callD D_L_spoilt hr (by decide) rfl (R.pa_c (R.pv 2) (R.pa_c (R.pv 4) (R.pa_c (R.pe_callD D_L_cell_at hr (by decide) rfl (R.pa_c (R.pv 0) (R.pa_c R.pe_int R.pa_nil))) (R.pa_c (R.pe_callD D_L_cell_at hr (by decide) rfl (R.pa_c (R.pv 0) (R.pa_c R.pe_int R.pa_nil))) R.pa_nil))))))
    (R.pss_cons (R.ps_set (i := 13) sc_law.nd rfl (Or.inl rfl) (R.pe_cB (call_reprV hr.gd hr.units) rfl m_repr (boot_repr) (R.pa_c (R.pv 12) R.pa_nil)))
    (R.pss_cons (R.ps_set (i := 14) sc_law.nd rfl (Or.inl rfl) (R.pe_callD D_P_is_plan hr (by decide) rfl (R.pa_c (R.pv 1) (R.pa_c (R.pv 9) (R.pa_c (R.pv 12) R.pa_nil)))))
    (R.pss_cons (R.ps_if (R.pt (R.pw_or (R.pt_cmpR (op_neHall hr.units) (R.pv 9) (R.pv 2) (nomark _)) (R.pw_or1 (R.pt_cmpR op_ne (R.pe_cB (call_reprV hr.gd hr.units) rfl m_repr (boot_repr) (R.pa_c (R.pv 12) R.pa_nil)) (R.pv 13) (nomark _))))) (R.pss_one (R.ps_ret R.pe_bl)) R.pss_nil)
    (R.pss_one (R.ps_ret (R.pe_and (R.pe_isi .bl rfl m_isinstance rfl m_bool (R.pv 14)) (R.pe_one (R.pe_cmpR op_eq (R.pv 14) (R.pe_callD D_L_is_plan hr (by decide) rfl (R.pa_c (R.pv 2) (R.pa_c (R.pv 12) R.pa_nil))) (nomark _))))))))))))))))))))), ?_⟩
  obtain ⟨n, en, hn⟩ : ∃ n : Nat, cellAt ns 0 % 5 = (n : Int) ∧ n < 5 := ⟨(cellAt ns 0 % 5).toNat, by omega, by omega⟩
  obtain ⟨b, eb, hb⟩ : ∃ n : Nat, cellAt ns 1 % 5 = (n : Int) ∧ n < 5 := ⟨(cellAt ns 1 % 5).toNat, by omega, by omega⟩
  refine ⟨_, rfl, a, ns, _, rfl, hS, by decide, _, _, nv n, rfl, rfl, (by show (0 : Int) < 5; decide), congrArg V.int en, ?_⟩
  refine ⟨_, rfl, _, rfl, _, rfl, a, ns, _, rfl, hS, by decide, _, _, nv b, rfl, rfl, (by show (0 : Int) < 5; decide), congrArg V.int eb, ?_⟩
  refine ⟨a, ns, 4, n, b, 4, rfl, hS, by omega, by omega, by decide, fun l H2 os as s2 hl hH hol hok => ?_⟩
  have hl4 : os.length ≤ 4 := by omega
  have p16 : 2 ^ n ≤ 64 := (pow7 (show n < 7 by omega)).1
  have hofs : ∀ o ∈ os, o.length ≤ 4 ∧ ∀ c ∈ o, c.1 < 64 := fun o ho => ⟨(hok o ho).few, fun c hc => Nat.lt_of_lt_of_le ((hok o ho).part c hc).2 p16⟩
  have al : (as.map V.ref).length = os.length := by rw [List.length_map, hH.2.1]
  have hS2 := s2.seq hS
  refine ⟨(by show 0 ≤ sizeLine; decide), fun lp hlp => ⟨(by show 0 ≤ sizeLine; decide), fun ll hll => ?_⟩⟩
  have hll0 : H2 ll = none := (same_new hlp (.lst [])).free hll
  have npl : lp ≠ ll := ne_of_none upd_same hll
  have s3 : Same H2 (upd (upd H2 lp (.lst [])) ll (.lst [])) := (same_new hlp _).trans (same_new hll _)
  have elp : upd (upd H2 lp (.lst [])) ll (.lst []) lp = some (.lst []) := by rw [upd_ne npl]; exact upd_same
  have ell : upd (upd H2 lp (.lst [])) ll (.lst []) ll = some (.lst []) := upd_same
  generalize upd (upd H2 lp (.lst [])) ll (.lst []) = H3 at s3 elp ell ⊢
  refine ⟨_, rfl, l, _, rfl, .inl (SqL.of (s3 _ _ hH.1)), _, rfl, by omega, by rw [al]; omega, ?_⟩
  rw [Int.toNat_natCast, al]
  refine for_range (n := os.length) (lo := 0) (fun k σ H' => Same H2 H' ∧ (∃ (u : Way) (bs : List Nat), H' lp = some (.lst (u.map fun c => V.int (c.1 : Int))) ∧ H' ll = some (.lst (bs.map nv)) ∧ bs.length = k ∧ u.length = k ∧ (∀ x ∈ bs, x < 64) ∧ (∀ cs, IsWay (taken u) (os.drop k) cs → IsWay 0 os (u ++ cs)) ∧ ∃ y7 y8, σ = [some (.ref a), some (nv n), some (.ref l), some (.ref lp), some (.ref ll), some (nv (taken u)), some (.int (worth u)), y7, y8, none, none, none, none, none, none])) ?_ ?_ ?_
  · exact ⟨s3, [], [], elp, ell, rfl, rfl, (fun x hx => by cases hx), (fun cs h => h), _, _, rfl⟩
  · rintro k σ H4 hk ⟨s4, u, bs, eu, ebs, hbl, hul, hb64, hstep, y7, y8, rfl⟩
    rw [Int.zero_add]
    have hH4 := hH.same s4
    have hS4 := s4.seq hS2
    have hak : as[k]? = some (as[k]'(by rw [hH.2.1]; exact hk)) := List.getElem?_eq_getElem _
    have ho : os[k]? = some (os[k]'hk) := List.getElem?_eq_getElem _
    have ed : os.drop k = os[k]'hk :: os.drop (k + 1) := List.drop_eq_getElem_cons hk
    have atl : atI (as.map V.ref) (k : Int) = some (V.ref (as[k]'(by rw [hH.2.1]; exact hk))) := at_nat (by rw [List.getElem?_map, hak]; rfl)
    obtain ⟨ps, hP0⟩ := hH.2.2 k _ _ hak ho
    have hoo := hok _ (List.mem_of_getElem? ho)
    generalize os[k]'hk = o at ho ed hP0 hoo
    generalize as[k]'(by rw [hH.2.1]; exact hk) = x at hak atl hP0
    have few := hoo.few
    have hpl := hP0.2.1
    refine ⟨(by show 2 ≤ sizeLine; decide), fun t ht => ?_⟩
    have s5 := same_new ht (.tup [V.int 0, V.int 0])
    have s25 := s4.trans s5
    have et5 : upd H4 t (.tup [V.int 0, V.int 0]) t = some (.tup [V.int 0, V.int 0]) := upd_same
    have eu5 := s5 _ _ eu
    have eb5 := s5 _ _ ebs
    generalize upd H4 t (.tup [V.int 0, V.int 0]) = H5 at s25 et5 eu5 eb5 s5 ⊢
    dsimp only [gName]
    refine seq_join (fun σ' H' => ∃ (t : Addr) (c : Nat × Int), σ' = [some (.ref a), some (nv n), some (.ref l), some (.ref lp), some (.ref ll), some (nv (taken u)), some (.int (worth u)), some (nv k), some (.ref t), none, none, none, none, none, none] ∧ Same H5 H' ∧ H' t = some (.tup [.int (c.1 : Int), .int c.2]) ∧ (c = (0, 0) ∨ c ∈ o)) (fun join => ?_) (fun σ' H' hM => ?_)
    · have hP5 := hP0.same s25
      refine ⟨_, rfl, _, rfl, l, _, _, _, rfl, rfl, SqL.of (s25 _ _ hH.1), atl, x, _, rfl, .inl (SqL.of hP5.1), _, _, rfl, rfl, _, rfl, ?_⟩
      have pml : (ps.map V.ref).length = o.length := by rw [List.length_map, hpl]
      rw [pml]
      by_cases h0 : o.length = 0
      · rw [show decide (((o.length : Nat) : Int) > 0) = false from decide_eq_false (by omega)]
        exact iteF (join _ _ ⟨t, (0, 0), rfl, Same.refl _, et5, .inl rfl⟩)
      rw [show decide (((o.length : Nat) : Int) > 0) = true from decide_eq_true (by omega)]
      refine iteT ?_
      have hS5 := s25.seq hS2
      refine ⟨_, rfl, _, rfl, _, _, nv (25 + k), rfl, rfl, rfl, a, ns, _, rfl, hS5, by show (0 : Int) ≤ ((25 + k : Nat) : Int); omega, _, _, rfl, rfl, (by show (0 : Int) < 5; decide), _, _, rfl, rfl, _, rfl, ite2 (fun _ => ?_) (fun _ => ?_)⟩
      · obtain ⟨j, ej, hj⟩ := modn (cellAt ns ((25 + k : Nat) : Int) / 5) o.length (by omega)
        have hoj : o[j]? = some (o[j]'hj) := List.getElem?_eq_getElem _
        have hpj : ps[j]? = some (ps[j]'(by omega)) := List.getElem?_eq_getElem _
        refine ⟨_, rfl, _, rfl, l, _, _, _, rfl, rfl, SqL.of (s25 _ _ hH.1), atl, _, rfl, _, rfl, _, _, nv (25 + k), rfl, rfl, rfl, a, ns, _, rfl, hS5, by show (0 : Int) ≤ ((25 + k : Nat) : Int); omega, _, _, rfl, rfl, ⟨by decide, by decide⟩, _, rfl, _, rfl, l, _, _, _, rfl, rfl, SqL.of (s25 _ _ hH.1), atl, x, _, rfl, .inl (SqL.of hP5.1), _, _, nv j, rfl, rfl, ?_, ?_, x, _, _, _, rfl, rfl, SqL.of hP5.1, at_nat (by rw [List.getElem?_map, hpj]; rfl), ?_⟩
        · show (0 : Int) < (((ps.map V.ref).length : Nat) : Int); rw [pml]; omega
        · rw [pml]; exact congrArg V.int ej
        · exact join _ _ ⟨_, o[j]'hj, rfl, Same.refl _, hP5.2.2 j _ _ hpj hoj, .inr (List.getElem_mem hj)⟩
      · exact join _ _ ⟨t, (0, 0), rfl, Same.refl _, et5, .inl rfl⟩
    obtain ⟨t, c, rfl, s6, et, hco⟩ := hM
    have eu6 := s6 _ _ eu5
    have eb6 := s6 _ _ eb5
    have s26 := s25.trans s6
    have hc64 : c.1 < 64 := by
      rcases hco with rfl | z
      · decide
      · exact Nat.lt_of_lt_of_le (hoo.part c z).2 p16
    refine ⟨_, rfl, .inl ⟨rfl, _, SqL.of eb6⟩, _, rfl, t, _, _, _, rfl, rfl, SqT.of et, at_nat (k := 0) rfl, ll, _, _, rfl, rfl, eb6, by rw [List.length_map, hbl]; exact small1000 (by omega), ?_⟩
    have s27 : Same H2 (upd H' ll (.lst (bs.map nv ++ [V.int (c.1 : Int)]))) := s26.upd hll0 _
    have et7 : upd H' ll (.lst (bs.map nv ++ [V.int (c.1 : Int)])) t = some (.tup [.int (c.1 : Int), .int c.2]) := by rw [upd_ne (fun z => by rw [z, eb6] at et; cases et)]; exact et
    have eu7 : upd H' ll (.lst (bs.map nv ++ [V.int (c.1 : Int)])) lp = some (.lst (u.map fun c => V.int (c.1 : Int))) := by rw [upd_ne npl]; exact eu6
    have eb7 : upd H' ll (.lst (bs.map nv ++ [V.int (c.1 : Int)])) ll = some (.lst ((bs ++ [c.1]).map nv)) := by rw [upd_same, List.map_append]; rfl
    generalize upd H' ll (.lst (bs.map nv ++ [V.int (c.1 : Int)])) = H7 at s27 et7 eu7 eb7 ⊢
    dsimp only
    refine seq_join (fun σ' H' => ∃ (t : Addr) (c : Nat × Int), σ' = [some (.ref a), some (nv n), some (.ref l), some (.ref lp), some (.ref ll), some (nv (taken u)), some (.int (worth u)), some (nv k), some (.ref t), none, none, none, none, none, none] ∧ Same H7 H' ∧ H' t = some (.tup [.int (c.1 : Int), .int c.2]) ∧ Opt (taken u) o c) (fun join => ?_) (fun σ' H' hM => ?_)
    · refine ⟨_, rfl, _, rfl, t, _, _, _, rfl, rfl, SqT.of et7, at_nat (k := 0) rfl, taken u, c.1, rfl, rfl, _, _, rfl, rfl, _, rfl, ite2 (fun hc => ?_) (fun hc => ?_)⟩
      · refine ⟨(by show 2 ≤ sizeLine; decide), fun t2 ht2 => ?_⟩
        exact join _ _ ⟨t2, (0, 0), rfl, same_new ht2 _, upd_same, .inl rfl⟩
      · have hc' : ¬ ((taken u &&& c.1 : Nat) : Int) > 0 := of_decide_eq_false (Bool.eq_false_iff.mpr hc)
        refine join _ _ ⟨t, c, rfl, Same.refl _, et7, ?_⟩
        rcases hco with z | z
        · exact .inl z
        · exact .inr ⟨z, by omega⟩
    obtain ⟨t, d, rfl, s8, et8, hop⟩ := hM
    have eu8 := s8 _ _ eu7
    have eb8 := s8 _ _ eb7
    refine ⟨_, rfl, .inl ⟨rfl, _, SqL.of eu8⟩, _, rfl, t, _, _, _, rfl, rfl, SqT.of et8, at_nat (k := 0) rfl, lp, _, _, rfl, rfl, eu8, by rw [List.length_map, hul]; exact small1000 (by omega), ?_⟩
    have s29 := (s27.trans s8).upd hlp (.lst ((u.map fun c => V.int (c.1 : Int)) ++ [V.int (d.1 : Int)]))
    have et9 : ∀ zs, upd H' lp (.lst zs) t = some (.tup [.int (d.1 : Int), .int d.2]) := fun zs => by rw [upd_ne (fun z => by rw [z, eu8] at et8; cases et8)]; exact et8
    refine ⟨_, rfl, _, rfl, t, _, _, _, rfl, rfl, SqT.of (et9 _), at_nat (k := 0) rfl, taken u, d.1, rfl, rfl, ?_⟩
    refine ⟨_, rfl, _, rfl, t, _, _, _, rfl, rfl, SqT.of (et9 _), at_nat (k := 1) rfl, _, _, rfl, rfl, ?_⟩
    refine ⟨s29, u ++ [d], bs ++ [c.1], by rw [upd_same, List.map_append]; rfl, by rw [upd_ne (Ne.symm npl)]; exact eb8, by rw [List.length_append, hbl]; rfl, by rw [List.length_append, hul]; rfl, fun x hx => ?_, fun cs hcs => ?_, some (nv k), some (.ref t), ?_⟩
    · rcases List.mem_append.mp hx with hx | hx
      · exact hb64 x hx
      · rw [List.mem_singleton.mp hx]; exact hc64
    · rw [List.append_assoc]
      refine hstep _ ?_
      rw [ed]
      rw [taken_app] at hcs
      exact ⟨hop, hcs⟩
    · rw [taken_app, worth_app, show worth [d] = d.2 by unfold worth; simp]; rfl
  · rintro σ H4 ⟨s4, u, bs, eu, ebs, hbl, hul, hb64, hstep, y7, y8, rfl⟩
    have hW := hstep [] (by rw [List.drop_length]; exact way_nil)
    rw [List.append_nil] at hW
    have hH4 := hH.same s4
    have hS4 := s4.seq hS2
    have hG : ∀ o ∈ os, o.length ≤ 90 ∧ GoodO o := fun o ho => ⟨Nat.le_trans (hok o ho).few (by decide), (hok o ho).good⟩
    have hf90 : ∀ o ∈ os, o.length ≤ 90 := fun o ho => (hG o ho).1
    refine ⟨_, rfl, l, os, as, rfl, hH4, by omega, fun r H5 rs s5 _ _ _ _ hB => ?_⟩
    have hH5 := hH4.same s5
    have eu5 := s5 _ _ eu
    refine ⟨_, rfl, lp, _, rfl, .inl (SqL.of eu5), fun lg hlg => ?_⟩
    have s6 := same_new hlg (.lst (u.map fun c => V.int (c.1 : Int)))
    have eg6 : upd H5 lg (.lst (u.map fun c => V.int (c.1 : Int))) lg = some (.lst (u.map fun c => V.int (c.1 : Int))) := upd_same
    generalize upd H5 lg (.lst (u.map fun c => V.int (c.1 : Int))) = H6 at s6 eg6 ⊢
    have hB6 := hB.same s6
    refine ⟨_, rfl, _, rfl, r, lg, os, rs, u, rfl, hB6, by omega, hG, eg6, hW, fun H7 s7 => ?_⟩
    have eg7 := s7 _ _ eg6
    refine ⟨_, rfl, _, .int, rfl, TyOf.int _, _, rfl, ?_⟩
    rw [decide_eq_true rfl]
    refine iteF ?_
    refine ⟨_, rfl, _, rfl, rfl, _, rfl, ?_⟩
    rw [decide_eq_true rfl]
    refine iteF ?_
    have ulen : (u.map fun c => V.int (c.1 : Int)).length = os.length := by rw [List.length_map, hul]
    have ha : (decide ((u.map fun c => V.int (c.1 : Int)).length = os.length) && okP 0 os (u.map fun c => V.int (c.1 : Int))) = true := by
      rw [ok_way hW, decide_eq_true ulen]; rfl
    refine ⟨_, rfl, _, rfl, _, rfl, nv n, .ref lg, r, os, rs, true, rfl, hB6.same s7, hf90, .inr ⟨lg, _, rfl, eg7, by omega, fun x hx => ?_, ha.symm⟩, fun H8 s8 => ⟨true, true, rfl, rfl, _, rfl, iteF ?_⟩⟩
    · obtain ⟨c, _, rfl⟩ := List.mem_map.mp hx
      exact ⟨.int, TyOf.int _, .inl ⟨rfl, _, rfl⟩⟩
    have mm : (u.map fun c : Nat × Int => V.int (c.1 : Int)) = (u.map fun c => (c.1 : Int)).map V.int := by rw [List.map_map]; rfl
    have s58 := (s6.trans s7).trans s8
    refine ⟨_, rfl, _, rfl, lg, lp, u.map fun c => (c.1 : Int), u.map fun c => (c.1 : Int), rfl, rfl, SqL.of (by rw [← mm]; exact s8 _ _ eg7), SqL.of (by rw [← mm]; exact s58 _ _ eu5), _, rfl, ?_⟩
    rw [if_pos rfl, decide_eq_true rfl]
    refine iteF ?_
    have s48 := s5.trans s58
    have hS8 := s48.seq hS4
    refine ⟨_, rfl, _, rfl, _, rfl, a, ns, _, rfl, hS8, by decide, _, rfl, a, ns, _, rfl, hS8, by decide, ?_⟩
    refine ⟨l, ll, os, as, bs, _, _, rfl, hH4.same s48, hl4, hofs, s48 _ _ ebs, hbl, hb64, fun v d H9 s9 hSh => ?_⟩
    obtain ⟨ans, hPl⟩ := plan_of (K := K) os hSh
    have hB9 := (hB.same s58).same s9
    have hH9 := (hH4.same s48).same s9
    refine ⟨_, rfl, v, d, rfl, hSh, ?_⟩
    refine ⟨_, rfl, _, rfl, _, rfl, nv n, v, r, os, rs, ans, rfl, hB9, hf90, hPl, fun H10 s10 => ?_⟩
    refine ⟨_, rfl, _, rfl, r, l, os, rs, as, rfl, rfl, hB9.same s10, hH9.same s10, _, rfl, iteF ?_⟩
    refine ⟨_, rfl, v, d, rfl, hSh.same s10, _, rfl, rfl, _, rfl, ?_⟩
    rw [decide_eq_true rfl]
    refine iteF ?_
    refine ⟨_, rfl, _, .bl, rfl, TyOf.bl _, _, rfl, iteT ?_⟩
    refine ⟨_, rfl, _, rfl, _, rfl, v, l, os, as, ans, rfl, hH9.same s10, by omega, hf90, hPl.same s10, fun H11 s11 => ⟨rfl, ?_⟩⟩
    rw [decide_eq_true rfl]
    exact q _
end
theorem all_mk {l : PySem.W.OpenLaw} {w : World} {K : PySem.W.Frag} {h : Heap} {mg : Str → Option Value} {fa : Addr} (X : K.In h) (G : h.Ns mainGlobals mg) (hfa : mg "law" = some (.ref fa))
    {f0 : Addr} {od0 an0 : Option Addr} {sl0 : Array (Option Value)} {oc0 kV0 dc0 pm0 cd0 ct0 : Value}
    (a0 : PySem.W.nsIn K mainGlobals "is_whole" = some (some (.ref f0))) (l0 : K.lookup f0 = some ⟨oc0, od0, .func (PySem.W.fnOf "is_whole" "is_whole" (defArgs s_P_is_whole) (defBody s_P_is_whole) (defScope s_P_is_whole) .none kV0 dc0 pm0 an0 cd0 ct0), sl0⟩) (c0 : PySem.W.codeIn K cd0 "is_whole" = true) (k0 : PySem.W.keepIn K (.ref f0) = true)
    {f1 : Addr} {od1 an1 : Option Addr} {sl1 : Array (Option Value)} {oc1 kV1 dc1 pm1 cd1 ct1 : Value}
    (a1 : PySem.W.nsIn K mainGlobals "apart" = some (some (.ref f1))) (l1 : K.lookup f1 = some ⟨oc1, od1, .func (PySem.W.fnOf "apart" "apart" (defArgs s_P_apart) (defBody s_P_apart) (defScope s_P_apart) .none kV1 dc1 pm1 an1 cd1 ct1), sl1⟩) (c1 : PySem.W.codeIn K cd1 "apart" = true) (k1 : PySem.W.keepIn K (.ref f1) = true)
    {f2 : Addr} {od2 an2 : Option Addr} {sl2 : Array (Option Value)} {oc2 kV2 dc2 pm2 cd2 ct2 : Value}
    (a2 : PySem.W.nsIn K mainGlobals "is_plan" = some (some (.ref f2))) (l2 : K.lookup f2 = some ⟨oc2, od2, .func (PySem.W.fnOf "is_plan" "is_plan" (defArgs s_P_is_plan) (defBody s_P_is_plan) (defScope s_P_is_plan) .none kV2 dc2 pm2 an2 cd2 ct2), sl2⟩) (c2 : PySem.W.codeIn K cd2 "is_plan" = true) (k2 : PySem.W.keepIn K (.ref f2) = true)
    {f3 : Addr} {od3 an3 : Option Addr} {sl3 : Array (Option Value)} {oc3 kV3 dc3 pm3 cd3 ct3 : Value}
    (a3 : PySem.W.nsIn K mainGlobals "may_get" = some (some (.ref f3))) (l3 : K.lookup f3 = some ⟨oc3, od3, .func (PySem.W.fnOf "may_get" "may_get" (defArgs s_P_may_get) (defBody s_P_may_get) (defScope s_P_may_get) .none kV3 dc3 pm3 an3 cd3 ct3), sl3⟩) (c3 : PySem.W.codeIn K cd3 "may_get" = true) (k3 : PySem.W.keepIn K (.ref f3) = true)
    {f4 : Addr} {od4 an4 : Option Addr} {sl4 : Array (Option Value)} {oc4 kV4 dc4 pm4 cd4 ct4 : Value}
    (a4 : PySem.W.nsIn K mainGlobals "plan_worth" = some (some (.ref f4))) (l4 : K.lookup f4 = some ⟨oc4, od4, .func (PySem.W.fnOf "plan_worth" "plan_worth" (defArgs s_P_plan_worth) (defBody s_P_plan_worth) (defScope s_P_plan_worth) .none kV4 dc4 pm4 an4 cd4 ct4), sl4⟩) (c4 : PySem.W.codeIn K cd4 "plan_worth" = true) (k4 : PySem.W.keepIn K (.ref f4) = true)
    {f5 : Addr} {od5 an5 : Option Addr} {sl5 : Array (Option Value)} {oc5 kV5 dc5 pm5 cd5 ct5 : Value}
    (a5 : PySem.W.nsIn K mainGlobals "amount_of" = some (some (.ref f5))) (l5 : K.lookup f5 = some ⟨oc5, od5, .func (PySem.W.fnOf "amount_of" "amount_of" (defArgs s_P_amount_of) (defBody s_P_amount_of) (defScope s_P_amount_of) .none kV5 dc5 pm5 an5 cd5 ct5), sl5⟩) (c5 : PySem.W.codeIn K cd5 "amount_of" = true) (k5 : PySem.W.keepIn K (.ref f5) = true)
    {f6 : Addr} {od6 an6 : Option Addr} {sl6 : Array (Option Value)} {oc6 kV6 dc6 pm6 cd6 ct6 : Value}
    (a6 : PySem.W.nsIn K mainGlobals "_law_cell_at" = some (some (.ref f6))) (l6 : K.lookup f6 = some ⟨oc6, od6, .func (PySem.W.fnOf "_law_cell_at" "_law_cell_at" (defArgs s_L_cell_at) (defBody s_L_cell_at) (defScope s_L_cell_at) .none kV6 dc6 pm6 an6 cd6 ct6), sl6⟩) (c6 : PySem.W.codeIn K cd6 "_law_cell_at" = true) (k6 : PySem.W.keepIn K (.ref f6) = true)
    {f7 : Addr} {od7 an7 : Option Addr} {sl7 : Array (Option Value)} {oc7 kV7 dc7 pm7 cd7 ct7 : Value}
    (a7 : PySem.W.nsIn K mainGlobals "_law_whole" = some (some (.ref f7))) (l7 : K.lookup f7 = some ⟨oc7, od7, .func (PySem.W.fnOf "_law_whole" "_law_whole" (defArgs s_L_whole) (defBody s_L_whole) (defScope s_L_whole) .none kV7 dc7 pm7 an7 cd7 ct7), sl7⟩) (c7 : PySem.W.codeIn K cd7 "_law_whole" = true) (k7 : PySem.W.keepIn K (.ref f7) = true)
    {f8 : Addr} {od8 an8 : Option Addr} {sl8 : Array (Option Value)} {oc8 kV8 dc8 pm8 cd8 ct8 : Value}
    (a8 : PySem.W.nsIn K mainGlobals "_law_offer_by" = some (some (.ref f8))) (l8 : K.lookup f8 = some ⟨oc8, od8, .func (PySem.W.fnOf "_law_offer_by" "_law_offer_by" (defArgs s_L_offer_by) (defBody s_L_offer_by) (defScope s_L_offer_by) .none kV8 dc8 pm8 an8 cd8 ct8), sl8⟩) (c8 : PySem.W.codeIn K cd8 "_law_offer_by" = true) (k8 : PySem.W.keepIn K (.ref f8) = true)
    {f9 : Addr} {od9 an9 : Option Addr} {sl9 : Array (Option Value)} {oc9 kV9 dc9 pm9 cd9 ct9 : Value}
    (a9 : PySem.W.nsIn K mainGlobals "_law_listed" = some (some (.ref f9))) (l9 : K.lookup f9 = some ⟨oc9, od9, .func (PySem.W.fnOf "_law_listed" "_law_listed" (defArgs s_L_listed) (defBody s_L_listed) (defScope s_L_listed) .none kV9 dc9 pm9 an9 cd9 ct9), sl9⟩) (c9 : PySem.W.codeIn K cd9 "_law_listed" = true) (k9 : PySem.W.keepIn K (.ref f9) = true)
    {f10 : Addr} {od10 an10 : Option Addr} {sl10 : Array (Option Value)} {oc10 kV10 dc10 pm10 cd10 ct10 : Value}
    (a10 : PySem.W.nsIn K mainGlobals "_law_scale" = some (some (.ref f10))) (l10 : K.lookup f10 = some ⟨oc10, od10, .func (PySem.W.fnOf "_law_scale" "_law_scale" (defArgs s_L_scale) (defBody s_L_scale) (defScope s_L_scale) .none kV10 dc10 pm10 an10 cd10 ct10), sl10⟩) (c10 : PySem.W.codeIn K cd10 "_law_scale" = true) (k10 : PySem.W.keepIn K (.ref f10) = true)
    {f11 : Addr} {od11 an11 : Option Addr} {sl11 : Array (Option Value)} {oc11 kV11 dc11 pm11 cd11 ct11 : Value}
    (a11 : PySem.W.nsIn K mainGlobals "_law_offers" = some (some (.ref f11))) (l11 : K.lookup f11 = some ⟨oc11, od11, .func (PySem.W.fnOf "_law_offers" "_law_offers" (defArgs s_L_offers) (defBody s_L_offers) (defScope s_L_offers) .none kV11 dc11 pm11 an11 cd11 ct11), sl11⟩) (c11 : PySem.W.codeIn K cd11 "_law_offers" = true) (k11 : PySem.W.keepIn K (.ref f11) = true)
    {f12 : Addr} {od12 an12 : Option Addr} {sl12 : Array (Option Value)} {oc12 kV12 dc12 pm12 cd12 ct12 : Value}
    (a12 : PySem.W.nsIn K mainGlobals "_law_copies" = some (some (.ref f12))) (l12 : K.lookup f12 = some ⟨oc12, od12, .func (PySem.W.fnOf "_law_copies" "_law_copies" (defArgs s_L_copies) (defBody s_L_copies) (defScope s_L_copies) .none kV12 dc12 pm12 an12 cd12 ct12), sl12⟩) (c12 : PySem.W.codeIn K cd12 "_law_copies" = true) (k12 : PySem.W.keepIn K (.ref f12) = true)
    {f13 : Addr} {od13 an13 : Option Addr} {sl13 : Array (Option Value)} {oc13 kV13 dc13 pm13 cd13 ct13 : Value}
    (a13 : PySem.W.nsIn K mainGlobals "_law_is_plan" = some (some (.ref f13))) (l13 : K.lookup f13 = some ⟨oc13, od13, .func (PySem.W.fnOf "_law_is_plan" "_law_is_plan" (defArgs s_L_is_plan) (defBody s_L_is_plan) (defScope s_L_is_plan) .none kV13 dc13 pm13 an13 cd13 ct13), sl13⟩) (c13 : PySem.W.codeIn K cd13 "_law_is_plan" = true) (k13 : PySem.W.keepIn K (.ref f13) = true)
    {f14 : Addr} {od14 an14 : Option Addr} {sl14 : Array (Option Value)} {oc14 kV14 dc14 pm14 cd14 ct14 : Value}
    (a14 : PySem.W.nsIn K mainGlobals "_law_spoilt" = some (some (.ref f14))) (l14 : K.lookup f14 = some ⟨oc14, od14, .func (PySem.W.fnOf "_law_spoilt" "_law_spoilt" (defArgs s_L_spoilt) (defBody s_L_spoilt) (defScope s_L_spoilt) .none kV14 dc14 pm14 an14 cd14 ct14), sl14⟩) (c14 : PySem.W.codeIn K cd14 "_law_spoilt" = true) (k14 : PySem.W.keepIn K (.ref f14) = true)
    {f15 : Addr} {od15 an15 : Option Addr} {sl15 : Array (Option Value)} {oc15 kV15 dc15 pm15 cd15 ct15 : Value}
    (a15 : PySem.W.nsIn K mainGlobals "law" = some (some (.ref f15))) (l15 : K.lookup f15 = some ⟨oc15, od15, .func (PySem.W.fnOf "law" "law" (defArgs s_law) (defBody s_law) (defScope s_law) .none kV15 dc15 pm15 an15 cd15 ct15), sl15⟩) (c15 : PySem.W.codeIn K cd15 "law" = true) (k15 : PySem.W.keepIn K (.ref f15) = true)
    (z_isinstance : PySem.W.nsIn K mainGlobals "isinstance" = some none)
    (z_int : PySem.W.nsIn K mainGlobals "int" = some none)
    (z_bool : PySem.W.nsIn K mainGlobals "bool" = some none)
    (z_zip : PySem.W.nsIn K mainGlobals "zip" = some none)
    (z_list : PySem.W.nsIn K mainGlobals "list" = some none)
    (z_len : PySem.W.nsIn K mainGlobals "len" = some none)
    (z_sum : PySem.W.nsIn K mainGlobals "sum" = some none)
    (z_dict : PySem.W.nsIn K mainGlobals "dict" = some none)
    (z_range : PySem.W.nsIn K mainGlobals "range" = some none)
    (z_sorted : PySem.W.nsIn K mainGlobals "sorted" = some none)
    (z_tuple : PySem.W.nsIn K mainGlobals "tuple" = some none)
    (z_repr : PySem.W.nsIn K mainGlobals "repr" = some none)
    : ∃ fd : FuncData, (∀ (s : Shared) (v : Value), BindsTo s fd ⟨[v], []⟩ [("_law_script", v)]) ∧ ∀ base : Heap, K.In base → base.Ns mainGlobals mg → FnOk l.prog w K mg base CX0 4 fa fd ["_law_script"] (sp_law K) := by
  have e := hfa.symm.trans (PySem.W.mg_of X G a15)
  cases e
  have F0 := fun_mk (st := s_P_is_whole) l0 c0 k0
  have g0 := PySem.W.mg_of X G a0
  have F1 := fun_mk (st := s_P_apart) l1 c1 k1
  have g1 := PySem.W.mg_of X G a1
  have F2 := fun_mk (st := s_P_is_plan) l2 c2 k2
  have g2 := PySem.W.mg_of X G a2
  have F3 := fun_mk (st := s_P_may_get) l3 c3 k3
  have g3 := PySem.W.mg_of X G a3
  have F4 := fun_mk (st := s_P_plan_worth) l4 c4 k4
  have g4 := PySem.W.mg_of X G a4
  have F5 := fun_mk (st := s_P_amount_of) l5 c5 k5
  have g5 := PySem.W.mg_of X G a5
  have F6 := fun_mk (st := s_L_cell_at) l6 c6 k6
  have g6 := PySem.W.mg_of X G a6
  have F7 := fun_mk (st := s_L_whole) l7 c7 k7
  have g7 := PySem.W.mg_of X G a7
  have F8 := fun_mk (st := s_L_offer_by) l8 c8 k8
  have g8 := PySem.W.mg_of X G a8
  have F9 := fun_mk (st := s_L_listed) l9 c9 k9
  have g9 := PySem.W.mg_of X G a9
  have F10 := fun_mk (st := s_L_scale) l10 c10 k10
  have g10 := PySem.W.mg_of X G a10
  have F11 := fun_mk (st := s_L_offers) l11 c11 k11
  have g11 := PySem.W.mg_of X G a11
  have F12 := fun_mk (st := s_L_copies) l12 c12 k12
  have g12 := PySem.W.mg_of X G a12
  have F13 := fun_mk (st := s_L_is_plan) l13 c13 k13
  have g13 := PySem.W.mg_of X G a13
  have F14 := fun_mk (st := s_L_spoilt) l14 c14 k14
  have g14 := PySem.W.mg_of X G a14
  have F15 := fun_mk (st := s_law) l15 c15 k15
  have g15 := PySem.W.mg_of X G a15
  have m_isinstance := PySem.W.mg_none_of X G z_isinstance
  have m_int := PySem.W.mg_none_of X G z_int
  have m_bool := PySem.W.mg_none_of X G z_bool
  have m_zip := PySem.W.mg_none_of X G z_zip
  have m_list := PySem.W.mg_none_of X G z_list
  have m_len := PySem.W.mg_none_of X G z_len
  have m_sum := PySem.W.mg_none_of X G z_sum
  have m_dict := PySem.W.mg_none_of X G z_dict
  have m_range := PySem.W.mg_none_of X G z_range
  have m_sorted := PySem.W.mg_none_of X G z_sorted
  have m_tuple := PySem.W.mg_none_of X G z_tuple
  have m_repr := PySem.W.mg_none_of X G z_repr
  refine ⟨PySem.W.fnOf "law" "law" (defArgs s_law) (defBody s_law) (defScope s_law) .none kV15 dc15 pm15 an15 cd15 ct15, fun s v => .of_eq rfl, fun base _ _ => ?_⟩
  have D_P_is_whole := ok_P_is_whole (P := l.prog) (w := w) (base := base) F0 g0 m_isinstance m_int m_bool 
  have D_P_apart := ok_P_apart (P := l.prog) (w := w) (base := base) F1 g1  
  have D_P_may_get := ok_P_may_get (P := l.prog) (w := w) (base := base) F3 g3  D_P_is_whole
  have D_P_is_plan := ok_P_is_plan (P := l.prog) (w := w) (base := base) F2 g2 m_zip m_isinstance m_list m_len D_P_may_get D_P_apart
  have D_P_amount_of := ok_P_amount_of (P := l.prog) (w := w) (base := base) F5 g5 m_dict 
  have D_P_plan_worth := ok_P_plan_worth (P := l.prog) (w := w) (base := base) F4 g4 m_sum m_zip D_P_amount_of
  have D_L_cell_at := ok_L_cell_at (P := l.prog) (w := w) (base := base) F6 g6 m_len 
  have D_L_whole := ok_L_whole (P := l.prog) (w := w) (base := base) F7 g7 m_isinstance m_int m_bool 
  have D_L_offer_by := ok_L_offer_by (P := l.prog) (w := w) (base := base) F8 g8 m_sum m_range 
  have D_L_listed := ok_L_listed (P := l.prog) (w := w) (base := base) F9 g9 m_sorted D_L_offer_by
  have D_L_scale := ok_L_scale (P := l.prog) (w := w) (base := base) F10 g10  
  have D_L_offers := ok_L_offers (P := l.prog) (w := w) (base := base) F11 g11 m_range D_L_scale D_L_cell_at D_L_listed
  have D_L_copies := ok_L_copies (P := l.prog) (w := w) (base := base) F12 g12 m_list 
  have D_L_is_plan := ok_L_is_plan (P := l.prog) (w := w) (base := base) F13 g13 m_range m_len m_isinstance m_list D_L_whole
  have D_L_spoilt := ok_L_spoilt (P := l.prog) (w := w) (base := base) F14 g14 m_list m_tuple m_len 
  exact ok_law (P := l.prog) (w := w) (base := base) F15 g15 m_range m_list m_repr m_len m_isinstance m_bool D_L_offers D_L_copies D_P_plan_worth D_L_spoilt D_P_is_plan D_L_cell_at D_L_whole D_L_is_plan
theorem walk {l : PySem.W.OpenLaw} {q : Program} {loose : List Str} {XP : (Str → Option Value) → Heap → Prop} {YP : World → Heap → Prop} {d : DefRec} {K : Params → PySem.W.Frag} (hn : l.most = some 63) (hdf : d.params.defaults = [])
    (hY : ∀ (w : World) (h : Heap), YP w h → (K w.params).In h)
    (F : ∀ (w : World) (mg : Str → Option Value) (fa : Addr) (h : Heap), (K w.params).In h → h.Ns mainGlobals mg → mg d.name = some (.ref fa) →
      ∃ fd : FuncData, (∀ (s : Shared) (u : Value), BindsTo s fd ⟨[u], []⟩ [("_law_script", u)]) ∧ ∀ base : Heap, (K w.params).In base → base.Ns mainGlobals mg → FnOk l.prog w (K w.params) mg base CX0 4 fa fd ["_law_script"] (sp_law (K w.params))) :
    PySem.W.WalkO q loose XP YP l.row.toRowW d [] (fun f vs => PySem.call f vs) :=
  L2.walk_of (n := 63) (k := 4) (x := "_law_script") (CX := fun _ => CX0) (sp := fun w => sp_law (K w.params)) hn (by decide) hdf ⟨rfl, by decide, by decide, rfl⟩ hY F (fun _ _ a ns hl _ hS => ⟨a, ns, rfl, hS, hl, fun _ => rfl⟩) fun _ _ _ _ _ z => z
theorem walkX_of {q : Program} {loose : List Str} {XP : (Str → Option Value) → Heap → Prop} {K : Params → PySem.W.Frag} {as : List Addr} {n t : Nat} {r : PySem.W.RowW} {d : DefRec} {kwd : List (Str × Expr)} {run : Value → List Value → Sem Value} (e : ∀ P, as = (K P).map (·.1))
    (h : PySem.W.WalkO q loose XP (PySem.W.InK K) r d kwd run) : PySem.W.WalkX q loose XP (PySem.W.X.obsZ as) (PySem.W.X.valZ K n t) r d kwd run :=
  fun w s₀ s₁ mg mb G y a o pm cd doc dV kV h1 h2 h3 h4 h5 h6 args vals as' L hp hl hr hw hlo => h w s₀ s₁ mg mb G (PySem.W.InK.keeps w _ _ (PySem.W.X.z_facts e y).2.1 L.keeps) a o pm cd doc dV kV h1 h2 h3 h4 h5 h6 args vals as' hp hl hr hw hlo
end My
noncomputable def PySem.W.Fast.tw1538389743427675970 : Nat := 0
noncomputable def PySem.W.Fast.tw17285866407263181089 : Nat := 0
noncomputable def PySem.W.Fast.tw15555911821876376461 : Nat := 0
noncomputable def PySem.W.Fast.tw6233070365877130899 : Nat := 0
noncomputable def PySem.W.Fast.tw465812068405706950 : Nat := 0
open PySem PySem.W PyProof.Rows
set_option maxRecDepth 100000 in
set_option maxHeartbeats 0 in
theorem PySem.Challenge.cw_gavelhall_k41_plans_holds : PySem.Challenge.rw_gavelhall_k41_plans.Holds := by
  w_on; o_law; z_head; (case hw => w_witness2)
  k_fill
  refine My.walkX_of (fun _ => by kernel_rfl) (My.walk (l := PySem.Challenge.rw_gavelhall_k41_plans) rfl rfl (fun w h Y => Y) ?F)
  case F =>
    intro w mg fa h KX G hmg
    refine' My.all_mk KX G hmg ?a0 ?l0 ?c0 ?k0 ?a1 ?l1 ?c1 ?k1 ?a2 ?l2 ?c2 ?k2 ?a3 ?l3 ?c3 ?k3 ?a4 ?l4 ?c4 ?k4 ?a5 ?l5 ?c5 ?k5 ?a6 ?l6 ?c6 ?k6 ?a7 ?l7 ?c7 ?k7 ?a8 ?l8 ?c8 ?k8 ?a9 ?l9 ?c9 ?k9 ?a10 ?l10 ?c10 ?k10 ?a11 ?l11 ?c11 ?k11 ?a12 ?l12 ?c12 ?k12 ?a13 ?l13 ?c13 ?k13 ?a14 ?l14 ?c14 ?k14 ?a15 ?l15 ?c15 ?k15 ?z_isinstance ?z_int ?z_bool ?z_zip ?z_list ?z_len ?z_sum ?z_dict ?z_range ?z_sorted ?z_tuple ?z_repr
    (case a0 => k_is)
    (case l0 => k_is)
    (case c0 => k_is)
    (case k0 => k_is)
    (case a1 => k_is)
    (case l1 => k_is)
    (case c1 => k_is)
    (case k1 => k_is)
    (case a2 => k_is)
    (case l2 => k_is)
    (case c2 => k_is)
    (case k2 => k_is)
    (case a3 => k_is)
    (case l3 => k_is)
    (case c3 => k_is)
    (case k3 => k_is)
    (case a4 => k_is)
    (case l4 => k_is)
    (case c4 => k_is)
    (case k4 => k_is)
    (case a5 => k_is)
    (case l5 => k_is)
    (case c5 => k_is)
    (case k5 => k_is)
    (case a6 => k_is)
    (case l6 => k_is)
    (case c6 => k_is)
    (case k6 => k_is)
    (case a7 => k_is)
    (case l7 => k_is)
    (case c7 => k_is)
    (case k7 => k_is)
    (case a8 => k_is)
    (case l8 => k_is)
    (case c8 => k_is)
    (case k8 => k_is)
    (case a9 => k_is)
    (case l9 => k_is)
    (case c9 => k_is)
    (case k9 => k_is)
    (case a10 => k_is)
    (case l10 => k_is)
    (case c10 => k_is)
    (case k10 => k_is)
    (case a11 => k_is)
    (case l11 => k_is)
    (case c11 => k_is)
    (case k11 => k_is)
    (case a12 => k_is)
    (case l12 => k_is)
    (case c12 => k_is)
    (case k12 => k_is)
    (case a13 => k_is)
    (case l13 => k_is)
    (case c13 => k_is)
    (case k13 => k_is)
    (case a14 => k_is)
    (case l14 => k_is)
    (case c14 => k_is)
    (case k14 => k_is)
    (case a15 => k_is)
    (case l15 => k_is)
    (case c15 => k_is)
    (case k15 => k_is)
    (case z_isinstance => k_is)
    (case z_int => k_is)
    (case z_bool => k_is)
    (case z_zip => k_is)
    (case z_list => k_is)
    (case z_len => k_is)
    (case z_sum => k_is)
    (case z_dict => k_is)
    (case z_range => k_is)
    (case z_sorted => k_is)
    (case z_tuple => k_is)
    (case z_repr => k_is)


