import PyProof.Rows.All
import Wide.All
import OpenK.AllK
import Wide.FinOn
import Lean
import PyProof.EqAt
import PyProof.EqKinds
import PyProof.TupleCall
import PyProof.ZipIter
import PyProof.LayNew
import PyProof.Rows.ZipGen
import PyProof.Rows.FactsT2
import KE.KMinKey
import PyProof.FString5
import PyProof.SliceStr2
import PyProof.EnumFor
import PyProof.EnumStmt
import PyProof.EnumMake
import PyProof.StrLoop
import PyProof.StrWalks
import PyProof.Rows.EnumRows
import KE.KDictList
import KE.KEqDict
import PyProof.StrOps2
import PyProof.FitsInt
import PySem.Challenge.RW_gavelhall_k33_words_told
set_option genSizeOf false
set_option Elab.async false
set_option linter.all false
set_option maxRecDepth 100000
/-! THE HAND LAYER, for ints, bools, texts, own classes, LISTS and tuples (index, slices, in, append, pop ..), calls, loops. Paste it whole ahead of your own text; what your proof does not reach may be deleted. -/
namespace L2
open PySem PySem.Spec PyProof.Rows

/-- a key: an int or a str -/
noncomputable abbrev Key := Sum Int Str
noncomputable def keyIs : Key → Value → Bool
  | .inl k, v => Value.isInt k v
  | .inr x, v => Value.isStrOf x v
noncomputable def keyH (w : World) : Key → Int
  | .inl k => hashInt k
  | .inr x => hashStr w x
theorem keyIs_shape : ∀ {k : Key} {v : Value}, keyIs k v = true → (∃ i t, k = Sum.inl i ∧ v = Value.int i t) ∨ (∃ x t, k = Sum.inr x ∧ v = Value.str x t)
  | .inl i, v, h => by
    obtain ⟨t, e⟩ := Value.isInt_shape (k := i) (v := v) h
    exact .inl ⟨i, t, rfl, e⟩
  | .inr x, v, h => by
    obtain ⟨t, e⟩ := Value.isStrOf_shape (x := x) (v := v) h
    exact .inr ⟨x, t, rfl, e⟩
theorem keyIs_int (i : Int) (t : Tok) : keyIs (.inl i) (.int i t) = true := by simp [keyIs, Value.isInt]
theorem keyIs_str (x : Str) (t : Tok) : keyIs (.inr x) (.str x t) = true := by simp [keyIs, Value.isStrOf]
theorem key_ll (a b : Int) : decide ((Sum.inl a : Key) = Sum.inl b) = (a == b) := by
  by_cases e : a = b
  · subst e; simp
  · have h : ¬ (Sum.inl a : Key) = Sum.inl b := fun q => e (Sum.inl.inj q)
    rw [decide_eq_false h]
    exact (beq_eq_false_iff_ne.mpr e).symm
theorem key_rr (a b : Str) : decide ((Sum.inr a : Key) = Sum.inr b) = decide (a = b) := by
  by_cases e : a = b
  · subst e; simp
  · have h : ¬ (Sum.inr a : Key) = Sum.inr b := fun q => e (Sum.inr.inj q)
    rw [decide_eq_false h, decide_eq_false e]
theorem key_lr (a : Int) (b : Str) : decide ((Sum.inl a : Key) = Sum.inr b) = false := decide_eq_false (fun q => nomatch q)
theorem key_rl (a : Str) (b : Int) : decide ((Sum.inr a : Key) = Sum.inl b) = false := decide_eq_false (fun q => nomatch q)

noncomputable def mixKind (prog : Program) (w : World) : PySem.KeyKind prog w Key where
  is := keyIs
  hash := keyH w
  inj := fun v a b ha hb => by
    rcases keyIs_shape ha with ⟨i, t, rfl, rfl⟩ | ⟨x, t, rfl, rfl⟩
    · rcases keyIs_shape hb with ⟨j, u, rfl, e⟩ | ⟨y, u, rfl, e⟩
      · injection e with e1 _; rw [e1]
      · exact nomatch e
    · rcases keyIs_shape hb with ⟨j, u, rfl, e⟩ | ⟨y, u, rfl, e⟩
      · exact nomatch e
      · injection e with e1 _; rw [e1]
  byValue := fun k v h => by
    rcases keyIs_shape h with ⟨i, t, rfl, rfl⟩ | ⟨x, t, rfl, rfl⟩ <;> rfl
  pyHash := fun hv h => by
    rcases keyIs_shape hv with ⟨i, t, rfl, rfl⟩ | ⟨x, t, rfl, rfl⟩
    · exact wpAny_pyHash_int h
    · exact wpAny_pyHash_str h
  eqBool := fun hu hv h => by
    rcases keyIs_shape hu with ⟨i, t, rfl, rfl⟩ | ⟨x, t, rfl, rfl⟩
    · rcases keyIs_shape hv with ⟨j, u, rfl, rfl⟩ | ⟨y, u, rfl, rfl⟩
      · rw [key_ll] at h; exact wpAny_eqBool_int h
      · rw [key_lr] at h; exact SeqAt.EqAt.int_str i t y u _ _ _ _ h
    · rcases keyIs_shape hv with ⟨j, u, rfl, rfl⟩ | ⟨y, u, rfl, rfl⟩
      · rw [key_rl] at h; exact SeqAt.EqAt.str_int x t j u _ _ _ _ h
      · rw [key_rr] at h; exact wpAny_eqBool_str h
  «strs» := fun k x t v h => by
    rcases keyIs_shape h with ⟨i, u, rfl, e⟩ | ⟨y, u, rfl, e⟩
    · exact nomatch e
    · injection e with e1 _
      subst e1
      cases v <;> rfl

theorem mixKind_int (prog : Program) (w : World) (i : Int) (t : Tok) : (mixKind prog w).is (.inl i) (.int i t) = true := keyIs_int i t
theorem mixKind_str (prog : Program) (w : World) (x : Str) (t : Tok) : (mixKind prog w).is (.inr x) (.str x t) = true := keyIs_str x t
end L2

namespace L2
open PySem PySem.Spec PyProof.Rows

/-- a value, without the heap -/
inductive V where
  | non | bl (b : Bool) | int (i : Int) | str (x : Str) | byt (b : Array UInt8) | flt (b : UInt64) | ref (a : Addr) | ty (n : String)
  deriving DecidableEq

noncomputable def RelV : V → Value → Prop
  | .non, u => u = Value.none
  | .bl b, u => u = Value.bool b
  | .int i, u => ∃ t, u = Value.int i t
  | .str x, u => ∃ t, u = Value.str x t
  | .byt b, u => ∃ t, u = Value.bytes b t
  | .flt b, u => ∃ t, u = Value.float b t
  | .ref a, u => u = Value.ref a
  | .ty n, u => u = Value.type n

noncomputable abbrev Vals : List V → List Value → Prop := Paired RelV
theorem Vals.length {xs : List V} {us : List Value} (r : Vals xs us) : xs.length = us.length := Paired.length r
theorem Vals.get : ∀ {xs : List V} {us : List Value} {i : Nat} {x : V}, Vals xs us → xs[i]? = some x → ∃ u, us[i]? = some u ∧ RelV x u
  | _, _, _, _, .nil, e => by simp at e
  | _, _, 0, _, .cons r _, e => by simp at e; subst e; exact ⟨_, rfl, r⟩
  | _, _, i + 1, x, .cons _ t, e => by
    obtain ⟨u, h1, h2⟩ := Vals.get (i := i) (x := x) t (by simpa using e)
    exact ⟨u, by simpa using h1, h2⟩
theorem Vals.append : ∀ {xs ys : List V} {us ws : List Value}, Vals xs us → Vals ys ws → Vals (xs ++ ys) (us ++ ws)
  | _, _, _, _, .nil, s => s
  | _, _, _, _, .cons r t, s => .cons r (Vals.append t s)
theorem Vals.take : ∀ {xs : List V} {us : List Value} (n : Nat), Vals xs us → Vals (xs.take n) (us.take n)
  | _, _, 0, _ => .nil
  | _, _, _ + 1, .nil => .nil
  | _, _, n + 1, .cons r t => .cons r (Vals.take n t)
theorem Vals.drop : ∀ {xs : List V} {us : List Value} (n : Nat), Vals xs us → Vals (xs.drop n) (us.drop n)
  | _, _, 0, r => r
  | _, _, _ + 1, .nil => .nil
  | _, _, n + 1, .cons _ t => Vals.drop n t

noncomputable def RelO : Option V → Option Value → Prop
  | some v, some u => RelV v u
  | none, none => True
  | _, _ => False
noncomputable def KV {κ : Type} : List (κ × V) → List (κ × Value) → Prop := Paired fun (p : κ × V) (q : κ × Value) => p.1 = q.1 ∧ RelV p.2 q.2

/-- a key of a dict (00_mix): an int or a text -/
noncomputable def kV : Key → V
  | .inl i => .int i
  | .inr x => .str x

/-- what stands at a tracked address -/
inductive HO where
  /-- a list -/
  | lst (xs : List V)
  /-- a tuple (never changes) -/
  | tup (xs : List V)
  /-- a dict whose keys are ints and texts; one whose keys are tuples of ints and texts (the empty one is both) -/
  | dK (kvs : List (Key × V)) | dT (kvs : List (List Key × V))
  /-- a set of ints: its members, its size -/
  | set (S : Int → Bool) (n : Nat)
  /-- an instance of the class at C, its dict at dx, its attributes -/
  | ins (C dx : Addr) (fs : List (Str × V))
  /-- the dict of the instance at x -/
  | own (x : Addr)
  /-- the dict of an exception -/
  | xd (fs : List (Str × V))
  /-- a bound method, f of x -/
  | met (f x : Addr)
  /-- a range object lo, lo + 1, .. below hi -/
  | rng (lo hi : Int)
  /-- a thing that is known to the object (the script; a dict while a loop walks it): read, never written while it is so -/
  | frz (o : Obj) (u : HO)
  /-- a code object's table -/
  | tbl (ps : Array Value)
  /-- any other thing, by what is true of its one object (a def of one's own: SetO a S n := HO.ext fun h => ..) -/
  | ext (φ : Heap → Prop)

noncomputable abbrev Hp := Addr → Option HO
noncomputable def upd (H : Hp) (a : Addr) (o : HO) : Hp := fun b => if b = a then some o else H b
theorem upd_same {H : Hp} {a : Addr} {o : HO} : upd H a o a = some o := by unfold upd; rw [if_pos rfl]
theorem upd_ne {H : Hp} {a b : Addr} {o : HO} (h : b ≠ a) : upd H a o b = H b := by unfold upd; rw [if_neg h]
theorem upd_upd {H : Hp} {a : Addr} {o u : HO} : upd (upd H a o) a u = upd H a u := by
  funext b; unfold upd; split <;> rfl
/-- two objects of different content stand apart -/
theorem ne_of {H : Hp} {a b : Addr} {o u : HO} (h : H a = some o) (h' : H b = some u) (d : o ≠ u) : a ≠ b := by
  intro e; subst e; rw [h] at h'; exact d (Option.some.inj h')
theorem ne_of_none {H : Hp} {a b : Addr} {o : HO} (h : H a = some o) (h' : H b = none) : a ≠ b := by
  intro e; subst e; rw [h] at h'; cases h'

section
variable (P : Program) (w : World)
noncomputable def ObjOk (H : Hp) (h : Heap) (a : Addr) : HO → Prop
  | .lst xs => xs.length ≤ sizeLine ∧ ∃ (its : List Value) (n : Nat), Vals xs its ∧ h.get? a = some { cls := .type "list", data := .seq its.toArray n }
  | .tup xs => xs.length ≤ sizeLine ∧ ∃ its : List Value, Vals xs its ∧ IsTup h a its.toArray
  | .dK kvs => kvs.length ≤ sizeLine ∧ (a == sysModules) = false ∧ ∃ vs, KV kvs vs ∧ h.DictOf (mixKind P w) a vs
  | .dT kvs => kvs.length ≤ sizeLine ∧ (a == sysModules) = false ∧ ∃ xs : List (List Key × Addr × Value),
      Paired (fun (p : List Key × V) (q : List Key × Addr × Value) => p.1 = q.1 ∧ H q.2.1 = some (.tup (p.1.map kV)) ∧ RelV p.2 q.2.2) kvs xs ∧
      ∃ o es ep, h.get? a = some o ∧ o.ExactDict ∧ o.data = .dict es ep ∧ es.toList = xs.map (entryOfKey (tupleKind (mixKind P w))) ∧ (xs.map (·.1)).Nodup
  | .set S n => h.SetOf (intKind P w) a S n
  | .ins C dx fs => H dx = some (.own a) ∧ fs.length ≤ 1000 ∧ dx ≠ a ∧ h.get? a = some (PySem.W.instObj C dx) ∧
      ∃ mA, h.Ns1 dx mA ∧ (∀ f, RelO (fs.lookup f) (mA f)) ∧ PySem.Within mA (fs.map (·.1))
  | .own _ => ∃ o, h.get? a = some o
  | .xd fs => ∃ mA, h.Ns1 a mA ∧ ∀ f, RelO (fs.lookup f) (mA f)
  | .rng lo hi => ∃ t u v, h.get? a = some { cls := .type "range", data := .fields #[.int lo t, .int hi u, .int 1 v] }
  | .frz o u => h.get? a = some o ∧ ObjOk H h a u
  | .tbl ps => h.get? a = some { cls := .none, data := .fields ps }
  | .met f x => h.get? a = some (PySem.W.methodObj (.ref f) (.ref x))
  | .ext φ => φ h ∧ (∃ o, h.get? a = some o) ∧ ∀ h1 h2 : Heap, φ h1 → (∀ o, h1.get? a = some o → h2.get? a = some o) → φ h2
/-- the abstract heap is held -/
noncomputable def HOk (H : Hp) (h : Heap) : Prop := ∀ a o, H a = some o → ObjOk P w H h a o
end

section
variable {P : Program} {w : World} {H H' : Hp} {h h' : Heap} {a : Addr} {o : HO}
theorem ObjOk.lt (x : ObjOk P w H h a o) : a < h.objs.size := by
  cases o with
  | lst xs => obtain ⟨_, _, _, _, e⟩ := x; exact Heap.lt_size e
  | tup xs => obtain ⟨_, _, _, p⟩ := x; exact p.lt
  | dK kvs => obtain ⟨_, _, _, _, o, _, _, e, _⟩ := x; exact Heap.lt_size e
  | dT kvs => obtain ⟨_, _, _, _, o, _, _, e, _⟩ := x; exact Heap.lt_size e
  | set S n => obtain ⟨o, _, _, _, e, _⟩ := x; exact Heap.lt_size e
  | ins C dx fs => obtain ⟨_, _, _, e, _⟩ := x; exact Heap.lt_size e
  | own y => obtain ⟨_, e⟩ := x; exact Heap.lt_size e
  | xd fs => obtain ⟨_, ⟨_, _, _, e, _⟩, _⟩ := x; exact Heap.lt_size e
  | rng lo hi => obtain ⟨_, _, _, e⟩ := x; exact Heap.lt_size e
  | frz ob u => obtain ⟨e, _⟩ := x; exact Heap.lt_size e
  | tbl ps => exact Heap.lt_size (show h.get? a = some _ from x)
  | met f y => exact Heap.lt_size (show h.get? a = some _ from x)
  | ext φ => obtain ⟨_, ⟨_, e⟩, _⟩ := x; exact Heap.lt_size e
theorem Paired.mapP {α β : Type} {F G : α → β → Prop} : ∀ {l₁ : List α} {l₂ : List β}, Paired F l₁ l₂ → (∀ a b, F a b → G a b) → Paired G l₁ l₂
  | _, _, .nil, _ => .nil
  | _, _, .cons r t, f => .cons (f _ _ r) (Paired.mapP t f)
/-- what an object's description leans on: its own object, its own dict, the tuples -/
theorem ObjOk.stay (x : ObjOk P w H h a o) (k : ∀ b u, (b = a ∨ H b = some (.own a)) → h.get? b = some u → h'.get? b = some u)
    (ho : ∀ b, H b = some (.own a) → H' b = some (.own a)) (ht : ∀ b xs, H b = some (.tup xs) → H' b = some (.tup xs)) : ObjOk P w H' h' a o := by
  induction o with
  | lst xs => obtain ⟨z, its, n, r, e⟩ := x; exact ⟨z, its, n, r, k _ _ (.inl rfl) e⟩
  | tup xs => obtain ⟨z, its, r, ob, e, c⟩ := x; exact ⟨z, its, r, ob, k _ _ (.inl rfl) e, c⟩
  | dK kvs => obtain ⟨z, y, vs, r, ob, es, ep, e, c⟩ := x; exact ⟨z, y, vs, r, ob, es, ep, k _ _ (.inl rfl) e, c⟩
  | dT kvs =>
    obtain ⟨z, y, xs, r, ob, es, ep, e, c⟩ := x
    exact ⟨z, y, xs, Paired.mapP r fun p q z => ⟨z.1, ht _ _ z.2.1, z.2.2⟩, ob, es, ep, k _ _ (.inl rfl) e, c⟩
  | set S n => obtain ⟨ob, es, ep, t, e, c⟩ := x; exact ⟨ob, es, ep, t, k _ _ (.inl rfl) e, c⟩
  | ins C dx fs =>
    obtain ⟨d, z, ne, e, mA, ⟨od, es, ep, e2, c⟩, r⟩ := x
    exact ⟨ho _ d, z, ne, k _ _ (.inl rfl) e, mA, ⟨od, es, ep, k _ _ (.inr d) e2, c⟩, r⟩
  | own y => obtain ⟨ob, e⟩ := x; exact ⟨ob, k _ _ (.inl rfl) e⟩
  | xd fs => obtain ⟨mA, ⟨od, es, ep, e, c⟩, r⟩ := x; exact ⟨mA, ⟨od, es, ep, k _ _ (.inl rfl) e, c⟩, r⟩
  | rng lo hi => obtain ⟨t, u, v, e⟩ := x; exact ⟨t, u, v, k _ _ (.inl rfl) e⟩
  | frz ob u ih => obtain ⟨e, q⟩ := x; exact ⟨k _ _ (.inl rfl) e, ih q⟩
  | tbl ps =>
    have e : h.get? a = some { cls := .none, data := .fields ps } := x
    show h'.get? a = some { cls := .none, data := .fields ps }
    exact k a _ (.inl rfl) e
  | met f y =>
    have e : h.get? a = some (PySem.W.methodObj (.ref f) (.ref y)) := x
    show h'.get? a = some (PySem.W.methodObj (.ref f) (.ref y))
    exact k a _ (.inl rfl) e
  | ext φ => obtain ⟨p, ⟨o, e⟩, st⟩ := x; exact ⟨st _ _ p fun o q => k _ _ (.inl rfl) q, ⟨o, k _ _ (.inl rfl) e⟩, st⟩
theorem HOk.lt (x : HOk P w H h) (e : H a = some o) : a < h.objs.size := (x a o e).lt
theorem HOk.fresh (x : HOk P w H h) (e : h.objs.size ≤ a) : H a = none := by
  cases q : H a with
  | none => rfl
  | some u => exact absurd (Nat.lt_of_lt_of_le (x.lt q) e) (Nat.lt_irrefl _)
/-- every object of the heap is kept -/
theorem HOk.kept (x : HOk P w H h) (k : ∀ b u, h.get? b = some u → h'.get? b = some u) : HOk P w H h' := fun a o e =>
  (x a o e).stay (fun b u _ q => k b u q) (fun _ q => q) fun _ _ q => q
/-- a new object is laid and tracked -/
theorem HOk.laid (x : HOk P w H h) (k : ∀ b u, h.get? b = some u → h'.get? b = some u) (hp : h.objs.size ≤ a) (new : ObjOk P w (upd H a o) h' a o) : HOk P w (upd H a o) h' := fun b u e => by
  have hn := x.fresh hp
  by_cases hb : b = a
  · subst hb; rw [upd_same] at e; cases e; exact new
  · rw [upd_ne hb] at e
    exact (x b u e).stay (fun c v _ q => k c v q) (fun c q => by rw [upd_ne (ne_of_none q hn)]; exact q) fun c xs q => by rw [upd_ne (ne_of_none q hn)]; exact q
end

/-- what may be read as u: it is u, or a known u -/
noncomputable def Rd (H : Hp) (a : Addr) (u : HO) : Prop := H a = some u ∨ ∃ o, H a = some (.frz o u)
theorem Rd.ok {P : Program} {w : World} {H : Hp} {h : Heap} {a : Addr} {u : HO} (r : Rd H a u) (x : HOk P w H h) : ObjOk P w H h a u := by
  rcases r with r | ⟨o, r⟩
  · exact x a u r
  · obtain ⟨_, q⟩ := x a _ r
    exact q
/-- what may be written -/
noncomputable def Mut : Option HO → Prop
  | some (.lst _) => True
  | some (.dK _) => True
  | some (.dT _) => True
  | some (.set _ _) => True
  | some (.ins _ _ _) => True
  | some (.ext _) => True
  | _ => False
section
variable {P : Program} {w : World} {H : Hp} {h h' : Heap} {x e : Addr} {o' : HO}
/-- the object at e is changed: x itself, or the dict of the instance x -/
theorem HOk.write (ok : HOk P w H h) (mu : Mut (H x)) (he : e = x ∨ H e = some (.own x)) (k : ∀ b u, b ≠ e → h.get? b = some u → h'.get? b = some u) (heo : ∃ u, h'.get? e = some u)
    (new : ObjOk P w (upd H x o') h' x o') : HOk P w (upd H x o') h' := fun b u q => by
  have nown : ∀ c y, H c = some (.own y) → c ≠ x := fun c y r z => by subst z; rw [r] at mu; exact mu
  have ntup : ∀ c xs, H c = some (.tup xs) → c ≠ x := fun c xs r z => by subst z; rw [r] at mu; exact mu
  by_cases hb : b = x
  · subst hb; rw [upd_same] at q; cases q; exact new
  · rw [upd_ne hb] at q
    by_cases hbe : b = e
    · have q' : H b = some (.own x) := by
        rcases he with z | z
        · exact absurd (hbe.trans z) hb
        · rw [hbe]; exact z
      rw [q] at q'; cases q'
      obtain ⟨v, hv⟩ := heo
      exact ⟨v, by rw [hbe]; exact hv⟩
    · refine (ok b u q).stay (fun c v hc r => k c v ?_ r) (fun c r => by rw [upd_ne (nown c b r)]; exact r) fun c xs r => by rw [upd_ne (ntup c xs r)]; exact r
      rcases hc with rfl | hc
      · exact hbe
      · rintro rfl
        rcases he with z | z
        · exact nown c b hc z
        · rw [hc] at z; cases z; exact hb rfl
end

/-! ### kept unless tracked; of the frames at fs (the callers') the slots may change (an exception that passes writes there); of the records at ex (iterators) nothing is said -/
structure Un (fs ex : List Addr) (H H' : Hp) (h h' : Heap) : Prop where
  keep : ∀ b o, h.get? b = some o → H b = none → b ∉ fs → b ∉ ex → h'.get? b = some o
  slot : ∀ b o, h.get? b = some o → H b = none → b ∈ fs → b ∉ ex → ∃ sl, h'.get? b = some { o with slots := sl }
  free : ∀ b o, h.get? b = some o → H b = none → b ∉ ex → H' b = none
  there : ∀ b o, h.get? b = some o → b ∉ ex → ∃ o', h'.get? b = some o'
  tups : ∀ b xs, H b = some (.tup xs) → H' b = some (.tup xs)
  frzs : ∀ b o u, H b = some (.frz o u) → H' b = some (.frz o u)
  tbls : ∀ b ps, H b = some (.tbl ps) → ∃ more, H' b = some (.tbl (ps ++ more))
section
variable {fs fs' ex ex' : List Addr} {H H1 H2 : Hp} {h h1 h2 h' : Heap} {a x e : Addr} {o : HO}
theorem Un.any (u : Un fs ex H H1 h h1) {b : Addr} {ob : Obj} (q : h.get? b = some ob) (n : H b = none) (hx : b ∉ ex) : ∃ sl, h1.get? b = some { ob with slots := sl } := by
  by_cases hb : b ∈ fs
  · exact u.slot b ob q n hb hx
  · exact ⟨ob.slots, u.keep b ob q n hb hx⟩
theorem Un.kept (k : ∀ b u, h.get? b = some u → h'.get? b = some u) : Un fs ex H H h h' :=
  ⟨fun b ob q _ _ _ => k b ob q, fun b ob q _ _ _ => ⟨ob.slots, k b ob q⟩, fun _ _ _ n _ => n, fun b ob q _ => ⟨ob, k b ob q⟩, fun _ _ q => q, fun _ _ _ q => q, fun _ ps q => ⟨#[], by rw [q]; simp⟩⟩
theorem Un.refl : Un fs ex H H h h := Un.kept fun _ _ q => q
theorem Un.laid (k : ∀ b u, h.get? b = some u → h'.get? b = some u) (hp : h.objs.size ≤ a) (hn : H a = none) : Un fs ex H (upd H a o) h h' where
  keep := fun b u q _ _ _ => k b u q
  slot := fun b u q _ _ _ => ⟨u.slots, k b u q⟩
  free := fun b u q n _ => by rw [upd_ne (Nat.ne_of_lt (Nat.lt_of_lt_of_le (Heap.lt_size q) hp))]; exact n
  there := fun b u q _ => ⟨u, k b u q⟩
  tups := fun b xs q => by rw [upd_ne (ne_of_none q hn)]; exact q
  frzs := fun b u xs q => by rw [upd_ne (ne_of_none q hn)]; exact q
  tbls := fun b ps q => ⟨#[], by rw [upd_ne (ne_of_none q hn), q]; simp⟩
theorem Un.write (mu : Mut (H x)) (he : e = x ∨ H e = some (.own x)) (k : ∀ b u, b ≠ e → h.get? b = some u → h'.get? b = some u) (heo : ∃ u, h'.get? e = some u) : Un fs ex H (upd H x o) h h' := by
  have hx : ∀ b, H b = none → b ≠ x := fun b n z => by subst z; rw [n] at mu; exact mu
  have hb : ∀ b, H b = none → b ≠ e := fun b n z => by
    subst z
    rcases he with r | r
    · exact hx b n r
    · rw [n] at r; cases r
  have hm : ∀ b u, H b = some u → ¬ Mut (some u) → b ≠ x := fun b u q nm z => by subst z; rw [q] at mu; exact nm mu
  refine ⟨fun b u q n _ _ => k b u (hb b n) q, fun b u q n _ _ => ⟨u.slots, k b u (hb b n) q⟩, fun b u q n _ => by rw [upd_ne (hx b n)]; exact n, fun b u q _ => ?_,
    fun b xs q => by rw [upd_ne (hm b _ q fun z => z)]; exact q, fun b u xs q => by rw [upd_ne (hm b _ q fun z => z)]; exact q, fun b ps q => ⟨#[], by rw [upd_ne (hm b _ q fun z => z), q]; simp⟩⟩
  by_cases hbe : b = e
  · subst hbe; exact heo
  · exact ⟨u, k b u hbe q⟩
end

/-! ### the heap without what is tracked -/
noncomputable def trk (h : Heap) (H : Hp) : List Addr := (List.range h.objs.size).filter fun a => (H a).isSome
noncomputable def hidT (h : Heap) (H : Hp) : Heap := PySem.W.hideAll h (trk h H)
theorem hidT_size (h : Heap) (H : Hp) : (hidT h H).objs.size = h.objs.size := PySem.W.hideAll_size _ _
theorem hidT_get {h : Heap} {H : Hp} {b : Addr} {o : Obj} (e : h.get? b = some o) (n : H b = none) : (hidT h H).get? b = some o :=
  PySem.W.hideAll_get _ e fun hm => by
    have q : (H b).isSome = true := (List.mem_filter.mp hm).2
    rw [n] at q; simp at q
theorem of_hidT {h : Heap} {H : Hp} {b : Addr} {o : Obj} (e : (hidT h H).get? b = some o) : h.get? b = some o ∧ H b = none := by
  have e' : h.get? b = some o := PySem.W.of_hideAll (trk h H) e
  refine ⟨e', ?_⟩
  cases q : H b with
  | none => rfl
  | some x =>
    have hm : b ∈ trk h H := List.mem_filter.mpr ⟨List.mem_range.mpr (Heap.lt_size e'), by simp [q]⟩
    have z : (hidT h H).get? b = none := PySem.W.hideAll_none (trk h H) hm
    rw [z] at e; cases e

/-! ### OpenK's ledger, filled with every new object but one -/
end L2

namespace L2
open PySem PySem.Spec PyProof.Rows

/-- the module's facts, over the base: the heap at the law's entry without what is tracked there -/
structure Mod (K : PySem.W.Frag) (mg : Str → Option Value) (base : Heap) : Prop where
  kin : K.In base
  glob : base.Ns mainGlobals mg
  blt : ∃ mb, base.Ns builtinsNs mb ∧ ∀ x : Str, x ≠ "__name__" → mb x = bootBuiltins x
  nolimit : base.NoLimit

/-- the context: a def's body (or a comprehension's block) running. base: fixed through the whole law; s₀, H₀: the entry; outer: the frames whose slots others may change (a def's callers); stack: all frames that run;
   ex: iterators that were made ahead of the entry and are walked here (a comprehension's); fn: the names whose cells were made at the entry (a def: all; a comprehension's block: its own); calm: not within an except suite; pn: pins that every state bears; xe: what is wanted of an exception that leaves the code -/
structure Cx where
  prog : Program
  w : World
  K : PySem.W.Frag
  mg : Str → Option Value
  base : Heap
  A : Around
  N : List Str
  s₀ : Shared
  H₀ : Hp
  env : Env
  outer : List Env
  stack : List Env
  ex : List Addr
  fn : Str → Bool
  calm : Bool
  pn : List (Addr × Obj)
  xe : Value → Shared → Prop
/-- the callers' frames -/
noncomputable def frs (l : List Env) : List Addr := l.filterMap (·.frame)
noncomputable abbrev Cx.fs (X : Cx) : List Addr := frs X.outer

noncomputable def Vis (sc : Scope) (x : Str) : Prop := sc.names.lookup x = some .local ∨ sc.names.lookup x = some .cell ∨ sc.names.lookup x = some .free
noncomputable def Loc (sc : Scope) (x : Str) : Prop := sc.names.lookup x = some .local ∨ sc.names.lookup x = some .cell
noncomputable def Look (env : Env) (h : Heap) (m : Str → Option Value) (x : Str) (u : Value) : Prop :=
  (env.kindOf x = some .local ∧ m x = some u) ∨ ((env.kindOf x = some .cell ∨ env.kindOf x = some .free) ∧ ∃ c, env.cells.lookup x = some c ∧ h.IsCell c (some u))

structure Cx.Ok (X : Cx) : Prop where
  mod : Mod X.K X.mg X.base
  kind : X.env.scope.kind = .function
  glob : X.env.globals = mainGlobals
  blt : X.env.builtins = builtinsNs
  above : X.s₀.heap.objs.size ≤ X.env.locals
  inj : ∀ x y c, X.env.cells.lookup x = some c → X.env.cells.lookup y = some c → x = y
  has : ∀ x, (X.env.kindOf x = some .cell ∨ X.env.kindOf x = some .free) → ∃ c, X.env.cells.lookup x = some c
  cab : ∀ x c, X.fn x = true → X.env.cells.lookup x = some c → X.s₀.heap.objs.size ≤ c
  hd : X.calm = true → X.A.handled = none
  frames : X.A.frames = some X.stack
  stk : X.stack = X.outer ∨ (X.stack = X.env :: X.outer ∧ X.env.frame = some X.env.locals)
  exf : ∀ b ∈ X.ex, b ≠ X.env.locals ∧ ∀ x c, X.env.cells.lookup x = some c → c ≠ b
  bs : ∀ b o, X.base.get? b = some o → X.s₀.heap.get? b = some o ∧ X.H₀ b = none
  bsz : X.base.objs.size ≤ X.s₀.heap.objs.size
  noex : ∀ b o, X.base.get? b = some o → b ∉ X.ex
  exfs : ∀ b ∈ X.ex, b ∉ X.fs
  funs : X.s₀.heap.FunFrames X.base X.outer
  frf : ∀ b ∈ X.fs, X.H₀ b = none

structure Inv (X : Cx) (pins : List (Addr × Obj)) (σ : List (Option V)) (H : Hp) (s : Shared) : Prop where
  ok : X.Ok
  os : s.os = X.s₀.os
  bare : AllBare s.gens
  base : Un X.fs X.ex X.H₀ H X.s₀.heap s.heap
  loc : ∃ m, s.heap.Ns X.env.locals m ∧ ∀ (i : Nat) (x : Str) (v : V), X.N[i]? = some x → σ[i]? = some (some v) → Vis X.env.scope x → ∃ u, RelV v u ∧ Look X.env s.heap m x u
  cell : ∀ x c, X.env.cells.lookup x = some c → ∃ v, s.heap.IsCell c v
  free : H X.env.locals = none
  freeC : ∀ x c, X.env.cells.lookup x = some c → H c = none
  pin : ∀ p ∈ X.pn ++ pins, s.heap.get? p.1 = some p.2 ∧ H p.1 = none ∧ p.1 ≠ X.env.locals ∧ p.1 ∉ X.fs ∧ ∀ v, p.2.data ≠ .cell v
  hok : HOk X.prog X.w H s.heap
  len : σ.length = X.N.length

section
variable {X : Cx} {pins : List (Addr × Obj)} {σ : List (Option V)} {H H' : Hp} {s : Shared} {h' : Heap}

theorem Cx.Ok.nofr (ok : X.Ok) {b : Addr} {o : Obj} (e : X.base.get? b = some o) : b ∉ X.fs := fun hb => by
  have := (ok.funs.mem hb).1
  rw [e] at this; cases this
theorem Inv.bs (I : Inv X pins σ H s) : ∀ b o, X.base.get? b = some o → s.heap.get? b = some o ∧ H b = none := fun b o e =>
  ⟨I.base.keep b o (I.ok.bs b o e).1 (I.ok.bs b o e).2 (I.ok.nofr e) (I.ok.noex b o e), I.base.free b o (I.ok.bs b o e).1 (I.ok.bs b o e).2 (I.ok.noex b o e)⟩
theorem Inv.bk (I : Inv X pins σ H s) : ∀ b o, X.base.get? b = some o → s.heap.get? b = some o := fun b o e => (I.bs b o e).1
theorem Inv.mod (I : Inv X pins σ H s) : Mod X.K X.mg X.base := I.ok.mod
theorem Inv.kIn (I : Inv X pins σ H s) : X.K.In s.heap := I.ok.mod.kin.keeps I.bk
theorem Inv.lt (I : Inv X pins σ H s) : X.env.locals < s.heap.objs.size := let ⟨_, hn, _⟩ := I.loc; hn.lt
theorem Inv.sz (I : Inv X pins σ H s) : X.s₀.heap.objs.size ≤ s.heap.objs.size := Nat.le_trans I.ok.above (Nat.le_of_lt I.lt)
theorem Inv.nofs (I : Inv X pins σ H s) {a : Addr} (h : s.heap.objs.size ≤ a) : a ∉ X.fs := fun hb => by
  obtain ⟨_, o, ho, _⟩ := I.ok.funs.mem hb
  exact absurd (Nat.lt_of_lt_of_le (Heap.lt_size ho) (Nat.le_trans I.sz h)) (Nat.lt_irrefl _)
theorem Inv.cne (I : Inv X pins σ H s) : ∀ x c, X.env.cells.lookup x = some c → c ≠ X.env.locals := fun x c e z => by
  obtain ⟨v, o, ho, hd⟩ := I.cell x c e
  obtain ⟨m, ⟨o', es, ep, ho', hd', _⟩, _⟩ := I.loc
  rw [z, ho'] at ho; cases ho; rw [hd'] at hd; cases hd
theorem Inv.funs (I : Inv X pins σ H s) : s.heap.FunFrames X.base X.outer := by
  have all : ∀ (l : List Env), (∀ b ∈ frs l, b ∈ X.fs) → X.s₀.heap.FunFrames X.base l → s.heap.FunFrames X.base l := by
    intro l
    induction l with
    | nil => intro _ _; trivial
    | cons env r ih =>
      intro hs hl
      obtain ⟨hk, ⟨L, o, hf, hn, ho, hd⟩, hr⟩ := hl
      have hL : L ∈ X.fs := hs L (by unfold frs; rw [List.filterMap_cons, hf]; exact List.mem_cons_self)
      obtain ⟨sl, e⟩ := I.base.slot L o ho (I.ok.frf L hL) hL fun z => I.ok.exfs L z hL
      exact ⟨hk, ⟨L, _, hf, hn, e, hd⟩, ih (fun b hb => hs b (by unfold frs; rw [List.filterMap_cons, hf]; exact List.mem_cons_of_mem _ hb)) hr⟩
  exact all X.outer (fun _ hb => hb) I.ok.funs

/-- the frames that run, for a call -/
theorem Inv.stack (I : Inv X pins σ H s) : s.heap.FunFrames X.base X.stack := by
  rcases I.ok.stk with e | ⟨e, hf⟩
  · rw [e]; exact I.funs
  · rw [e]
    obtain ⟨m, hn, _⟩ := I.loc
    refine .cons (by rw [I.ok.kind]; decide) hf hn ?_ I.funs
    exact Heap.get?_none_of_le (Nat.le_trans I.ok.bsz I.ok.above)
theorem Inv.stkSub (I : Inv X pins σ H s) : ∀ b ∈ frs X.stack, b ∈ X.env.locals :: X.fs := fun b hb => by
  rcases I.ok.stk with e | ⟨e, hf⟩
  · rw [e] at hb; exact List.mem_cons_of_mem _ hb
  · rw [e] at hb
    unfold frs at hb
    rw [List.filterMap_cons, hf] at hb
    exact hb
theorem Inv.stkFree (I : Inv X pins σ H s) : ∀ b ∈ frs X.stack, H b = none := fun b hb => by
  rcases List.mem_cons.mp (I.stkSub b hb) with e | hb
  · rw [e]; exact I.free
  · obtain ⟨_, o, ho, _⟩ := I.ok.funs.mem hb
    exact I.base.free b o ho (I.ok.frf b hb) fun z => I.ok.exfs b z hb

/-- THE STEP: the untracked objects but the frame and the records at ch are kept (the callers' frames up to slots), the frame's map is kept, the new abstract heap is held -/
theorem Inv.step {g' : Array GenState} {t' : Nat} {d' : Drawn} {ch : List Addr} (I : Inv X pins σ H s)
    (hch : ∀ b ∈ ch, (b ∈ X.ex ∨ X.s₀.heap.objs.size ≤ b) ∧ b ≠ X.env.locals ∧ (∀ x c, X.env.cells.lookup x = some c → c ≠ b) ∧ ∀ p ∈ X.pn ++ pins, p.1 ≠ b)
    (keep : ∀ b o, b ≠ X.env.locals → b ∉ X.fs → b ∉ ch → s.heap.get? b = some o → H b = none → h'.get? b = some o)
    (slot : ∀ b o, b ≠ X.env.locals → b ∈ X.fs → b ∉ ch → s.heap.get? b = some o → H b = none → ∃ sl, h'.get? b = some { o with slots := sl }) (free : ∀ b o, b ∉ ch → s.heap.get? b = some o → H b = none → H' b = none)
    (there : ∀ b o, b ∉ ch → s.heap.get? b = some o → ∃ o', h'.get? b = some o')
    (tups : ∀ b xs, H b = some (.tup xs) → H' b = some (.tup xs)) (frzs : ∀ b o u, H b = some (.frz o u) → H' b = some (.frz o u)) (tbls : ∀ b ps, H b = some (.tbl ps) → ∃ more, H' b = some (.tbl (ps ++ more)))
    (ns : ∀ m, s.heap.Ns X.env.locals m → h'.Ns X.env.locals m) (hok : HOk X.prog X.w H' h') (hg : AllBare g') :
    Inv X pins σ H' { s with heap := h', gens := g', drawn := d', toks := t' } := by
  have neL : ∀ b o, X.s₀.heap.get? b = some o → b ≠ X.env.locals := fun b o e => Nat.ne_of_lt (Nat.lt_of_lt_of_le (Heap.lt_size e) I.ok.above)
  have neC : ∀ b o, X.s₀.heap.get? b = some o → b ∉ X.ex → b ∉ ch := fun b o e hx hb => by
    rcases (hch b hb).1 with z | z
    · exact hx z
    · exact absurd (Nat.lt_of_lt_of_le (Heap.lt_size e) z) (Nat.lt_irrefl _)
  have cellK : ∀ x c, X.env.cells.lookup x = some c → ∀ v, s.heap.IsCell c v → h'.IsCell c v := fun x c e v ⟨o, ho, hd⟩ => by
    have nch : c ∉ ch := fun z => (hch c z).2.2.1 x c e rfl
    by_cases hc : c ∈ X.fs
    · obtain ⟨sl, q⟩ := slot c o (I.cne x c e) hc nch ho (I.freeC x c e)
      exact ⟨_, q, hd⟩
    · exact ⟨o, keep c o (I.cne x c e) hc nch ho (I.freeC x c e), hd⟩
  refine ⟨I.ok, I.os, hg, ⟨fun b o e n hb hx => ?_, fun b o e n hb hx => ?_, fun b o e n hx => ?_, fun b o e hx => ?_, fun b xs e => tups b xs (I.base.tups b xs e), fun b o xs e => frzs b o xs (I.base.frzs b o xs e), fun b ps e => ?_⟩, ?_, fun x c e => ?_, ?_, fun x c e => ?_, fun p hp => ?_, hok, I.len⟩
  · exact keep b o (neL b o e) hb (neC b o e hx) (I.base.keep b o e n hb hx) (I.base.free b o e n hx)
  · obtain ⟨sl, e1⟩ := I.base.slot b o e n hb hx
    obtain ⟨sl', e2⟩ := slot b _ (neL b o e) hb (neC b o e hx) e1 (I.base.free b o e n hx)
    exact ⟨sl', e2⟩
  · obtain ⟨o', e1⟩ := I.base.there b o e hx
    exact free b o' (neC b o e hx) e1 (I.base.free b o e n hx)
  · obtain ⟨o', e1⟩ := I.base.there b o e hx
    exact there b o' (neC b o e hx) e1
  · obtain ⟨m1, e1⟩ := I.base.tbls b ps e
    obtain ⟨m2, e2⟩ := tbls b _ e1
    exact ⟨m1 ++ m2, by rw [e2, Array.append_assoc]⟩
  · obtain ⟨m, hn, hl⟩ := I.loc
    refine ⟨m, ns m hn, fun i x v e1 e2 e3 => ?_⟩
    obtain ⟨u, r, l⟩ := hl i x v e1 e2 e3
    refine ⟨u, r, ?_⟩
    rcases l with l | ⟨k, c, e, z⟩
    · exact .inl l
    · exact .inr ⟨k, c, e, cellK x c e _ z⟩
  · obtain ⟨v, z⟩ := I.cell x c e
    exact ⟨v, cellK x c e v z⟩
  · obtain ⟨m, ⟨o, _, _, ho, _⟩, _⟩ := I.loc
    exact free _ o (fun z => (hch _ z).2.1 rfl) ho I.free
  · obtain ⟨v, o, ho, hd⟩ := I.cell x c e
    exact free c o (fun z => (hch c z).2.2.1 x c e rfl) ho (I.freeC x c e)
  · obtain ⟨e, n, ne, nf, d⟩ := I.pin p hp
    have nch : p.1 ∉ ch := fun z => (hch p.1 z).2.2.2 p hp rfl
    exact ⟨keep p.1 p.2 ne nf nch e n, free p.1 p.2 nch e n, ne, nf, d⟩
/-- .. where the frame's own object is kept too -/
theorem Inv.un {t' : Nat} (I : Inv X pins σ H s) (u : Un X.fs [] H H' s.heap h') (hok : HOk X.prog X.w H' h') : Inv X pins σ H' { s with heap := h', toks := t' } := by
  obtain ⟨m, ⟨o, es, ep, ho, r⟩, _⟩ := id I.loc
  obtain ⟨sl, hL⟩ := u.any ho I.free (by simp)
  exact I.step (g' := s.gens) (d' := s.drawn) (ch := []) (fun _ z => nomatch z) (fun b o _ hb _ e n => u.keep b o e n hb (by simp)) (fun b o _ hb _ e n => u.slot b o e n hb (by simp)) (fun b o _ e n => u.free b o e n (by simp)) (fun b o _ e => u.there b o e (by simp)) u.tups u.frzs u.tbls (fun m' hm => by
    obtain ⟨o', es', ep', ho', r'⟩ := hm
    rw [ho] at ho'; cases ho'
    exact ⟨_, es', ep', hL, r'⟩) hok I.bare
/-- behind a call (or a comprehension's block): the slots of this frame may have changed too, the records at ch may have turned -/
theorem Inv.call {g' : Array GenState} {t' : Nat} {d' : Drawn} {ch : List Addr} (I : Inv X pins σ H s) (u : Un (frs X.stack) ch H H' s.heap h') (hok : HOk X.prog X.w H' h') (hg : AllBare g')
    (hch : ∀ b ∈ ch, (b ∈ X.ex ∨ X.s₀.heap.objs.size ≤ b) ∧ b ≠ X.env.locals ∧ (∀ x c, X.env.cells.lookup x = some c → c ≠ b) ∧ ∀ p ∈ X.pn ++ pins, p.1 ≠ b) :
    Inv X pins σ H' { s with heap := h', gens := g', drawn := d', toks := t' } := by
  obtain ⟨m, ⟨o, es, ep, ho, r⟩, _⟩ := id I.loc
  obtain ⟨sl, hL⟩ := u.any ho I.free fun z => (hch _ z).2.1 rfl
  exact I.step (ch := ch) hch (fun b o hL hb hc e n => u.keep b o e n (fun z => (List.mem_cons.mp (I.stkSub b z)).elim hL hb) hc) (fun b o _ _ hc e n => u.any e n hc) (fun b o hc e n => u.free b o e n hc) (fun b o hc e => u.there b o e hc) u.tups u.frzs u.tbls (fun m' hm => by
    obtain ⟨o', es', ep', ho', r'⟩ := hm
    rw [ho] at ho'; cases ho'
    exact ⟨_, es', ep', hL, r'⟩) hok hg
/-- an untracked record of ours (an iterator) has turned -/
theorem Inv.turned {t' : Nat} {it : Addr} (I : Inv X pins σ H s) (k : ∀ b o, b ≠ it → s.heap.get? b = some o → h'.get? b = some o) (hn : H it = none) (hL : it ≠ X.env.locals)
    (h1 : it ∈ X.ex ∨ X.s₀.heap.objs.size ≤ it) (h2 : ∀ x c, X.env.cells.lookup x = some c → c ≠ it) (h3 : ∀ p ∈ X.pn ++ pins, p.1 ≠ it) : Inv X pins σ H { s with heap := h', toks := t' } := by
  have nit : ∀ b u, H b = some u → b ≠ it := fun b u e z => by rw [z, hn] at e; cases e
  refine I.step (g' := s.gens) (d' := s.drawn) (ch := [it]) (fun b hb => ?_) (fun b o _ _ hc e _ => k b o (fun z => hc (by simp [z])) e) (fun b o _ _ hc e _ => ⟨o.slots, k b o (fun z => hc (by simp [z])) e⟩) (fun _ _ _ _ n => n)
    (fun b o hc e => ⟨o, k b o (fun z => hc (by simp [z])) e⟩) (fun _ _ e => e) (fun _ _ _ e => e) (fun b ps e => ⟨#[], by rw [e]; simp⟩) (fun m hm => ?_) (fun b u e => ?_) I.bare
  · have e : b = it := by simpa using hb
    subst e
    exact ⟨h1, hL, h2, h3⟩
  · obtain ⟨o, es, ep, ho, r⟩ := hm
    exact ⟨o, es, ep, k _ o (Ne.symm hL) ho, r⟩
  · refine (I.hok b u e).stay (fun c v hc q => k c v ?_ q) (fun _ q => q) fun _ _ q => q
    rcases hc with z | z
    · rw [z]; exact nit b u e
    · exact nit c _ z
theorem Inv.tok (I : Inv X pins σ H s) (t : Nat) : Inv X pins σ H { s with toks := t } := I.un (h' := s.heap) (t' := t) Un.refl I.hok
/-- all objects kept -/
theorem Inv.kept {t' : Nat} (I : Inv X pins σ H s) (k : ∀ b u, s.heap.get? b = some u → h'.get? b = some u) : Inv X pins σ H { s with heap := h', toks := t' } := I.un (Un.kept k) (I.hok.kept k)
/-- a new object laid and tracked -/
theorem Inv.laid {a : Addr} {o : HO} {t' : Nat} (I : Inv X pins σ H s) (k : ∀ b u, s.heap.get? b = some u → h'.get? b = some u) (hp : s.heap.objs.size ≤ a) (new : ObjOk X.prog X.w (upd H a o) h' a o) :
    Inv X pins σ (upd H a o) { s with heap := h', toks := t' } := I.un (Un.laid k hp (I.hok.fresh hp)) (I.hok.laid k hp new)
/-- an object written -/
theorem Inv.write {x e : Addr} {o : HO} {t' : Nat} (I : Inv X pins σ H s) (mu : Mut (H x)) (he : e = x ∨ H e = some (.own x)) (k : ∀ b u, b ≠ e → s.heap.get? b = some u → h'.get? b = some u) (heo : ∃ u, h'.get? e = some u)
    (new : ObjOk X.prog X.w (upd H x o) h' x o) : Inv X pins σ (upd H x o) { s with heap := h', toks := t' } := I.un (Un.write mu he k heo) (I.hok.write mu he k heo new)
theorem Inv.pins_of {pins' : List (Addr × Obj)} (I : Inv X pins σ H s) (h : ∀ p ∈ pins', s.heap.get? p.1 = some p.2 ∧ H p.1 = none ∧ p.1 ≠ X.env.locals ∧ p.1 ∉ X.fs ∧ ∀ v, p.2.data ≠ .cell v) : Inv X pins' σ H s :=
  ⟨I.ok, I.os, I.bare, I.base, I.loc, I.cell, I.free, I.freeC, fun p hp => (List.mem_append.mp hp).elim (fun z => I.pin p (List.mem_append_left _ z)) (h p), I.hok, I.len⟩

theorem nodup_ix {N : List Str} (hN : N.Nodup) {i j : Nat} {x : Str} (a : N[i]? = some x) (b : N[j]? = some x) : i = j := by
  obtain ⟨h1, e1⟩ := List.getElem?_eq_some_iff.mp a
  obtain ⟨h2, e2⟩ := List.getElem?_eq_some_iff.mp b
  exact (List.getElem_inj hN).mp (e1.trans e2.symm)

/-- a name is stored; what changed -/
theorem store_ok2 {M : Model} {A : Around} {E : Value → Shared → Prop} {i : Nat} {x : Str} {v : V} {u : Value} {Q : Unit → Shared → Prop} (I : Inv X pins σ H s) (hN : X.N.Nodup) (hi : X.N[i]? = some x) (hx : Loc X.env.scope x) (r : RelV v u)
    (h : ∀ s', Inv X pins (σ.set i (some v)) H s' → (∃ a, Heap.SameBut a s.heap s'.heap ∧ (a = X.env.locals ∨ X.env.cells.lookup x = some a)) → Q () s') (hf : X.fn x = true ∨ X.env.scope.names.lookup x = some .local := by first | exact .inl rfl | exact .inr rfl | assumption) : wpAny M A (storeName X.env x u) Q E s := by
  obtain ⟨m, hn, hl⟩ := id I.loc
  have hcls : (X.env.scope.kind == .class || (X.env.scope.kind == .module && X.env.locals != X.env.globals)) = false := by rw [I.ok.kind]; rfl
  have hiσ : i < σ.length := by rw [I.len]; exact (List.getElem?_eq_some_iff.mp hi).1
  have cne := I.cne
  have tracked : ∀ {a : Addr} {h' : Heap}, (∃ o, s.heap.get? a = some o ∧ H a = none) → Heap.SameBut a s.heap h' → HOk X.prog X.w H h' := fun {a h'} ha hs b ob e => by
    obtain ⟨_, _, hfree⟩ := ha
    refine (I.hok b ob e).stay (fun c w' hc q => (hs.2 c ?_).trans q) (fun _ q => q) fun _ _ q => q
    rintro rfl
    rcases hc with rfl | hc
    · rw [hfree] at e; cases e
    · rw [hfree] at hc; cases hc
  rcases hx with hk | hk
  · refine wpAny_storeName_local hk hn (fun h' hn' hs => ?_) hcls
    obtain ⟨oL, _, _, hoL, _⟩ := id hn
    refine h _ ⟨I.ok, I.os, I.bare, ⟨fun b o e n hb hx => ?_, fun b o e n hb hx => ?_, I.base.free, fun b o e hx => ?_, I.base.tups, I.base.frzs, I.base.tbls⟩, ⟨_, hn', fun j y v' e1 e2 e3 => ?_⟩, fun y c e => ?_, I.free, I.freeC, fun p hp => ?_, tracked ⟨oL, hoL, I.free⟩ hs, by simpa using I.len⟩ ⟨_, hs, .inl rfl⟩
    · exact (hs.2 b (Nat.ne_of_lt (Nat.lt_of_lt_of_le (Heap.lt_size e) I.ok.above))).trans (I.base.keep b o e n hb hx)
    · obtain ⟨sl, e1⟩ := I.base.slot b o e n hb hx
      exact ⟨sl, (hs.2 b (Nat.ne_of_lt (Nat.lt_of_lt_of_le (Heap.lt_size e) I.ok.above))).trans e1⟩
    · obtain ⟨o', e1⟩ := I.base.there b o e hx
      exact ⟨o', (hs.2 b (Nat.ne_of_lt (Nat.lt_of_lt_of_le (Heap.lt_size e) I.ok.above))).trans e1⟩
    · by_cases hj : j = i
      · subst hj
        rw [hi] at e1; cases e1
        rw [List.getElem?_set_self hiσ] at e2
        cases e2
        exact ⟨u, r, .inl ⟨hk, by simp⟩⟩
      · rw [List.getElem?_set_ne (Ne.symm hj)] at e2
        obtain ⟨u', r', q⟩ := hl j y v' e1 e2 e3
        refine ⟨u', r', ?_⟩
        rcases q with ⟨k, e⟩ | ⟨k, c, e, z⟩
        · refine .inl ⟨k, ?_⟩
          have : y ≠ x := fun e => hj (nodup_ix hN e1 (e ▸ hi))
          simp [this, e]
        · exact .inr ⟨k, c, e, z.sameBut hs (cne y c e)⟩
    · obtain ⟨w', z⟩ := I.cell y c e
      exact ⟨w', z.sameBut hs (cne y c e)⟩
    · obtain ⟨e, n, ne, nf, d⟩ := I.pin p hp
      exact ⟨(hs.2 p.1 ne).trans e, n, ne, nf, d⟩
  · have hfn : X.fn x = true := by
      rcases hf with z | z
      · exact z
      · rw [z] at hk; cases hk
    obtain ⟨c, hc⟩ := I.ok.has x (.inl hk)
    obtain ⟨w', z⟩ := I.cell x c hc
    refine wpAny_storeName_cell I.ok.kind hk hc z (fun h' hc' hs => ?_)
    obtain ⟨oc, hoc, hocd⟩ := id z
    refine h { s with heap := h' } ⟨I.ok, I.os, I.bare, ⟨fun b o e n hb hx => ?_, fun b o e n hb hx => ?_, I.base.free, fun b o e hx => ?_, I.base.tups, I.base.frzs, I.base.tbls⟩, ⟨m, hn.sameBut hs (Ne.symm (cne x c hc)), fun j y v' e1 e2 e3 => ?_⟩, fun y c' e => ?_, I.free, I.freeC, fun p hp => ?_, tracked ⟨oc, hoc, I.freeC x c hc⟩ hs, by simpa using I.len⟩ ⟨c, hs, .inr hc⟩
    · exact (hs.2 b (Nat.ne_of_lt (Nat.lt_of_lt_of_le (Heap.lt_size e) (I.ok.cab x c hfn hc)))).trans (I.base.keep b o e n hb hx)
    · obtain ⟨sl, e1⟩ := I.base.slot b o e n hb hx
      exact ⟨sl, (hs.2 b (Nat.ne_of_lt (Nat.lt_of_lt_of_le (Heap.lt_size e) (I.ok.cab x c hfn hc)))).trans e1⟩
    · obtain ⟨o', e1⟩ := I.base.there b o e hx
      exact ⟨o', (hs.2 b (Nat.ne_of_lt (Nat.lt_of_lt_of_le (Heap.lt_size e) (I.ok.cab x c hfn hc)))).trans e1⟩
    · by_cases hj : j = i
      · subst hj
        rw [hi] at e1; cases e1
        rw [List.getElem?_set_self hiσ] at e2
        cases e2
        exact ⟨u, r, .inr ⟨.inl hk, c, hc, hc'⟩⟩
      · rw [List.getElem?_set_ne (Ne.symm hj)] at e2
        obtain ⟨u', r', q⟩ := hl j y v' e1 e2 e3
        refine ⟨u', r', ?_⟩
        rcases q with q | ⟨k, c', e, z'⟩
        · exact .inl q
        · refine .inr ⟨k, c', e, z'.sameBut hs ?_⟩
          rintro rfl
          exact hj (nodup_ix hN e1 (I.ok.inj _ _ _ e hc ▸ hi))
    · by_cases hcc : c' = c
      · subst hcc; exact ⟨_, hc'⟩
      · obtain ⟨w2, z2⟩ := I.cell y c' e
        exact ⟨w2, z2.sameBut hs hcc⟩
    · obtain ⟨e, n, ne, nf, d⟩ := I.pin p hp
      refine ⟨(hs.2 p.1 ?_).trans e, n, ne, nf, d⟩
      intro q
      rw [q, hoc] at e
      have q' : oc = p.2 := Option.some.inj e
      exact d w' (by rw [← q']; exact hocd)
theorem store_ok {M : Model} {A : Around} {E : Value → Shared → Prop} {i : Nat} {x : Str} {v : V} {u : Value} {Q : Unit → Shared → Prop} (I : Inv X pins σ H s) (hN : X.N.Nodup) (hi : X.N[i]? = some x) (hx : Loc X.env.scope x) (r : RelV v u)
    (h : ∀ s', Inv X pins (σ.set i (some v)) H s' → Q () s') (hf : X.fn x = true ∨ X.env.scope.names.lookup x = some .local := by first | exact .inl rfl | exact .inr rfl | assumption) : wpAny M A (storeName X.env x u) Q E s :=
  store_ok2 I hN hi hx r (fun s' I' _ => h s' I') hf
/-- behind a call or a block, the state as it is -/
theorem Inv.call' {s' : Shared} {ch : List Addr} (I : Inv X pins σ H s) (ho : s'.os = s.os) (u : Un (frs X.stack) ch H H' s.heap s'.heap) (hok : HOk X.prog X.w H' s'.heap) (hg : AllBare s'.gens)
    (hch : ∀ b ∈ ch, (b ∈ X.ex ∨ X.s₀.heap.objs.size ≤ b) ∧ b ≠ X.env.locals ∧ (∀ x c, X.env.cells.lookup x = some c → c ≠ b) ∧ ∀ p ∈ X.pn ++ pins, p.1 ≠ b) : Inv X pins σ H' s' := by
  obtain ⟨h', g', d', t', o'⟩ := s'
  have e : o' = s.os := ho
  subst e
  exact I.call (g' := g') (t' := t') (d' := d') u hok hg hch
end

/-! ### the judgements -/
/-- an exception: its class, its own dict's address (where it has one), the abstract heap behind it -/
noncomputable abbrev XK := Value → Option Addr → Hp → Prop
noncomputable abbrev St := List (Option V)
noncomputable abbrev VK := V → Hp → Prop
/-- an expression's reading; a test's; an argument list's -/
noncomputable abbrev TE := St → Hp → VK → Prop
noncomputable abbrev TT := St → Hp → (Bool → Hp → Prop) → Prop
noncomputable abbrev TA := St → Hp → (List V → Hp → Prop) → Prop
/-- what is wanted behind a statement -/
structure Ends where
  nx : St → Hp → Prop
  rt : VK
  bk : St → Hp → Prop := fun _ _ => False
  ct : St → Hp → Prop := fun _ _ => False
noncomputable abbrev TS := Ends → St → Hp → Prop

noncomputable def EP (X : Cx) (pins : List (Addr × Obj)) (σ : St) (Q : VK) (u : Value) (s' : Shared) : Prop := ∃ v H', Inv X pins σ H' s' ∧ RelV v u ∧ Q v H'
noncomputable def TP (X : Cx) (pins : List (Addr × Obj)) (σ : St) (Q : Bool → Hp → Prop) (b : Bool) (s' : Shared) : Prop := ∃ H', Inv X pins σ H' s' ∧ Q b H'
noncomputable def AP (X : Cx) (pins : List (Addr × Obj)) (σ : St) (Q : List V → Hp → Prop) (us : List Value) (s' : Shared) : Prop := ∃ vs H', Inv X pins σ H' s' ∧ Vals vs us ∧ Q vs H'
noncomputable def SP (X : Cx) (pins : List (Addr × Obj)) (D : Ends) (f : Flow) (s' : Shared) : Prop :=
  match f with
  | .next => ∃ σ' H', Inv X pins σ' H' s' ∧ D.nx σ' H'
  | .brk => ∃ σ' H', Inv X pins σ' H' s' ∧ D.bk σ' H'
  | .cont => ∃ σ' H', Inv X pins σ' H' s' ∧ D.ct σ' H'
  | .ret u => ∃ v σ' H', Inv X pins σ' H' s' ∧ RelV v u ∧ D.rt v H'

noncomputable def PE (X : Cx) (e : Expr) (t : TE) : Prop :=
  ∀ (pins : List (Addr × Obj)) (s : Shared) (σ : St) (H : Hp) (Q : VK), Inv X pins σ H s → t σ H Q → wpAny (model X.prog X.w) X.A (eval e X.env) (EP X pins σ Q) X.xe s
noncomputable def PT (X : Cx) (e : Expr) (t : TT) : Prop :=
  ∀ (pins : List (Addr × Obj)) (s : Shared) (σ : St) (H : Hp) (Q : Bool → Hp → Prop), Inv X pins σ H s → t σ H Q → wpAny (model X.prog X.w) X.A (isTrue e X.env (eval e X.env)) (TP X pins σ Q) X.xe s
/-- a test whatever its 'whole' is (and, or) -/
noncomputable def PW (X : Cx) (e : Expr) (t : TT) : Prop :=
  ∀ (whole : Sem Value) (pins : List (Addr × Obj)) (s : Shared) (σ : St) (H : Hp) (Q : Bool → Hp → Prop), Inv X pins σ H s → t σ H Q → wpAny (model X.prog X.w) X.A (isTrue e X.env whole) (TP X pins σ Q) X.xe s
theorem PW.pt {X : Cx} {e : Expr} {t : TT} (h : PW X e t) : PT X e t := h _
/-- an argument list (no star), from the left -/
noncomputable def PA (X : Cx) (es : List Expr) (t : TA) : Prop :=
  ∀ (pos : Pos) (pins : List (Addr × Obj)) (s : Shared) (σ : St) (H : Hp) (Q : List V → Hp → Prop), Inv X pins σ H s → t σ H Q → wpAny (model X.prog X.w) X.A (spliced (backTo pos (starEach es X.env))) (AP X pins σ Q) X.xe s
noncomputable def PS (X : Cx) (st : Stmt) (t : TS) : Prop :=
  ∀ (pins : List (Addr × Obj)) (s : Shared) (σ : St) (H : Hp) (D : Ends), Inv X pins σ H s → t D σ H → wpAny (model X.prog X.w) X.A (exec st X.env) (SP X pins D) X.xe s
noncomputable def PSs (X : Cx) (st : List Stmt) (t : TS) : Prop :=
  ∀ (pins : List (Addr × Obj)) (s : Shared) (σ : St) (H : Hp) (D : Ends), Inv X pins σ H s → t D σ H → wpAny (model X.prog X.w) X.A (execs st X.env) (SP X pins D) X.xe s
/-- weaken the end -/
theorem thn {α : Type} {t : Sem α} {Q Q' : α → Shared → Prop} {M : Model} {A : Around} {E : Value → Shared → Prop} {s : Shared} (h : wpAny M A t Q E s) (hQ : ∀ a s, Q a s → Q' a s) : wpAny M A t Q' E s := wpAny_mono h hQ fun _ _ x => x
end L2

namespace L2
open PySem PySem.Spec PyProof.Rows
section
variable {X : Cx}


/-! ### names and constants -/
noncomputable def tVar (i : Nat) : TE := fun σ H Q => ∃ v, σ[i]? = some (some v) ∧ Q v H
noncomputable def tC (v : V) : TE := fun _ H Q => Q v H
theorem pe_var {i : Nat} {x : Str} {pos : Pos} (hN : X.N[i]? = some x) (hv : Vis X.env.scope x) (hd : (x == ("__debug__" : Str)) = false := by decide) (hcd : (x == ("__classdict__" : Str)) = false := by decide) : PE X (.Name x pos) (tVar i) := by
  intro pins s σ H Q I h
  obtain ⟨v, e, h⟩ := h
  obtain ⟨m, hn, hl⟩ := I.loc
  obtain ⟨u, r, l⟩ := hl i x v hN e hv
  have fin : EP X pins σ Q u s := ⟨v, H, I, r, h⟩
  rcases l with ⟨hk, hm⟩ | ⟨hk, c, hc, hcell⟩
  · exact wpAny_Name (wpAny_loadName_local I.ok.kind hk hn hm fin) hd
  · rcases hk with hk | hk
    · exact wpAny_Name (wpAny_loadName_cell I.ok.kind hk hc hcell fin) hd
    · exact wpAny_Name (wpAny_loadName_free I.ok.kind hk hc hcell fin hcd) hd
theorem pe_int {i j pos} : PE X (.Constant (.int i) j pos) (tC (.int i)) := fun _ _ _ H _ I h => wpAny_Constant_int ⟨.int i, H, I.tok _, ⟨_, rfl⟩, h⟩
theorem pe_bl {b j pos} : PE X (.Constant (.bool b) j pos) (tC (.bl b)) := fun _ _ _ H _ I h => Constant_bool ⟨.bl b, H, I, rfl, h⟩
theorem pe_str {x j pos} : PE X (.Constant (.str x) j pos) (tC (.str x)) := fun _ _ _ H _ I h => Calls.Constant_str ⟨.str x, H, I.tok _, ⟨_, rfl⟩, h⟩

/-- a global name of the def -/
noncomputable def Gl (X : Cx) (x : Str) : Prop := X.env.kindOf x = some .globalImplicit
theorem ld_glob {E : Value → Shared → Prop} {pins : List (Addr × Obj)} {s : Shared} {σ : St} {H : Hp} {x : Str} {u : Value} {pos : Pos} {Q : Value → Shared → Prop} (I : Inv X pins σ H s) (hg : Gl X x) (hm : X.mg x = some u) (h : Q u s)
    (hd : (x == ("__debug__" : Str)) = false := by decide) : wpAny (model X.prog X.w) X.A (eval (.Name x pos) X.env) Q E s :=
  Calls.Name_function_global I.ok.kind hg (Calls.loadGlobal_global (by rw [I.ok.glob]; exact I.mod.glob.keeps I.bk) hm h) hd
theorem ld_blt {E : Value → Shared → Prop} {pins : List (Addr × Obj)} {s : Shared} {σ : St} {H : Hp} {x : Str} {u : Value} {pos : Pos} {Q : Value → Shared → Prop} (I : Inv X pins σ H s) (hg : Gl X x) (hm : X.mg x = none) (hv : bootBuiltins x = some u) (h : Q u s)
    (hn : x ≠ "__name__" := by decide) (hd : (x == ("__debug__" : Str)) = false := by decide) : wpAny (model X.prog X.w) X.A (eval (.Name x pos) X.env) Q E s := by
  obtain ⟨mb, h1, h2⟩ := I.mod.blt
  exact Calls.Name_function_global I.ok.kind hg (Calls.loadGlobal_builtin (by rw [I.ok.glob]; exact I.mod.glob.keeps I.bk) hm (by rw [I.ok.blt]; exact h1.keeps I.bk) ((h2 x hn).trans hv) h) hd
/-- a module's constant, a class, a function, as a value -/
theorem pe_glob {x : Str} {v : V} {u : Value} {pos : Pos} (hg : Gl X x) (hm : X.mg x = some u) (r : RelV v u) (hd : (x == ("__debug__" : Str)) = false := by decide) : PE X (.Name x pos) (tC v) :=
  fun _ _ _ H _ I h => ld_glob I hg hm ⟨v, H, I, r, h⟩ hd
theorem pe_bltn {x : Str} {v : V} {u : Value} {pos : Pos} (hg : Gl X x) (hm : X.mg x = none) (hv : bootBuiltins x = some u) (r : RelV v u) (hn : x ≠ "__name__" := by decide) (hd : (x == ("__debug__" : Str)) = false := by decide) : PE X (.Name x pos) (tC v) :=
  fun _ _ _ H _ I h => ld_blt I hg hm hv ⟨v, H, I, r, h⟩ hn hd

/-! ### arithmetic -/
variable {a b : Expr} {ta tb : TE} {pos : Pos}

/-! ### comparisons -/
/-- a comparison as a value, as a test -/
noncomputable def tB (t : TE) : TT := fun σ H Q => t σ H fun x H1 => ∃ c, x = .bl c ∧ Q c H1
/-- an expression whose value is a bool, as a test -/
theorem pt_val {e : Expr} {t : TE} (h : PE X e t) (he : ∀ whole, isTrue e X.env whole = (do let v ← whole; standAt e.pos; holding [v] (truthy v)) := by intro _; rfl) : PT X e (tB t) := by
  intro pins s σ H Q I hw
  refine isTrue_plain (thn (h pins s σ H _ I hw) fun v s1 zz => ?_) (he _)
  obtain ⟨x, H1, I1, r1, q1⟩ := zz
  obtain ⟨d, rfl, q⟩ := q1
  cases r1
  exact wpAny_truthy_bool ⟨H1, I1, q⟩

/-! ### and, or, not -/
variable {tA tB' : TT} {rest : List Expr}
noncomputable def tAnd (t u : TT) : TT := fun σ H Q => t σ H fun c H1 => if c = true then u σ H1 Q else Q false H1
noncomputable def tOr (t u : TT) : TT := fun σ H Q => t σ H fun c H1 => if c = true then Q true H1 else u σ H1 Q
noncomputable def tNot (t : TT) : TT := fun σ H Q => t σ H fun c H1 => Q (!c) H1
theorem pw_and1 (ha : PT X a tA) : PW X (.BoolOp .And [a] pos) tA := by
  intro wh pins s σ H Q I h
  refine isTrue_and (thn (ha pins s σ H Q I h) fun c s1 e => ?_)
  cases c with
  | true => exact isTrue_and_nil e
  | false => exact e
theorem pw_or1 (ha : PT X a tA) : PW X (.BoolOp .Or [a] pos) tA := by
  intro wh pins s σ H Q I h
  refine isTrue_or (thn (ha pins s σ H Q I h) fun c s1 e => ?_)
  cases c with
  | false => exact isTrue_or_nil e
  | true => exact e
theorem pw_and (ha : PT X a tA) (hb : PW X (.BoolOp .And (b :: rest) pos) tB') : PW X (.BoolOp .And (a :: b :: rest) pos) (tAnd tA tB') := by
  intro wh pins s σ H Q I h
  refine isTrue_and (thn (ha pins s σ H _ I h) fun c s1 zz => ?_)
  obtain ⟨H1, I1, q1⟩ := zz
  cases c with
  | true => exact hb wh pins s1 σ H1 Q I1 q1
  | false => exact ⟨H1, I1, q1⟩
theorem pw_or (ha : PT X a tA) (hb : PW X (.BoolOp .Or (b :: rest) pos) tB') : PW X (.BoolOp .Or (a :: b :: rest) pos) (tOr tA tB') := by
  intro wh pins s σ H Q I h
  refine isTrue_or (thn (ha pins s σ H _ I h) fun c s1 zz => ?_)
  obtain ⟨H1, I1, q1⟩ := zz
  cases c with
  | true => exact ⟨H1, I1, q1⟩
  | false => exact hb wh pins s1 σ H1 Q I1 q1
theorem pt_not (ha : PT X a tA) : PT X (.UnaryOp .Not a pos) (tNot tA) := by
  intro pins s σ H Q I h
  exact isTrue_not (ha pins s σ H (fun c H1 => Q (!c) H1) I h)
/-- .. as values (bools) -/
noncomputable def tAndV (ta tb : TE) : TE := fun σ H Q => ta σ H fun x H1 => ∃ c, x = .bl c ∧ if c = true then tb σ H1 Q else Q (.bl false) H1
noncomputable def tNotV (ta : TE) : TE := fun σ H Q => ta σ H fun x H1 => ∃ c, x = .bl c ∧ Q (.bl (!c)) H1
theorem pe_one {op} {t : TE} (h : PE X a t) : PE X (.BoolOp op [a] pos) t := fun pins s σ H Q I hw => BoolOp_one (h pins s σ H Q I hw)
theorem pe_and (ha : PE X a ta) (hb : PE X (.BoolOp .And (b :: rest) pos) tb) : PE X (.BoolOp .And (a :: b :: rest) pos) (tAndV ta tb) := by
  intro pins s σ H Q I h
  refine BoolOp_and (thn (ha pins s σ H _ I h) fun v s1 zz => ?_)
  obtain ⟨x, H1, I1, r1, q1⟩ := zz
  obtain ⟨c, rfl, q1⟩ := q1
  cases r1
  refine wpAny_truthy_bool ?_
  cases c with
  | true => exact hb pins s1 σ H1 Q I1 q1
  | false => exact ⟨.bl false, H1, I1, rfl, q1⟩
theorem pe_not (ha : PE X a ta) : PE X (.UnaryOp .Not a pos) (tNotV ta) := by
  intro pins s σ H Q I h
  refine UnaryOp_ (thn (ha pins s σ H _ I h) fun v s1 zz => ?_)
  obtain ⟨x, H1, I1, r1, q1⟩ := zz
  obtain ⟨c, rfl, q1⟩ := q1
  cases r1
  exact not_of (wpAny_truthy_bool ⟨.bl (!c), H1, I1, rfl, q1⟩)
end
end L2

namespace L2
open PySem PySem.Spec PyProof.Rows

/-! ### a list, a tuple that is read: tracked, frozen, or an object of the module -/
noncomputable def SqL (K : PySem.W.Frag) (H : Hp) (a : Addr) (xs : List V) : Prop :=
  Rd H a (.lst xs) ∨
    ∃ (o : Obj) (its : Array Value) (n : Nat), K.lookup a = some o ∧ o.cls = .type "list" ∧ o.dict = none ∧ o.data = .seq its n ∧ its.size ≤ sizeLine ∧ Vals xs its.toList
noncomputable def SqT (K : PySem.W.Frag) (H : Hp) (a : Addr) (xs : List V) : Prop :=
  Rd H a (.tup xs) ∨
    ∃ (o : Obj) (its : Array Value) (n : Nat), K.lookup a = some o ∧ o.cls = .type "tuple" ∧ o.data = .seq its n ∧ its.size ≤ sizeLine ∧ Vals xs its.toList
noncomputable def absV : Value → Option V
  | .none => some .non
  | .bool b => some (.bl b)
  | .int i _ => some (.int i)
  | .str x _ => some (.str x)
  | .bytes b _ => some (.byt b)
  | .float b _ => some (.flt b)
  | .ref a => some (.ref a)
  | .type n => some (.ty n)
  | _ => none
theorem RelV.abs {x : V} {u : Value} (r : RelV x u) : absV u = some x := by
  cases x with
  | non => cases r; rfl
  | bl _ => cases r; rfl
  | int _ => obtain ⟨t, rfl⟩ := r; rfl
  | str _ => obtain ⟨t, rfl⟩ := r; rfl
  | byt _ => obtain ⟨t, rfl⟩ := r; rfl
  | flt _ => obtain ⟨t, rfl⟩ := r; rfl
  | ref _ => cases r; rfl
  | ty _ => cases r; rfl
theorem RelV.inj {x y : V} {u : Value} (r : RelV x u) (q : RelV y u) : x = y := Option.some.inj (r.abs.symm.trans q.abs)
theorem Vals.inj : ∀ {xs ys : List V} {us : List Value}, Vals xs us → Vals ys us → xs = ys
  | _, _, _, .nil, .nil => rfl
  | _, _, _, .cons r t, .cons r' t' => by rw [r.inj r', Vals.inj t t']
section
variable {X : Cx} {pins : List (Addr × Obj)} {σ : St} {H : Hp} {s : Shared} {a : Addr} {xs ys : List V}
theorem SqL.of {K : PySem.W.Frag} (h : H a = some (.lst xs)) : SqL K H a xs := .inl (.inl h)
theorem SqT.of {K : PySem.W.Frag} (h : H a = some (.tup xs)) : SqT K H a xs := .inl (.inl h)
theorem Inv.list (I : Inv X pins σ H s) (h : SqL X.K H a xs) : ∃ its : List Value, Vals xs its ∧ PlainL s.heap a its.toArray ∧ xs.length ≤ sizeLine := by
  rcases h with h | ⟨o, its, n, hk, hc, hd, hs, hz, r⟩
  · obtain ⟨z, its, n, r, e⟩ := h.ok I.hok
    exact ⟨its, r, ⟨_, n, e, rfl, rfl, rfl⟩, z⟩
  · refine ⟨its.toList, r, ⟨o, n, I.kIn a o hk, hc, hd, by simpa using hs⟩, ?_⟩
    have e := r.length
    simp only [Array.length_toList] at e
    omega
theorem Inv.tuple (I : Inv X pins σ H s) (h : SqT X.K H a xs) : ∃ its : List Value, Vals xs its ∧ IsTup s.heap a its.toArray ∧ xs.length ≤ sizeLine := by
  rcases h with h | ⟨o, its, n, hk, hc, hs, hz, r⟩
  · obtain ⟨z, its, r, p⟩ := h.ok I.hok
    exact ⟨its, r, p, z⟩
  · refine ⟨its.toList, r, ⟨o, I.kIn a o hk, hc, n, by simpa using hs⟩, ?_⟩
    have e := r.length
    simp only [Array.length_toList] at e
    omega
theorem Inv.list_inj (I : Inv X pins σ H s) (h : SqL X.K H a xs) (h' : SqL X.K H a ys) : xs = ys := by
  obtain ⟨its, r, ⟨o, n, e, _, _, d⟩, _⟩ := I.list h
  obtain ⟨its', r', ⟨o', n', e', _, _, d'⟩, _⟩ := I.list h'
  rw [e] at e'; cases e'
  rw [d] at d'
  injection d' with d1 _
  have : its = its' := by simpa using congrArg Array.toList d1
  subst this
  exact r.inj r'
end

/-! ### another wish about exceptions -/
noncomputable abbrev Cx.wish (X : Cx) (E : Value → Shared → Prop) : Cx := { X with xe := E }
/-- no exception leaves -/
noncomputable abbrev Cx.nox (X : Cx) : Cx := X.wish fun _ _ => False
theorem Cx.Ok.wish {X : Cx} (ok : X.Ok) (E : Value → Shared → Prop) : (X.wish E).Ok :=
  ⟨ok.mod, ok.kind, ok.glob, ok.blt, ok.above, ok.inj, ok.has, ok.cab, ok.hd, ok.frames, ok.stk, ok.exf, ok.bs, ok.bsz, ok.noex, ok.exfs, ok.funs, ok.frf⟩
theorem Cx.Ok.unwish {X : Cx} {E : Value → Shared → Prop} (ok : (X.wish E).Ok) : X.Ok :=
  ⟨ok.mod, ok.kind, ok.glob, ok.blt, ok.above, ok.inj, ok.has, ok.cab, ok.hd, ok.frames, ok.stk, ok.exf, ok.bs, ok.bsz, ok.noex, ok.exfs, ok.funs, ok.frf⟩
section
variable {X : Cx} {pins : List (Addr × Obj)} {σ : St} {H : Hp} {s : Shared} {E : Value → Shared → Prop}
theorem Inv.wish (I : Inv X pins σ H s) (E : Value → Shared → Prop) : Inv (X.wish E) pins σ H s := ⟨I.ok.wish E, I.os, I.bare, I.base, I.loc, I.cell, I.free, I.freeC, I.pin, I.hok, I.len⟩
theorem Inv.unwish (I : Inv (X.wish E) pins σ H s) : Inv X pins σ H s := ⟨I.ok.unwish, I.os, I.bare, I.base, I.loc, I.cell, I.free, I.freeC, I.pin, I.hok, I.len⟩
theorem SP.unwish {D : Ends} {f : Flow} {s' : Shared} (h : SP (X.wish E) pins D f s') : SP X pins D f s' := by
  cases f with
  | next => obtain ⟨σ', H', I, q⟩ := h; exact ⟨σ', H', I.unwish, q⟩
  | brk => obtain ⟨σ', H', I, q⟩ := h; exact ⟨σ', H', I.unwish, q⟩
  | cont => obtain ⟨σ', H', I, q⟩ := h; exact ⟨σ', H', I.unwish, q⟩
  | ret u => obtain ⟨v, σ', H', I, r, q⟩ := h; exact ⟨v, σ', H', I.unwish, r, q⟩
theorem PSs.nox {st : List Stmt} {t : TS} (h : PSs X.nox st t) : PSs X st t := fun pins s σ H D I hw =>
  wpAny_mono (h pins s σ H D (I.wish _) hw) (fun _ _ q => q.unwish) fun _ _ z => False.elim z
end

/-! ### blocks and small statements -/
section
variable {X : Cx} {st : Stmt} {rest : List Stmt} {t u : TS} {e : Expr} {te : TE} {pos : Pos}
noncomputable def tNext : TS := fun D σ H => D.nx σ H
noncomputable def tSeq (t u : TS) : TS := fun D σ H => t { D with nx := u D } σ H
theorem pss_nil : PSs X [] tNext := fun _ _ σ H _ I h => wpAny_execs_nil ⟨σ, H, I, h⟩
theorem pss_cons (h1 : PS X st t) (h2 : PSs X rest u) : PSs X (st :: rest) (tSeq t u) := by
  intro pins s σ H D I h
  refine wpAny_execs_cons (thn (h1 pins s σ H { D with nx := u D } I h) fun f s1 q => ?_)
  cases f with
  | next =>
    obtain ⟨σ', H', I', q⟩ := q
    exact h2 pins s1 σ' H' D I' q
  | ret v => exact q
  | brk => exact q
  | cont => exact q
theorem pss_one (h1 : PS X st t) : PSs X [st] t := by
  intro pins s σ H D I h
  refine wpAny_execs_cons (thn (h1 pins s σ H D I h) fun f s1 q => ?_)
  cases f with
  | next => exact wpAny_execs_nil q
  | ret v => exact q
  | brk => exact q
  | cont => exact q
/-- in a def's body nothing is shown -/
theorem Inv.quiet {pins : List (Addr × Obj)} {σ : St} {H : Hp} {s : Shared} (I : Inv X pins σ H s) : interactive X.env = false := by simp [interactive, I.ok.kind]
/-- an expression whose value is dropped -/
noncomputable def tDrop (te : TE) : TS := fun D σ H => te σ H fun _ H1 => D.nx σ H1
theorem ps_expr (he : PE X e te) (hs : swapsWith e none pos.line X.env = pure false := by rfl) : PS X (.Expr e pos) (tDrop te) := by
  intro pins s σ H D I h
  exact wpAny_Expr_any (thn (he pins s σ H _ I h) fun v s1 ⟨x, H1, I1, r1, q1⟩ => ⟨σ, H1, I1, q1⟩) I.quiet hs
noncomputable def tRet (te : TE) : TS := fun D σ H => te σ H D.rt
theorem ps_ret (he : PE X e te) : PS X (.Return (some e) pos) (tRet te) := by
  intro pins s σ H D I h
  exact wpAny_Return_some (thn (he pins s σ H _ I h) fun v s1 ⟨x, H1, I1, r1, q1⟩ => ⟨x, σ, H1, I1, r1, q1⟩)
noncomputable def tIfS (c : TT) (t u : TS) : TS := fun D σ H => c σ H fun b H1 => if b = true then t D σ H1 else u D σ H1
theorem ps_if {c : Expr} {a b : List Stmt} {tc : TT} (hc : PT X c tc) (ha : PSs X a t) (hb : PSs X b u) : PS X (.If c a b pos) (tIfS tc t u) := by
  intro pins s σ H D I h
  refine wpAny_If (thn (hc pins s σ H _ I h) fun d s1 zz => ?_)
  obtain ⟨H1, I1, q1⟩ := zz
  cases d with
  | true => exact ha pins s1 σ H1 D I1 q1
  | false => exact hb pins s1 σ H1 D I1 q1
/-- code that the proof never comes to -/
noncomputable def tNever : TS := fun _ _ _ => False
theorem ps_never : PS X st tNever := fun _ _ _ _ _ _ h => h.elim
end

/-! ### targets -/
noncomputable abbrev TG := V → St → Hp → (St → Hp → Prop) → Prop
noncomputable abbrev TGs := List V → St → Hp → (St → Hp → Prop) → Prop
noncomputable def PG (X : Cx) (target : Expr) (t : TG) : Prop :=
  ∀ (pins : List (Addr × Obj)) (s : Shared) (σ : St) (H : Hp) (v : V) (u : Value) (Q : St → Hp → Prop), Inv X pins σ H s → RelV v u → t v σ H Q →
    wpAny (model X.prog X.w) X.A (assign target X.env u) (fun _ s' => ∃ σ' H', Inv X pins σ' H' s' ∧ Q σ' H') X.xe s
/-- several targets, one after another -/
noncomputable def PGs (X : Cx) (ts : List Expr) (t : TGs) : Prop :=
  ∀ (pins : List (Addr × Obj)) (s : Shared) (σ : St) (H : Hp) (vs : List V) (us : List Value) (Q : St → Hp → Prop), Inv X pins σ H s → Vals vs us → t vs σ H Q →
    wpAny (model X.prog X.w) X.A (assignInOrder ((assignEach ts X.env).map (·.2)) us) (fun _ s' => ∃ σ' H', Inv X pins σ' H' s' ∧ Q σ' H') X.xe s
section
variable {X : Cx} {pos : Pos}
noncomputable def gName (i : Nat) : TG := fun v σ H Q => Q (σ.set i (some v)) H
theorem pg_name {i : Nat} {x : Str} (hN : X.N.Nodup) (hi : X.N[i]? = some x) (hx : Loc X.env.scope x) (hf : X.fn x = true ∨ X.env.scope.names.lookup x = some .local := by first | exact .inl rfl | exact .inr rfl | assumption) : PG X (.Name x pos) (gName i) := by
  intro pins s σ H v u Q I r h
  exact wpAny_assign_Name (store_ok I hN hi hx r (fun s' I' => ⟨_, H, I', h⟩) hf)
noncomputable def gNil : TGs := fun vs σ H Q => vs = [] ∧ Q σ H
noncomputable def gCons (t : TG) (u : TGs) : TGs := fun vs σ H Q => ∃ v r, vs = v :: r ∧ t v σ H fun σ' H' => u r σ' H' Q
theorem pgs_nil : PGs X [] gNil := by
  intro pins s σ H vs us Q I r h
  obtain ⟨e, h⟩ := h
  subst e
  cases r
  exact assignInOrder_nil ⟨σ, H, I, h⟩
theorem pgs_cons {e : Expr} {es : List Expr} {t : TG} {u : TGs} (h1 : PG X e t) (h2 : PGs X es u)
    (hs : (assignEach (e :: es) X.env).map (·.2) = assign e X.env :: (assignEach es X.env).map (·.2) := by rfl) : PGs X (e :: es) (gCons t u) := by
  intro pins s σ H vs us Q I r h
  obtain ⟨v, vr, e1, h⟩ := h
  subst e1
  cases r with
  | cons r rr =>
    rw [hs]
    refine assignInOrder_cons (thn (h1 pins s σ H _ _ _ I r h) fun _ s1 zz => ?_)
    obtain ⟨σ1, H1, I1, q1⟩ := zz
    exact h2 pins s1 σ1 H1 _ _ Q I1 rr q1
/-- (a, b, ..) = a tuple of that length -/
noncomputable def gTup (K : PySem.W.Frag) (n : Nat) (t : TGs) : TG := fun v σ H Q => ∃ a xs, v = .ref a ∧ SqT K H a xs ∧ xs.length = n ∧ t xs σ H Q
theorem pg_tup {es : List Expr} {k : Nat} {t : TGs} {n : Nat} (hc : X.calm = true) (h : PGs X es t)
    (hn : (assignEach es X.env).length = n := by rfl) (hst : (assignEach es X.env).findIdx? (·.1) = none := by rfl) : PG X (.Tuple es k pos) (gTup X.K n t) := by
  intro pins s σ H v u Q I r hw
  obtain ⟨a, xs, e1, hq, hl, hw⟩ := hw
  subst e1
  cases r
  obtain ⟨its, rv, ht, hz⟩ := I.tuple hq
  refine assign_Tuple_tuple (I.ok.hd hc) ht (by simp [hn, ← hl, rv.length]) hst fun h' hx => ?_
  have I1 : Inv X pins σ H { s with heap := h' } := I.kept (t' := s.toks) fun b o e => hx b o (Nat.ne_of_lt (Heap.lt_size e)) e
  exact h pins _ σ H xs _ Q I1 (by simpa using rv) hw
/-- target = value -/
noncomputable def tAsg (te : TE) (g : TG) : TS := fun D σ H => te σ H fun x H1 => g x σ H1 D.nx
theorem ps_asg {tg e : Expr} {te : TE} {g : TG} (he : PE X e te) (hg : PG X tg g) (hs : swapsWithSole [tg] e pos.line X.env = pure false := by rfl) (hw : swappedStores [tg] e X.env = pure none := by rfl)
    (h1 : (assignEach [tg] X.env).map (·.2) = [assign tg X.env] := by rfl) : PS X (.Assign [tg] e pos) (tAsg te g) := by
  intro pins s σ H D I h
  refine wpAny_Assign_stores (thn (he pins s σ H _ I h) fun v s1 zz => ?_) hs hw
  obtain ⟨x, H1, I1, r1, q1⟩ := zz
  rw [h1]
  exact thn (hg pins s1 σ H1 x v _ I1 r1 q1) fun _ s2 q => q
/-- name = value -/
theorem ps_set {i : Nat} {x : Str} {e : Expr} {te : TE} {pos' : Pos} (hN : X.N.Nodup) (hi : X.N[i]? = some x) (hx : Loc X.env.scope x) (he : PE X e te) (hs : swapsWith e (some (.Name x pos')) pos.line X.env = pure false := by rfl) (hf : X.fn x = true ∨ X.env.scope.names.lookup x = some .local := by first | exact .inl rfl | exact .inr rfl | assumption) :
    PS X (.Assign [.Name x pos'] e pos) (tAsg te (gName i)) := by
  intro pins s σ H D I h
  refine wpAny_Assign_Name (thn (he pins s σ H _ I h) fun v s1 zz => ?_) hs
  obtain ⟨y, H1, I1, r1, q1⟩ := zz
  exact store_ok I1 hN hi hx r1 (fun s2 I2 => ⟨_, H1, I2, q1⟩) hf
end

/-! ### while -/
section
variable {X : Cx} {pos : Pos}
end

/-! ### what a loop or a comprehension walks -/
/-- at turn i: it yields x (the heap may grow), or it stops -/
structure It where
  go : Nat → Hp → Prop
  yld : Nat → Hp → V → Hp → Prop
  stop : Nat → Hp → Prop
/-- the iterator's own objects may turn: they are not the frame's, not pinned, younger than the entry (or a comprehension's own) -/
noncomputable def FpOk (X : Cx) (pins : List (Addr × Obj)) (H : Hp) (b : Addr) : Prop :=
  H b = none ∧ b ≠ X.env.locals ∧ b ∉ X.fs ∧ (b ∈ X.ex ∨ X.s₀.heap.objs.size ≤ b) ∧ (∀ x c, X.env.cells.lookup x = some c → c ≠ b) ∧ ∀ p ∈ X.pn ++ pins, p.1 ≠ b
theorem Inv.fpOk {X : Cx} {pins : List (Addr × Obj)} {σ : St} {H H' : Hp} {s : Shared} {b : Addr} (I : Inv X pins σ H s) (hb : s.heap.objs.size ≤ b) (hn : H' b = none) : FpOk X pins H' b := by
  refine ⟨hn, Nat.ne_of_gt (Nat.lt_of_lt_of_le I.lt hb), I.nofs hb, .inr (Nat.le_trans I.sz hb), fun x c e z => ?_, fun p hp z => ?_⟩
  · obtain ⟨v, q⟩ := I.cell x c e
    exact absurd (Nat.lt_of_lt_of_le q.lt (by rw [z]; exact hb)) (Nat.lt_irrefl _)
  · exact absurd (Nat.lt_of_lt_of_le (Heap.lt_size (I.pin p hp).1) (by rw [z]; exact hb)) (Nat.lt_irrefl _)
structure Turn (P : Program) (w : World) (K : PySem.W.Frag) (tg : Expr) (J : It) (fp : List Addr) (it : Addr) (tn : Nat → Heap → Prop) : Prop where
  mem : it ∈ fp
  obj : ∀ i h, tn i h → ∀ b ∈ fp, ∃ o, h.get? b = some o ∧ ∀ v, o.data ≠ .cell v
  keep : ∀ i h h', tn i h → (∀ b ∈ fp, ∀ o, h.get? b = some o → h'.get? b = some o) → tn i h'
  item : ∀ (X : Cx), X.prog = P → X.w = w → X.K = K → X.calm = true → ∀ (i : Nat) (pins : List (Addr × Obj)) (s : Shared) (σ : St) (H : Hp) (E : Value → Shared → Prop), Inv X pins σ H s → (∀ b ∈ fp, FpOk X pins H b) → tn i s.heap → J.go i H →
    wpAny (model P w) X.A (pyNext (.ref it)) (fun r s1 => ∃ u, r = some u ∧
      wpAny (model P w) X.A (letOwnedTupleGo tg (.ref it) u) (fun _ s2 => ∃ x H', Inv X pins σ H' s2 ∧ RelV x u ∧ J.yld i H x H' ∧ tn (i + 1) s2.heap ∧ ∀ b ∈ fp, H' b = none) E s1) E s
  done : ∀ (X : Cx), X.prog = P → X.w = w → X.K = K → X.calm = true → ∀ (i : Nat) (pins : List (Addr × Obj)) (s : Shared) (σ : St) (H : Hp) (E : Value → Shared → Prop), Inv X pins σ H s → (∀ b ∈ fp, FpOk X pins H b) → tn i s.heap → J.stop i H →
    wpAny (model P w) X.A (pyNext (.ref it)) (fun r s1 => r = none ∧ Inv X pins σ H s1) E s
  self : ∀ (A : Around) (i : Nat) (s : Shared) (Q : Value → Shared → Prop) (E : Value → Shared → Prop), tn i s.heap → Q (.ref it) s → wpAny (model P w) A (pyIter (.ref it)) Q E s
noncomputable abbrev TI := St → Hp → (It → Hp → Prop) → Prop
/-- an iterator has come -/
noncomputable def PIE (X : Cx) (pins : List (Addr × Obj)) (σ : St) (tg : Expr) (R : It → Hp → Prop) (itv : Value) (s2 : Shared) : Prop :=
  ∃ (it : Addr) (fp : List Addr) (tn : Nat → Heap → Prop) (J : It) (H' : Hp), itv = .ref it ∧ Inv X pins σ H' s2 ∧ Turn X.prog X.w X.K tg J fp it tn ∧ tn 0 s2.heap ∧ (∀ b ∈ fp, FpOk X pins H' b) ∧ R J H'
noncomputable def PI (X : Cx) (tg iter : Expr) (wi : TI) : Prop :=
  ∀ (pins : List (Addr × Obj)) (s : Shared) (σ : St) (H : Hp) (R : It → Hp → Prop), Inv X pins σ H s → wi σ H R →
    wpAny (model X.prog X.w) X.A (eval iter X.env) (fun v s1 => wpAny (model X.prog X.w) X.A (pyIter v) (PIE X pins σ tg R) X.xe s1) X.xe s

/-- the step ahead of the store is nothing for an iterator that keeps no tuple -/
theorem go_of {M : Model} {A : Around} {E : Value → Shared → Prop} {s : Shared} {tg : Expr} {it : Addr} {u : Value} {o : Obj} {n : String} {vs : Array Value} {Q : Unit → Shared → Prop} (ho : s.heap.get? it = some o) (hc : o.cls = .type n) (hd : o.data = .fields vs)
    (hn : ["enumerate", "zip", "dict_itemiterator", "dict_reverseitemiterator", "odict_iterator", "itertools.zip_longest", "itertools.pairwise"].contains n = false) (hQ : Q () s) : wpAny M A (letOwnedTupleGo tg (.ref it) u) Q E s := by
  unfold letOwnedTupleGo
  cases tg <;> first
    | exact wpAny_pure hQ
    | (cases u <;> first
        | exact wpAny_pure hQ
        | (refine wpAny_bind (wpAny_load ho ?_)
           rw [hc, hd]
           show wpAny M A (if (["enumerate", "zip", "dict_itemiterator", "dict_reverseitemiterator", "odict_iterator", "itertools.zip_longest", "itertools.pairwise"].contains n && vs[0]? == some (rawInt _)) = true then _ else _) Q E s
           rw [if_neg (by intro h; rw [hn, Bool.false_and] at h; cases h)]
           exact wpAny_pure hQ))

/-- the list at a, as it stands at each turn (a loop may append to it) -/
noncomputable def Itl (K : PySem.W.Frag) (a : Addr) : It :=
  ⟨fun i H => ∃ xs x, SqL K H a xs ∧ xs[i]? = some x, fun i H x H' => H' = H ∧ ∀ xs, SqL K H a xs → xs[i]? = some x, fun i H => ∃ xs, SqL K H a xs ∧ xs.length ≤ i⟩
/-- lo, lo + 1, .. (n of them) -/
noncomputable def Itr (lo : Int) (n : Nat) : It := ⟨fun i _ => i < n, fun i H x H' => H' = H ∧ x = .int (lo + i), fun i _ => n ≤ i⟩
theorem turn_list {P : Program} {w : World} {K : PySem.W.Frag} {tg : Expr} (a it : Addr) : Turn P w K tg (Itl K a) [it] it (fun i h => h.IsListIter it a i) where
  mem := by simp
  obj := fun i h st b hb => by
    have e : b = it := by simpa using hb
    subst e
    obtain ⟨o, e, c, d⟩ := st
    exact ⟨o, e, fun v z => by rw [d] at z; cases z⟩
  keep := fun i h h' st k => st.at fun o e => k it (by simp) o e
  item := by
    intro X hP hw hK hc i pins s σ H E I hf st hg
    subst hP hw hK
    obtain ⟨xs, x, hq, hx⟩ := hg
    obtain ⟨its, rv, p, hz⟩ := I.list hq
    obtain ⟨u, hu, ru⟩ := rv.get hx
    obtain ⟨f0, f1, f2, f3, f4, f5⟩ := hf it (by simp)
    refine wpAny_pyNext_list_item st p.isList (x := u) (by simpa using hu) fun h' st' sb => ?_
    have I1 : Inv X pins σ H { s with heap := h' } := I.turned (t' := s.toks) (fun b o hb e => (sb.2 b hb).trans e) f0 f1 f3 f4 f5
    obtain ⟨o, e, c, d⟩ := id st'
    exact ⟨u, rfl, go_of (s := { s with heap := h' }) e c d (by decide) ⟨x, H, I1, ru, ⟨rfl, fun ys hy => by rw [I.list_inj hy hq]; exact hx⟩, st', fun b hb => (hf b hb).1⟩⟩
  done := by
    intro X hP hw hK hc i pins s σ H E I hf st hg
    subst hP hw hK
    obtain ⟨xs, hq, hx⟩ := hg
    obtain ⟨its, rv, p, hz⟩ := I.list hq
    obtain ⟨f0, f1, f2, f3, f4, f5⟩ := hf it (by simp)
    have hl := rv.length
    exact wpAny_pyNext_list_end (I.ok.hd hc) st p.isList (by simp; omega) fun h' eb => ⟨rfl, I.turned (t' := s.toks) (fun b o hb e => eb b o hb e) f0 f1 f3 f4 f5⟩
  self := fun _ _ _ _ _ st h => wpAny_pyIter_listiter st h
theorem turn_range {P : Program} {w : World} {K : PySem.W.Frag} {tg : Expr} (it : Addr) (lo : Int) (n : Nat) : Turn P w K tg (Itr lo n) [it] it (fun i h => IsRangeIter h it (lo + (i : Nat) * 1) ((n : Int) - (i : Nat)) 1) where
  mem := by simp
  obj := fun i h st b hb => by
    have e : b = it := by simpa using hb
    subst e
    exact ⟨_, st, fun v z => by
      have z' : Data.fields _ = Data.cell v := z
      cases z'⟩
  keep := fun i h h' st k => k it (by simp) _ st
  item := by
    intro X hP hw hK hc i pins s σ H E I hf st hg
    subst hP hw hK
    obtain ⟨f0, f1, f2, f3, f4, f5⟩ := hf it (by simp)
    have W := Walks.range (prog := X.prog) (w := X.w) (I.ok.hd hc) it lo 1 n
    refine W.item i s _ _ hg st fun v h' tk hv st' kk => ?_
    obtain ⟨t, rfl⟩ := hv
    have I1 : Inv X pins σ H { s with heap := h', toks := tk } := I.turned (fun b o hb e => kk b o (by simpa using hb) e) f0 f1 f3 f4 f5
    refine ⟨_, rfl, go_of (s := { s with heap := h', toks := tk }) (n := "range_iterator") st' rfl rfl (by decide) ⟨.int (lo + i), H, I1, ⟨t, ?_⟩, ⟨rfl, rfl⟩, st', fun b hb => (hf b hb).1⟩⟩
    rw [Int.mul_one]
  done := by
    intro X hP hw hK hc i pins s σ H E I hf st hg
    subst hP hw hK
    obtain ⟨f0, f1, f2, f3, f4, f5⟩ := hf it (by simp)
    exact wpAny_pyNext_range_end (I.ok.hd hc) st (by have : n ≤ i := hg; omega) fun h' eb => ⟨rfl, I.turned (t' := s.toks) (fun b o hb e => eb b o hb e) f0 f1 f3 f4 f5⟩
  self := fun _ _ _ _ _ st h => wpAny_pyIter_rangeiter st h
end L2

namespace L2
open PySem PySem.Spec PyProof.Rows
section
variable {X : Cx} {tg : Expr}
noncomputable def iList (K : PySem.W.Frag) (tl : TE) : TI := fun σ H R => tl σ H fun x H1 => ∃ a, x = .ref a ∧ (∃ xs, SqL K H1 a xs) ∧ R (Itl K a) H1
theorem pi_list {l : Expr} {tl : TE} (hl : PE X l tl) : PI X tg l (iList X.K tl) := by
  intro pins s σ H R I h
  refine thn (hl pins s σ H _ I h) fun v s1 zz => ?_
  obtain ⟨x, H1, I1, r1, q1⟩ := zz
  obtain ⟨a, e, ⟨xs, hq⟩, q⟩ := q1
  subst e
  cases r1
  obtain ⟨its, rv, p, hz⟩ := I1.list hq
  refine wpAny_pyIter_list p.isList ?_
  refine ⟨s1.heap.objs.size, [s1.heap.objs.size], _, _, H1, rfl, I1.kept (t' := s1.toks) fun b o e => Heap.get?_push_of_some _ e, turn_list a _, ⟨_, Heap.get?_push_size _ rfl, rfl, rfl⟩, fun b hb => ?_, q⟩
  have e : b = s1.heap.objs.size := by simpa using hb
  subst e
  exact I1.fpOk (Nat.le_refl _) (I1.hok.fresh (Nat.le_refl _))
/-- a range object just made, walked -/
theorem range_it {pins : List (Addr × Obj)} {σ : St} {H : Hp} {s : Shared} {R : It → Hp → Prop} {E : Value → Shared → Prop} {lo hi : Int} {t u v : Tok} {tk : Nat} (I : Inv X pins σ H s) (h1 : -(2 ^ 62) ≤ lo) (h2 : lo < 2 ^ 62) (h3 : -(2 ^ 62) ≤ hi) (h4 : hi < 2 ^ 62)
    (q : R (Itr lo (hi - lo).toNat) H) : wpAny (model X.prog X.w) X.A (pyIter (.ref s.heap.objs.size)) (PIE X pins σ tg R) E { s with heap := s.heap.push { cls := .type "range", data := .fields #[.int lo t, .int hi u, .int 1 v] }, toks := tk } := by
  refine wpAny_pyIter_range (IsRange.new ..) (small_one h1 h2 h3 h4) ?_
  have I1 : Inv X pins σ H { s with heap := s.heap.push { cls := .type "range", data := .fields #[.int lo t, .int hi u, .int 1 v] }, toks := tk } := I.kept fun b o e => Heap.get?_push_of_some _ e
  refine ⟨(s.heap.push { cls := .type "range", data := .fields #[.int lo t, .int hi u, .int 1 v] }).objs.size, [(s.heap.push { cls := .type "range", data := .fields #[.int lo t, .int hi u, .int 1 v] }).objs.size], _, _, H, rfl,
    I1.kept (t' := tk) fun b o e => Heap.get?_push_of_some _ e, turn_range _ lo (hi - lo).toNat, ?_, fun b hb => ?_, q⟩
  · have e1 : lo + ((0 : Nat) : Int) * 1 = lo := by simp
    have e2 : (((hi - lo).toNat : Nat) : Int) - ((0 : Nat) : Int) = Builtin.Range.rangeSize lo hi 1 := by rw [rangeSize_one]; split <;> omega
    show IsRangeIter _ _ (lo + ((0 : Nat) : Int) * 1) ((((hi - lo).toNat : Nat) : Int) - ((0 : Nat) : Int)) 1
    rw [e1, e2]
    exact Heap.get?_push_size _ rfl
  · have e : b = (s.heap.push { cls := .type "range", data := .fields #[.int lo t, .int hi u, .int 1 v] }).objs.size := by simpa using hb
    subst e
    exact I1.fpOk (Nat.le_refl _) (I1.hok.fresh (Nat.le_refl _))
noncomputable def iRng1 (ta : TA) : TI := fun σ H R => ta σ H fun vs H1 => ∃ j : Int, vs = [.int j] ∧ -(2 ^ 62) ≤ j ∧ j < 2 ^ 62 ∧ R (Itr 0 j.toNat) H1
theorem pi_range1 {a : Expr} {ta : TA} {p pos : Pos} (hg : Gl X "range") (hm : X.mg "range" = none) (ha : PA X [a] ta) (hs : starEach [a] X.env = [(false, eval a X.env)] := by rfl) : PI X tg (.Call (.Name "range" p) [a] [] pos) (iRng1 ta) := by
  intro pins s σ H R I h
  refine Call_ (ld_blt I hg hm boot_range (PyProof.Rows.callWith_type1 (thn (ha pos pins s σ H _ I h) fun us s1 zz => ?_) hs rfl))
  obtain ⟨vs, H1, I1, r1, q1⟩ := zz
  obtain ⟨j, e, q1, q2, q⟩ := q1
  subst e
  cases r1 with
  | cons r rr =>
    cases rr
    obtain ⟨t, rfl⟩ := r
    exact call_range_1 (range_it I1 (by omega) (by omega) q1 q2 (by simpa using q))

/-! ### for -/
/-- W: the invariant by the turn and a measure; N: what the body is to reach -/
noncomputable def tFor (wi : TI) (g : TG) (tb : TS) : TS := fun D σ H => wi σ H fun J H1 => ∃ W : Nat → Nat → St → Hp → Prop, (∃ m, W 0 m σ H1) ∧ ∀ i m σ H, W i m σ H →
  (J.stop i H ∧ D.nx σ H) ∨ (J.go i H ∧ ∃ N : St → Hp → Prop, (∀ σ' H', N σ' H' → ∃ m', m' < m ∧ W (i + 1) m' σ' H') ∧ ∀ x H', J.yld i H x H' → g x σ H' fun σ2 H2 => tb { D with nx := N, ct := N, bk := D.nx } σ2 H2)
/-- the records at fp as they stand -/
noncomputable def pinsAt (fp : List Addr) (h : Heap) : List (Addr × Obj) := fp.filterMap fun b => (h.get? b).map fun o => (b, o)
theorem mem_pinsAt {fp : List Addr} {h : Heap} {b : Addr} {o : Obj} (hb : b ∈ fp) (e : h.get? b = some o) : (b, o) ∈ pinsAt fp h := List.mem_filterMap.mpr ⟨b, hb, by rw [e]; rfl⟩
theorem of_pinsAt {fp : List Addr} {h : Heap} {p : Addr × Obj} (hp : p ∈ pinsAt fp h) : p.1 ∈ fp ∧ h.get? p.1 = some p.2 := by
  obtain ⟨b, hb, e⟩ := List.mem_filterMap.mp hp
  cases q : h.get? b with
  | none => rw [q] at e; cases e
  | some o =>
    rw [q] at e
    have e' : (b, o) = p := Option.some.inj e
    subst e'
    exact ⟨hb, q⟩
theorem Inv.pinned {pins : List (Addr × Obj)} {σ : St} {H : Hp} {s : Shared} {fp : List Addr} (I : Inv X pins σ H s) (hf : ∀ b ∈ fp, FpOk X pins H b) (ho : ∀ b ∈ fp, ∃ o, s.heap.get? b = some o ∧ ∀ v, o.data ≠ .cell v) : Inv X (pins ++ pinsAt fp s.heap) σ H s :=
  I.pins_of fun p hp => (List.mem_append.mp hp).elim (fun z => I.pin p (List.mem_append_right _ z)) fun z => by
    obtain ⟨hb, e⟩ := of_pinsAt z
    obtain ⟨f0, f1, f2, _⟩ := hf p.1 hb
    obtain ⟨o, e', d⟩ := ho p.1 hb
    rw [e] at e'; cases e'
    exact ⟨e, f0, f1, f2, d⟩
theorem Inv.unpinned {pins pl : List (Addr × Obj)} {σ : St} {H : Hp} {s : Shared} (I : Inv X (pins ++ pl) σ H s) : Inv X pins σ H s := I.pins_of fun p hp => I.pin p (List.mem_append_right _ (List.mem_append_left _ hp))
theorem ps_for {iter : Expr} {body : List Stmt} {wi : TI} {g : TG} {tb : TS} {pos : Pos} (hp : PassesOwn (model X.prog X.w) X.A X.env X.xe) (hc : X.calm = true) (hi : PI X tg iter wi) (hg : PG X tg g) (hb : PSs X body tb)
    (hs : ∀ x, foldedSetIterable iter X.env x = pure x := by intro _; rfl) : PS X (.For tg iter body [] pos) (tFor wi g tb) := by
  intro pins s σ H D I h
  refine wpAny_For (thn (hi pins s σ H _ I h) fun v s1 h1 => thn h1 fun itv s2 h2 => ?_) hs
  obtain ⟨it, fp, tn, J, H2, e, I2, T, st2, f2, W, ⟨m0, w0⟩, turn⟩ := h2
  subst e
  -- what stays true of the iterator's objects through the loop
  have stat : ∀ {H' : Hp}, (∀ b ∈ fp, H' b = none) → ∀ b ∈ fp, FpOk X pins H' b := fun hn b hb => ⟨hn b hb, (f2 b hb).2⟩
  refine codeAny_forLoop_any (fun n s' => ∃ i σ' H', Inv X pins σ' H' s' ∧ tn i s'.heap ∧ (∀ b ∈ fp, H' b = none) ∧ W i n σ' H') ?_ m0 ⟨0, σ, H2, I2, st2, fun b hb => (f2 b hb).1, w0⟩
  rintro n s3 ⟨i, σ3, H3, I3, st3, fr3, w3⟩
  rcases turn i n σ3 H3 w3 with ⟨stop, qn⟩ | ⟨go, N, hN, step⟩
  · refine wpAny_passesOwn hp (thn (T.done X rfl rfl rfl hc i pins s3 σ3 H3 X.xe I3 (stat fr3) st3 stop) fun r s4 zz => ?_)
    obtain ⟨hr, I4⟩ := zz
    subst hr
    exact wpAny_execs_nil ⟨σ3, H3, I4, qn⟩
  · refine wpAny_passesOwn hp (thn (T.item X rfl rfl rfl hc i pins s3 σ3 H3 X.xe I3 (stat fr3) st3 go) fun r s4 zz => ?_)
    obtain ⟨u, hr, h4⟩ := zz
    subst hr
    refine wpAny_passesOwn hp (thn h4 fun _ s5 zz => ?_)
    obtain ⟨x, H5, I5, r5, y5, st5, fr5⟩ := zz
    have I5' := I5.pinned (stat fr5) (T.obj _ _ st5)
    refine wpAny_passesOwn hp (thn (hg _ s5 σ3 H5 x u _ I5' r5 (step x H5 y5)) fun _ s6 zz => ?_)
    obtain ⟨σ6, H6, I6, q6⟩ := zz
    refine wpAny_passesOwn hp (thn (hb _ s6 σ6 H6 _ I6 q6) fun f s7 q7 => ?_)
    have again : ∀ {σ7 : St} {H7 : Hp}, Inv X (pins ++ pinsAt fp s5.heap) σ7 H7 s7 → N σ7 H7 → ∃ m, m < n ∧ ∃ i σ' H', Inv X pins σ' H' s7 ∧ tn i s7.heap ∧ (∀ b ∈ fp, H' b = none) ∧ W i m σ' H' := fun {σ7 H7} I7 n7 => by
      obtain ⟨m', hm, w7⟩ := hN σ7 H7 n7
      refine ⟨m', hm, i + 1, σ7, H7, I7.unpinned, T.keep _ _ _ st5 fun b hb o e => (I7.pin (b, o) (List.mem_append_right _ (List.mem_append_right _ (mem_pinsAt hb e)))).1, fun b hb => ?_, w7⟩
      obtain ⟨o, e, d⟩ := T.obj _ _ st5 b hb
      exact (I7.pin (b, o) (List.mem_append_right _ (List.mem_append_right _ (mem_pinsAt hb e)))).2.1
    cases f with
    | next => obtain ⟨σ7, H7, I7, n7⟩ := q7; exact again I7 n7
    | cont => obtain ⟨σ7, H7, I7, n7⟩ := q7; exact again I7 n7
    | brk => obtain ⟨σ7, H7, I7, q7⟩ := q7; exact ⟨σ7, H7, I7.unpinned, q7⟩
    | ret v => obtain ⟨x7, σ7, H7, I7, r7, q7⟩ := q7; exact ⟨x7, σ7, H7, I7.unpinned, r7, q7⟩
end

/-! ### the forms one uses -/
/-- over a list that the body leaves as it is -/
theorem for_list {K : PySem.W.Frag} {a : Addr} {xs : List V} {g : TG} {tb : TS} {D : Ends} {σ : St} {H : Hp} (Pv : Nat → St → Hp → Prop) (h0 : Pv 0 σ H) (hl : ∀ i σ H, i ≤ xs.length → Pv i σ H → SqL K H a xs)
    (hs : ∀ i x σ H, xs[i]? = some x → Pv i σ H → g x σ H fun σ2 H2 => tb { D with nx := Pv (i + 1), ct := Pv (i + 1), bk := D.nx } σ2 H2) (hd : ∀ σ H, Pv xs.length σ H → D.nx σ H) :
    ∃ W : Nat → Nat → St → Hp → Prop, (∃ m, W 0 m σ H) ∧ ∀ i m σ H, W i m σ H →
      ((Itl K a).stop i H ∧ D.nx σ H) ∨ ((Itl K a).go i H ∧ ∃ N : St → Hp → Prop, (∀ σ' H', N σ' H' → ∃ m', m' < m ∧ W (i + 1) m' σ' H') ∧ ∀ x H', (Itl K a).yld i H x H' → g x σ H' fun σ2 H2 => tb { D with nx := N, ct := N, bk := D.nx } σ2 H2) := by
  refine ⟨fun i m σ H => m = xs.length - i ∧ i ≤ xs.length ∧ Pv i σ H, ⟨xs.length, by simp, Nat.zero_le _, h0⟩, ?_⟩
  rintro i m σ H ⟨rfl, hi, p⟩
  have q := hl i σ H hi p
  by_cases hlt : i < xs.length
  · refine .inr ⟨⟨xs, xs[i], q, by simp [hlt]⟩, Pv (i + 1), fun σ' H' p' => ⟨xs.length - (i + 1), by omega, rfl, hlt, p'⟩, fun x H' y => ?_⟩
    obtain ⟨e, y⟩ := y
    subst e
    exact hs i x σ _ (y xs q) p
  · have e : i = xs.length := by omega
    subst e
    exact .inl ⟨⟨xs, q, Nat.le_refl _⟩, hd σ H p⟩
theorem for_range {lo : Int} {n : Nat} {g : TG} {tb : TS} {D : Ends} {σ : St} {H : Hp} (Pv : Nat → St → Hp → Prop) (h0 : Pv 0 σ H)
    (hs : ∀ i σ H, i < n → Pv i σ H → g (.int (lo + i)) σ H fun σ2 H2 => tb { D with nx := Pv (i + 1), ct := Pv (i + 1), bk := D.nx } σ2 H2) (hd : ∀ σ H, Pv n σ H → D.nx σ H) :
    ∃ W : Nat → Nat → St → Hp → Prop, (∃ m, W 0 m σ H) ∧ ∀ i m σ H, W i m σ H →
      ((Itr lo n).stop i H ∧ D.nx σ H) ∨ ((Itr lo n).go i H ∧ ∃ N : St → Hp → Prop, (∀ σ' H', N σ' H' → ∃ m', m' < m ∧ W (i + 1) m' σ' H') ∧ ∀ x H', (Itr lo n).yld i H x H' → g x σ H' fun σ2 H2 => tb { D with nx := N, ct := N, bk := D.nx } σ2 H2) := by
  refine ⟨fun i m σ H => m = n - i ∧ i ≤ n ∧ Pv i σ H, ⟨n, by simp, Nat.zero_le _, h0⟩, ?_⟩
  rintro i m σ H ⟨rfl, hi, p⟩
  by_cases hlt : i < n
  · refine .inr ⟨hlt, Pv (i + 1), fun σ' H' p' => ⟨n - (i + 1), by omega, rfl, hlt, p'⟩, fun x H' y => ?_⟩
    obtain ⟨e, y⟩ := y
    subst e y
    exact hs i σ _ hlt p
  · have e : i = n := by omega
    subst e
    exact .inl ⟨Nat.le_refl _, hd σ H p⟩
end L2

namespace L2
open PySem PySem.Spec PyProof.Rows

noncomputable abbrev R2 := V → V → Hp → VK → Prop
/-- a two-place operation on values: f is binaryOp op, inplaceOp op or compareOp op -/
noncomputable def OpR (X : Cx) (f : Value → Value → Sem Value) (r : R2) : Prop :=
  ∀ (pins : List (Addr × Obj)) (s : Shared) (σ : St) (H : Hp) (x y : V) (v u : Value) (Q : VK), Inv X pins σ H s → RelV x v → RelV y u → r x y H Q →
    wpAny (model X.prog X.w) X.A (f v u) (EP X pins σ Q) X.xe s
/-- a call of a value that is known (a builtin, a type) with values -/
noncomputable def CallR (X : Cx) (f : Value) (r : List V → Hp → VK → Prop) : Prop :=
  ∀ (pins : List (Addr × Obj)) (s : Shared) (σ : St) (H : Hp) (xs : List V) (us : List Value) (Q : VK), Inv X pins σ H s → Vals xs us → r xs H Q →
    wpAny (model X.prog X.w) X.A (call f us) (EP X pins σ Q) X.xe s

noncomputable def tOp (r : R2) (ta tb : TE) : TE := fun σ H Q => ta σ H fun x H1 => tb σ H1 fun y H2 => r x y H2 Q
/-- ints in, under C, and a value out -/
noncomputable def rI (C : Int → Int → Prop) (g : Int → Int → V) : R2 := fun x y H Q => ∃ i j, x = .int i ∧ y = .int j ∧ C i j ∧ Q (g i j) H
noncomputable def rI0 (g : Int → Int → V) : R2 := fun x y H Q => ∃ i j, x = .int i ∧ y = .int j ∧ Q (g i j) H

section
variable {X : Cx} {a b c : Expr} {ta tb tc : TE} {pos : Pos}

theorem binT (ha : PE X a ta) (hb : PE X b tb) {pins : List (Addr × Obj)} {s : Shared} {σ : St} {H : Hp} {R : V → V → Hp → Prop} (I : Inv X pins σ H s)
    (h : ta σ H fun x H1 => tb σ H1 fun y H2 => R x y H2) {Q : Value → Shared → Prop} {f : Value → Value → Sem Value}
    (hf : ∀ v u s2 x y H2, Inv X pins σ H2 s2 → RelV x v → RelV y u → R x y H2 → wpAny (model X.prog X.w) X.A (f v u) Q X.xe s2) :
    wpAny (model X.prog X.w) X.A (eval a X.env) (fun v s₁ => wpAny (model X.prog X.w) X.A (eval b X.env) (fun u s₂ => wpAny (model X.prog X.w) X.A (f v u) Q X.xe s₂) X.xe s₁) X.xe s := by
  refine thn (ha pins s σ H _ I h) fun v s1 zz => ?_
  obtain ⟨x, H1, I1, r1, q1⟩ := zz
  refine thn (hb pins s1 σ H1 _ I1 q1) fun u s2 zz => ?_
  obtain ⟨y, H2, I2, r2, q2⟩ := zz
  exact hf v u s2 x y H2 I2 r1 r2 q2

theorem pe_op {op : Operator} {r : R2} (ho : OpR X (binaryOp op) r) (ha : PE X a ta) (hb : PE X b tb) : PE X (.BinOp a op b pos) (tOp r ta tb) := by
  intro pins s σ H Q I h
  exact wpAny_BinOp (binT ha hb I h fun v u s2 x y H2 I2 rx ry q => ho pins s2 σ H2 x y v u Q I2 rx ry q)

/-! ### ints -/
theorem opI {f : Value → Value → Sem Value} {C : Int → Int → Prop} {g : Int → Int → Int}
    (rule : ∀ (i j : Int) (t u : Tok) (s : Shared) (Q : Value → Shared → Prop) (E : Value → Shared → Prop), C i j → Q (.int (g i j) s.toks) { s with toks := s.toks + 1 } → wpAny (model X.prog X.w) X.A (f (.int i t) (.int j u)) Q E s) :
    OpR X f (rI C fun i j => .int (g i j)) := by
  intro pins s σ H x y v u Q I rx ry h
  obtain ⟨i, j, rfl, rfl, hc, q⟩ := h
  obtain ⟨t, rfl⟩ := rx
  obtain ⟨t', rfl⟩ := ry
  exact rule i j t t' s _ _ hc ⟨.int (g i j), H, I.tok _, ⟨_, rfl⟩, q⟩
theorem opI0 {f : Value → Value → Sem Value} {g : Int → Int → Int}
    (rule : ∀ (i j : Int) (t u : Tok) (s : Shared) (Q : Value → Shared → Prop) (E : Value → Shared → Prop), Q (.int (g i j) s.toks) { s with toks := s.toks + 1 } → wpAny (model X.prog X.w) X.A (f (.int i t) (.int j u)) Q E s) :
    OpR X f (rI0 fun i j => .int (g i j)) := by
  intro pins s σ H x y v u Q I rx ry h
  obtain ⟨i, j, rfl, rfl, q⟩ := h
  obtain ⟨t, rfl⟩ := rx
  obtain ⟨t', rfl⟩ := ry
  exact rule i j t t' s _ _ ⟨.int (g i j), H, I.tok _, ⟨_, rfl⟩, q⟩
theorem opB0 {f : Value → Value → Sem Value} {g : Int → Int → Bool}
    (rule : ∀ (i j : Int) (t u : Tok) (s : Shared) (Q : Value → Shared → Prop) (E : Value → Shared → Prop), Q (.bool (g i j)) s → wpAny (model X.prog X.w) X.A (f (.int i t) (.int j u)) Q E s) :
    OpR X f (rI0 fun i j => .bl (g i j)) := by
  intro pins s σ H x y v u Q I rx ry h
  obtain ⟨i, j, rfl, rfl, q⟩ := h
  obtain ⟨t, rfl⟩ := rx
  obtain ⟨t', rfl⟩ := ry
  exact rule i j t t' s _ _ ⟨.bl (g i j), H, I, rfl, q⟩

noncomputable def CDiv (i j : Int) : Prop := 0 < j ∧ j < 1073741824
noncomputable def CPow (i j : Int) : Prop := 0 ≤ j ∧ j ≤ 1000000 ∧ i.natAbs < 2 ^ 64
theorem two_pow_nn (k : Nat) : (0 : Int) ≤ 2 ^ k := by
  rw [two_pow_cast]
  exact Int.natCast_nonneg _

theorem op_add : OpR X (binaryOp .Add) (rI0 fun i j => .int (i + j)) := opI0 fun _ _ _ _ _ _ _ q => add_int q
theorem op_sub : OpR X (binaryOp .Sub) (rI0 fun i j => .int (i - j)) := opI0 fun _ _ _ _ _ _ _ q => sub_int q
/-- // by a positive divisor -/
theorem op_fdiv : OpR X (binaryOp .FloorDiv) (rI CDiv fun i j => .int (i / j)) := opI fun i j _ _ _ _ _ hc q => by
  have h1 : (0 : Int) < j := hc.1
  have h2 : j < 1073741824 := hc.2
  exact floordiv_int (by omega) (by rw [Int.fdiv_eq_ediv_of_nonneg i (by omega)]; exact q) (.inl (PyProof.noPylong_small (by omega)))
/-- % by a positive divisor of any size -/
theorem op_mod : OpR X (binaryOp .Mod) (rI (fun _ j => 0 < j) fun i j => .int (i % j)) := opI fun i j _ _ _ _ _ hc q => by
  have h1 : (0 : Int) < j := hc
  exact mod_int' (by omega) (by rw [Int.fmod_eq_emod_of_nonneg i (by omega)]; exact q)
theorem op_pow : OpR X (binaryOp .Pow) (rI CPow fun i j => .int (i ^ j.toNat)) := opI fun _ _ _ _ _ _ _ hc q => pow_int_small hc.1 hc.2.1 hc.2.2 q
theorem op_shl : OpR X (binaryOp .LShift) (rI CPow fun i j => .int (i * 2 ^ j.toNat)) := opI fun _ _ _ _ _ _ _ hc q => lshift_int_small hc.1 hc.2.1 hc.2.2 q
theorem op_shr : OpR X (binaryOp .RShift) (rI (fun _ j => 0 ≤ j) fun i j => .int (i / 2 ^ j.toNat)) := opI fun i j _ _ _ _ _ hc q =>
  rshift_int hc (by rw [Int.fdiv_eq_ediv_of_nonneg i (two_pow_nn _)]; exact q)
theorem op_and : OpR X (binaryOp .BitAnd) (rI0 fun i j => .int (Builtin.bitAnd i j)) := opI0 fun _ _ _ _ _ _ _ q => and_int q
theorem op_or : OpR X (binaryOp .BitOr) (rI0 fun i j => .int (Builtin.bitOr i j)) := opI0 fun _ _ _ _ _ _ _ q => or_int q



/-! ### bools among ints: n += (a < b) -/
end

/-! ### comparisons -/
/-- the scalars that == tells apart as data does -/
noncomputable def scal : V → V → Bool
  | .non, .non => true | .non, .int _ => true | .int _, .non => true | .non, .bl _ => true | .bl _, .non => true | .non, .str _ => true | .str _, .non => true
  | .int _, .int _ => true | .bl _, .bl _ => true | .str _, .str _ => true | .byt _, .byt _ => true
  | .int _, .str _ => true | .str _, .int _ => true | .bl _, .str _ => true | .str _, .bl _ => true
  | _, _ => false
noncomputable def rEq : R2 := fun x y H Q => scal x y = true ∧ Q (.bl (decide (x = y))) H
noncomputable def rNe : R2 := fun x y H Q => scal x y = true ∧ Q (.bl (!decide (x = y))) H

theorem dec_int {i j : Int} : decide (V.int i = V.int j) = (i == j) := by
  rw [Bool.eq_iff_iff]
  simp
theorem dec_bl {i j : Bool} : decide (V.bl i = V.bl j) = (i == j) := by
  rw [Bool.eq_iff_iff]
  simp
theorem dec_str {i j : Str} : decide (V.str i = V.str j) = (i == j) := by
  rw [Bool.eq_iff_iff]
  simp
theorem dec_byt {i j : Array UInt8} : decide (V.byt i = V.byt j) = (i.toList == j.toList) := by
  rw [Bool.eq_iff_iff]
  cases i
  cases j
  simp

section
variable {X : Cx} {a b c : Expr} {ta tb tc : TE} {pos : Pos}
theorem fin_bl {pins : List (Addr × Obj)} {σ : St} {H : Hp} {s : Shared} {Q : VK} {k k' : Bool} (I : Inv X pins σ H s) (q : Q (.bl k) H) (e : k = k') : EP X pins σ Q (.bool k') s := by
  subst e
  exact ⟨.bl k, H, I, rfl, q⟩
theorem op_eq : OpR X (compareOp .Eq) rEq := by
  intro pins s σ H x y v u Q I rx ry h
  obtain ⟨hs, q⟩ := h
  cases x with
  | non =>
    cases rx
    cases y with
    | non => cases ry; exact PySem.EqNone.eq_none_none (fin_bl I q (by simp))
    | bl j => cases ry; exact PySem.EqNone.eq_none_bool (fin_bl I q (by simp))
    | int j => obtain ⟨t', rfl⟩ := ry; exact PySem.EqNone.eq_none_int (fin_bl I q (by simp))
    | str j => obtain ⟨t', rfl⟩ := ry; exact PySem.EqNone.eq_none_str (fin_bl I q (by simp))
    | _ => exact absurd (show false = true from hs) Bool.false_ne_true
  | bl i =>
    cases rx
    cases y with
    | non => cases ry; exact PySem.EqNone.eq_bool_none (fin_bl I q (by simp))
    | bl j => cases ry; exact eq_bool (fin_bl I q dec_bl)
    | str j => obtain ⟨t', rfl⟩ := ry; exact PySem.EqMixed.eq_bool_str (fin_bl I q (by simp))
    | _ => exact absurd (show false = true from hs) Bool.false_ne_true
  | int i =>
    obtain ⟨t, rfl⟩ := rx
    cases y with
    | non => cases ry; exact PySem.EqNone.eq_int_none (fin_bl I q (by simp))
    | int j => obtain ⟨t', rfl⟩ := ry; exact eq_int (fin_bl I q dec_int)
    | str j => obtain ⟨t', rfl⟩ := ry; exact PySem.EqMixed.eq_int_str (fin_bl I q (by simp))
    | _ => exact absurd (show false = true from hs) Bool.false_ne_true
  | str i =>
    obtain ⟨t, rfl⟩ := rx
    cases y with
    | non => cases ry; exact PySem.EqNone.eq_str_none (fin_bl I q (by simp))
    | bl j => cases ry; exact PySem.EqMixed.eq_str_bool (fin_bl I q (by simp))
    | int j => obtain ⟨t', rfl⟩ := ry; exact PySem.EqMixed.eq_str_int (fin_bl I q (by simp))
    | str j => obtain ⟨t', rfl⟩ := ry; exact eq_str (fin_bl I q dec_str)
    | _ => exact absurd (show false = true from hs) Bool.false_ne_true
  | byt i =>
    obtain ⟨t, rfl⟩ := rx
    cases y with
    | byt j => obtain ⟨t', rfl⟩ := ry; exact PySem.W.eq_bytes (fin_bl I q dec_byt)
    | _ => exact absurd (show false = true from hs) Bool.false_ne_true
  | _ => cases y <;> exact absurd (show false = true from hs) Bool.false_ne_true
theorem op_ne : OpR X (compareOp .NotEq) rNe := by
  intro pins s σ H x y v u Q I rx ry h
  obtain ⟨hs, q⟩ := h
  cases x with
  | non =>
    cases rx
    cases y with
    | non => cases ry; exact PySem.EqNone.ne_none_none (fin_bl I q (by simp))
    | bl j => cases ry; exact PySem.EqNone.ne_none_bool (fin_bl I q (by simp))
    | int j => obtain ⟨t', rfl⟩ := ry; exact PySem.EqNone.ne_none_int (fin_bl I q (by simp))
    | str j => obtain ⟨t', rfl⟩ := ry; exact PySem.EqNone.ne_none_str (fin_bl I q (by simp))
    | _ => exact absurd (show false = true from hs) Bool.false_ne_true
  | bl i =>
    cases rx
    cases y with
    | non => cases ry; exact PySem.EqNone.ne_bool_none (fin_bl I q (by simp))
    | bl j => cases ry; exact ne_bool (fin_bl I q (congrArg not dec_bl))
    | str j => obtain ⟨t', rfl⟩ := ry; exact PySem.EqMixed.ne_bool_str (fin_bl I q (by simp))
    | _ => exact absurd (show false = true from hs) Bool.false_ne_true
  | int i =>
    obtain ⟨t, rfl⟩ := rx
    cases y with
    | non => cases ry; exact PySem.EqNone.ne_int_none (fin_bl I q (by simp))
    | int j => obtain ⟨t', rfl⟩ := ry; exact ne_int (fin_bl I q (congrArg not dec_int))
    | str j => obtain ⟨t', rfl⟩ := ry; exact PySem.EqMixed.ne_int_str (fin_bl I q (by simp))
    | _ => exact absurd (show false = true from hs) Bool.false_ne_true
  | str i =>
    obtain ⟨t, rfl⟩ := rx
    cases y with
    | non => cases ry; exact PySem.EqNone.ne_str_none (fin_bl I q (by simp))
    | bl j => cases ry; exact PySem.EqMixed.ne_str_bool (fin_bl I q (by simp))
    | int j => obtain ⟨t', rfl⟩ := ry; exact PySem.EqMixed.ne_str_int (fin_bl I q (by simp))
    | str j => obtain ⟨t', rfl⟩ := ry; exact ne_str (fin_bl I q (congrArg not dec_str))
    | _ => exact absurd (show false = true from hs) Bool.false_ne_true
  | byt i =>
    obtain ⟨t, rfl⟩ := rx
    cases y with
    | byt j => obtain ⟨t', rfl⟩ := ry; exact PySem.W.ne_bytes (fin_bl I q (congrArg not dec_byt))
    | _ => exact absurd (show false = true from hs) Bool.false_ne_true
  | _ => cases y <;> exact absurd (show false = true from hs) Bool.false_ne_true

theorem op_lt : OpR X (compareOp .Lt) (rI0 fun i j => .bl (decide (i < j))) := opB0 fun _ _ _ _ _ _ _ q => lt_int q
theorem op_le : OpR X (compareOp .LtE) (rI0 fun i j => .bl (decide (i ≤ j))) := opB0 fun _ _ _ _ _ _ _ q => le_int q
theorem op_gt : OpR X (compareOp .Gt) (rI0 fun i j => .bl (decide (j < i))) := opB0 fun _ _ _ _ _ _ _ q => gt_int q




theorem nomark (b : Expr) {op : CmpOp} (h : op ≠ .In := by decide) (h2 : op ≠ .NotIn := by decide) : behindInMarks op b = false := by
  have e1 : (op == CmpOp.In) = false := by cases op <;> first | rfl | exact absurd rfl h
  have e2 : (op == CmpOp.NotIn) = false := by cases op <;> first | rfl | exact absurd rfl h2
  cases b <;> simp [behindInMarks, e1, e2]
/-- a comparison as a value; hm: nomark b, or (for in, not in) by with_unfolding_all rfl -/
theorem pe_cmpR {op : CmpOp} {r : R2} (ho : OpR X (compareOp op) r) (ha : PE X a ta) (hb : PE X b tb) (hm : behindInMarks op b = false) : PE X (.Compare a [op] [b] pos) (tOp r ta tb) := by
  intro pins s σ H Q I h
  exact wpAny_Compare1 (binT ha hb I h fun v u s2 x y H2 I2 rx ry q => ho pins s2 σ H2 x y v u Q I2 rx ry q) hm
/-- a reading of a value as a test -/
noncomputable def tTest (t : TE) : TT := fun σ H Q => t σ H fun x H' => ∃ k, x = .bl k ∧ Q k H'
theorem pt_cmpR {op : CmpOp} {r : R2} (ho : OpR X (compareOp op) r) (ha : PE X a ta) (hb : PE X b tb) (hm : behindInMarks op b = false) : PT X (.Compare a [op] [b] pos) (tTest (tOp r ta tb)) := by
  intro pins s σ H Q I h
  refine wpAny_isTrue_Compare1 (thn (ha pins s σ H _ I h) fun v s1 ⟨x, H1, I1, r1, q1⟩ => thn (hb pins s1 σ H1 _ I1 q1) fun u s2 ⟨y, H2, I2, r2, q2⟩ =>
    thn (ho pins s2 σ H2 x y v u _ I2 r1 r2 q2) fun c s3 zz => ?_) hm
  obtain ⟨z, H3, I3, r3, k, e, q3⟩ := zz
  subst e
  cases r3
  exact wpAny_truthy_bool ⟨H3, I3, q3⟩
/-- a op1 b op2 c -/
noncomputable def tChain (r r' : R2) (ta tb tc : TE) : TE := fun σ H Q => ta σ H fun x H1 => tb σ H1 fun y H2 => r x y H2 fun z H3 => ∃ k, z = .bl k ∧
  (if k = true then tc σ H3 fun w' H4 => r' y w' H4 Q else Q (.bl false) H3)
theorem pe_chain {op op' : CmpOp} {r r' : R2} (ho : OpR X (compareOp op) r) (ho' : OpR X (compareOp op') r') (ha : PE X a ta) (hb : PE X b tb) (hc : PE X c tc)
    (hm : lastMarks [op, op'] [b, c] = false := by with_unfolding_all rfl) : PE X (.Compare a [op, op'] [b, c] pos) (tChain r r' ta tb tc) := by
  intro pins s σ H Q I h
  refine Compare_chain (thn (ha pins s σ H _ I h) fun v s1 ⟨x, H1, I1, r1, q1⟩ => chain_link (thn (hb pins s1 σ H1 _ I1 q1) fun u s2 ⟨y, H2, I2, r2, q2⟩ =>
    thn (ho pins s2 σ H2 x y v u _ I2 r1 r2 q2) fun d s3 zz => ?_)) hm
  obtain ⟨z, H3, I3, r3, k, e, q3⟩ := zz
  subst e
  cases r3
  refine wpAny_truthy_bool ?_
  cases k with
  | false => exact ite_ff ⟨.bl false, H3, I3, rfl, q3⟩
  | true => exact ite_tt (chain_last (thn (hc pins s3 σ H3 _ I3 q3) fun w' s4 ⟨z', H4, I4, r4, q4⟩ => ho' pins s4 σ H4 y z' u w' Q I4 r2 r4 q4))
theorem pt_chain {op op' : CmpOp} {r r' : R2} (ho : OpR X (compareOp op) r) (ho' : OpR X (compareOp op') r') (ha : PE X a ta) (hb : PE X b tb) (hc : PE X c tc)
    (hm : lastMarks [op, op'] [b, c] = false := by with_unfolding_all rfl) : PT X (.Compare a [op, op'] [b, c] pos) (tTest (tChain r r' ta tb tc)) := by
  intro pins s σ H Q I h
  refine isTrue_chain (thn (ha pins s σ H _ I h) fun v s1 ⟨x, H1, I1, r1, q1⟩ => test_link (thn (hb pins s1 σ H1 _ I1 q1) fun u s2 ⟨y, H2, I2, r2, q2⟩ =>
    thn (ho pins s2 σ H2 x y v u _ I2 r1 r2 q2) fun d s3 zz => ?_)) hm
  obtain ⟨z, H3, I3, r3, k, e, q3⟩ := zz
  subst e
  cases r3
  refine wpAny_truthy_bool ?_
  cases k with
  | false =>
    obtain ⟨k', e', q'⟩ := q3
    cases e'
    exact ite_ff ⟨H3, I3, q'⟩
  | true =>
    refine ite_tt (test_last (thn (hc pins s3 σ H3 _ I3 q3) fun w' s4 ⟨z', H4, I4, r4, q4⟩ => thn (ho' pins s4 σ H4 y z' u w' _ I4 r2 r4 q4) fun d' s5 zz => ?_))
    obtain ⟨z2, H5, I5, r5, k2, e2, q5⟩ := zz
    subst e2
    cases r5
    exact wpAny_truthy_bool ⟨H5, I5, q5⟩

/-! ### truth -/
theorem line63 : (sizeLine : Nat) < 2 ^ 63 := by rw [sizeLine_eq]; decide

/-! ### strs and bytes -/
theorem op_add_str : OpR X (binaryOp .Add) (fun x y H Q => ∃ i j, x = .str i ∧ y = .str j ∧ i.length + j.length ≤ sizeLine ∧ Q (.str (i ++ j)) H) := by
  intro pins s σ H x y v u Q I rx ry h
  obtain ⟨i, j, rfl, rfl, hz, q⟩ := h
  obtain ⟨t, rfl⟩ := rx
  obtain ⟨t', rfl⟩ := ry
  exact add_str (fun t' tk => ⟨.str (i ++ j), H, I.tok _, ⟨_, rfl⟩, q⟩) hz


/-! ### scalar builtins, by CallR -/
theorem vals1 {x : V} {us : List Value} (r : Vals [x] us) : ∃ u, us = [u] ∧ RelV x u := by
  cases r with
  | cons r1 r2 => cases r2; exact ⟨_, rfl, r1⟩
theorem vals2 {x y : V} {us : List Value} (r : Vals [x, y] us) : ∃ u w', us = [u, w'] ∧ RelV x u ∧ RelV y w' := by
  cases r with
  | cons r1 r2 =>
    cases r2 with
    | cons r3 r4 => cases r4; exact ⟨_, _, rfl, r1, r3⟩
theorem call_str_int : CallR X (.type "str") (fun xs H Q => ∃ i, xs = [.int i] ∧ i.natAbs.log2 < 1920 ∧ Q (.str (toString i)) H) := by
  intro pins s σ H xs us Q I r h
  obtain ⟨i, rfl, hz, q⟩ := h
  obtain ⟨u, rfl, t, rfl⟩ := vals1 r
  exact PySem.P.str_of_int hz ⟨.str _, H, I.tok _, ⟨_, rfl⟩, q⟩
/-- divmod: a new tuple -/
theorem call_divmod : CallR X (.builtin "divmod") (fun xs H Q => ∃ i j, xs = [.int i, .int j] ∧ CDiv i j ∧ ∀ p, H p = none → Q (.ref p) (upd H p (.tup [.int (i / j), .int (i % j)]))) := by
  intro pins s σ H xs us Q I r h
  obtain ⟨i, j, rfl, ⟨h1, h2⟩, q⟩ := h
  obtain ⟨u, w', rfl, ⟨t, rfl⟩, ⟨t', rfl⟩⟩ := vals2 r
  refine divmod_int (by omega) ?_ (.inl (PyProof.noPylong_small (by omega)))
  rw [Int.fdiv_eq_ediv_of_nonneg i (by omega), Int.fmod_eq_emod_of_nonneg i (by omega)]
  have hn : H s.heap.objs.size = none := I.hok.fresh (Nat.le_refl _)
  refine ⟨.ref s.heap.objs.size, _, ?_, rfl, q _ hn⟩
  refine I.laid (fun b o e => Heap.get?_push_of_some _ e) (Nat.le_refl _) ⟨by simp only [List.length_cons, List.length_nil]; rw [sizeLine_eq]; decide, [.int (i / j) s.toks, .int (i % j) (s.toks + 1)], .cons ⟨_, rfl⟩ (.cons ⟨_, rfl⟩ .nil), ?_⟩
  exact ⟨_, Heap.get?_push_size s.heap rfl, rfl, 0, rfl⟩
end
end L2

namespace L2
open PySem PySem.Spec PyProof.Rows

/-! ### an instance, its attributes a map -/
structure ObjM (h : Heap) (x dx C : Addr) (mA : Str → Option Value) : Prop where
  obj : h.get? x = some (PySem.W.instObj C dx)
  ns : h.Ns1 dx mA
  ne : dx ≠ x

theorem lookIn_ns {h : Heap} {dx : Addr} {mA : Str → Option Value} (n : h.Ns1 dx mA) : ∃ od, h.get? dx = some od ∧ ∀ name, PySem.W.lookIn name od = some (mA name) := by
  obtain ⟨o, es, ep, ho, hd, hk, _, hm⟩ := n
  refine ⟨o, ho, fun name => ?_⟩
  have e := hm name
  unfold nsFind findBy at e
  rw [← Array.find?_toList] at e
  unfold PySem.W.lookIn
  rw [hd]
  dsimp only
  split
  · rename_i y q
    rw [q] at e
    exact congrArg some e
  · rename_i q
    rw [q] at e
    have a : es.toList.any (·.refKey) = false := by
      rw [List.any_eq_false]
      intro y hy
      obtain ⟨z, t, hkey⟩ := hk y (Array.mem_toList_iff.mp hy)
      simp [DictEntry.refKey, hkey]
    have a' : ¬ es.toList.any (·.refKey) = true := by rw [a]; exact Bool.false_ne_true
    rw [if_neg a']
    exact congrArg some e

theorem ObjM.look {h : Heap} {x dx C : Addr} {mA : Str → Option Value} (I : ObjM h x dx C mA) : ∃ od, PySem.W.InstAt h x (PySem.W.instObj C dx) C (some od) ∧ ∀ name, PySem.W.lookIn name od = some (mA name) :=
  let ⟨od, ho, hl⟩ := lookIn_ns I.ns
  ⟨od, ⟨I.obj, rfl, rfl, ho⟩, hl⟩

section
variable {prog : Program} {w : World} {A : Around} {E : Value → Shared → Prop} {s : Shared} {K : PySem.W.Frag} {x dx C f : Addr} {mA : Str → Option Value} {name : Str} {v : Value}

theorem get_map {expr : Bool} {Q : Value → Shared → Prop} (X : K.In s.heap) (I : ObjM s.heap x dx C mA) (hg : PySem.W.plainGet K C name = true) (hh : PySem.W.hasDictIn K C = true)
    (ha : PySem.W.findIn K (.ref C) name = some none) (hv : mA name = some v) (hv' : PySem.W.handedIn v = true) (h : Q v { s with toks := s.toks + 1 }) :
    wpAny (model prog w) A (getAttr (.ref x) name expr) Q E s := by
  obtain ⟨od, J, hl⟩ := I.look
  exact PySem.W.get_value X J (PySem.W.plainGet_of hg).1 (PySem.W.findObj_own hh ha rfl (by rw [hl, hv])) hv' h


theorem get_meth {pl : Sem Bool} {Q : Value × List Value → Shared → Prop} (X : K.In s.heap) (I : ObjM s.heap x dx C mA) (hg : PySem.W.plainGet K C name = true)
    (hf : PySem.W.findIn K (.ref C) name = some (some (.ref f))) (ht : PySem.W.isFn K (.ref f) = true) (hv : mA name = none) (h : Q (.ref f, [.ref x]) s) :
    wpAny (model prog w) A (getMethod (.ref x) name pl) Q E s := by
  obtain ⟨od, J, hl⟩ := I.look
  exact PySem.W.method_fn X J (PySem.W.plainGet_of hg).1 (PySem.W.plainGet_of hg).2 hf (beq_iff_eq.mp ht) (by show (PySem.W.lookIn name od).map (·.isSome) = some false; rw [hl, hv]; rfl) h

theorem set_map {ns : List Str} {Q : Unit → Shared → Prop} (X : K.In s.heap) (I : ObjM s.heap x dx C mA)
    (hs : PySem.W.findIn K (.ref C) "__setattr__" = some (some (.builtin "object.__setattr__"))) (hp : PySem.W.plainOver K C = true) (ht : PySem.W.takerIn K C name = some none) (hh : PySem.W.hasDictIn K C = true)
    (hw : PySem.Within mA ns) (hsz : ns.length ≤ sizeLine)
    (h : ∀ h', ObjM h' x dx C (fun y => if y = name then some v else mA y) → Heap.SameBut dx s.heap h' → Q () { s with heap := h', toks := s.toks + 2 }) :
    wpAny (model prog w) A (setAttr (.ref x) name v) Q E s := by
  obtain ⟨od, J, hl⟩ := I.look
  refine PySem.W.set_plain X J hs (PySem.W.osa_open (s := { s with toks := s.toks + 1 }) (r := none) X J hp ht fun b => ?_)
  obtain ⟨cd, hc, hd'⟩ := PySem.W.any_some hh
  have hx : s.heap.get? x = some ⟨.ref C, some dx, .plain, #[]⟩ := I.obj
  refine wpAny_bind (wpAny_pure (wpAny_bind (wpAny_bind (wpAny_loadPart hx (wpAny_bind (PySem.W.Looks.here (s := { s with toks := s.toks + 1 }) (PySem.W.looks_clsIn X hc) ?_))))))
  rw [hd']
  refine wpAny_pure (a := some dx) (wpAny_bind (wpAny_pure (wpAny_bind ?_)))
  refine wpAny_nsSet1 (s := { s with toks := s.toks + 1 }) I.ns fun h' hn2 hs2 => ?_
  obtain ⟨oD, esD, epD, hoD, hdD, hcD⟩ := hn2.count (PySem.Within.cons name v hw)
  refine wpAny_bind (wpAny_lookBehind hoD (by rw [hdD]; exact pastItsLine_dict (Nat.le_trans hcD (by rw [List.length_cons]; omega))) ?_)
  exact wpAny_pure (h _ ⟨(hs2.2 _ (Ne.symm I.ne)).trans I.obj, hn2, I.ne⟩ hs2)

/-- C(..): the dict at the heap's end, the instance behind it; then its __init__ -/
theorem make_map {R : Result → Shared → Prop} {vs : List Value} {kw : List (Str × Value)} (X : K.In s.heap) (hm : PySem.W.makesIn K C = true)
    (hi : PySem.W.findIn K (.ref C) "__init__" = some (some (.ref f))) (hf : PySem.W.typeIn K (.ref f) = some (.type "function"))
    (h : codeAny (model prog w) (A.under (.builtin "type.__call__" ⟨.ref C :: vs, kw⟩)) (.call (.ref f) ⟨.ref (s.heap.objs.size + 1) :: vs, kw⟩) (PySem.W.InitBack (s.heap.objs.size + 1) R)
      { s with heap := (s.heap.push PySem.W.emptyDict).push (PySem.W.instObj C s.heap.objs.size) }) :
    codeAny (model prog w) A (.call (.ref C) ⟨vs, kw⟩) R s := by
  obtain ⟨hh, g, d, t, os⟩ := s
  exact PySem.W.make_core (PySem.W.makes_of X hm) (PySem.W.looks_findIn X hi) (fun self => PySem.W.bind_fn X self hf) (.inl rfl) h
/-- C() where there is no __init__ but object's -/
theorem make_map0 {R : Result → Shared → Prop} (X : K.In s.heap) (hm : PySem.W.makesIn K C = true)
    (hi : PySem.W.findIn K (.ref C) "__init__" = some (some (.builtin "object.__init__")))
    (hb : ∀ self, PySem.W.Looks (model prog w) s.heap (bindSpecial (.builtin "object.__init__") self) (.builtin "object.__init__", [self]))
    (h : codeAny (model prog w) (A.under (.builtin "type.__call__" ⟨[.ref C], []⟩)) (.call (.builtin "object.__init__") ⟨[.ref (s.heap.objs.size + 1)], []⟩) (PySem.W.InitBack (s.heap.objs.size + 1) R)
      { s with heap := (s.heap.push PySem.W.emptyDict).push (PySem.W.instObj C s.heap.objs.size) }) :
    codeAny (model prog w) A (.call (.ref C) ⟨[], []⟩) R s := by
  obtain ⟨hh, g, d, t, os⟩ := s
  exact PySem.W.make_core (PySem.W.makes_of X hm) (PySem.W.looks_findIn X hi) hb (.inr ⟨rfl, rfl⟩) h
end

/-! ### the attributes as a list of pairs -/
noncomputable def putF (f : Str) (v : V) : List (Str × V) → List (Str × V)
  | [] => [(f, v)]
  | (g, x) :: r => if g = f then (g, v) :: r else (g, x) :: putF f v r
theorem lookup_putF (f g : Str) (v : V) : ∀ fs : List (Str × V), (putF f v fs).lookup g = if g = f then some v else fs.lookup g
  | [] => by
    show List.lookup g [(f, v)] = _
    by_cases h : g = f
    · have hb : (g == f) = true := beq_iff_eq.mpr h
      simp only [List.lookup, hb, if_pos h]
    · have hb : (g == f) = false := beq_eq_false_iff_ne.mpr h
      simp only [List.lookup, hb, if_neg h]
  | (k, x) :: r => by
    have ih := lookup_putF f g v r
    rw [show putF f v ((k, x) :: r) = (if k = f then (k, v) :: r else (k, x) :: putF f v r) from rfl]
    by_cases hk : k = f
    · rw [if_pos hk]
      by_cases h : g = k
      · have hb : (g == k) = true := beq_iff_eq.mpr h
        simp only [List.lookup, hb, if_pos (h.trans hk)]
      · have hb : (g == k) = false := beq_eq_false_iff_ne.mpr h
        simp only [List.lookup, hb, if_neg (fun e : g = f => h (e.trans hk.symm))]
    · rw [if_neg hk]
      by_cases h : g = k
      · have hb : (g == k) = true := beq_iff_eq.mpr h
        simp only [List.lookup, hb, if_neg (fun e : g = f => hk (h.symm.trans e))]
      · have hb : (g == k) = false := beq_eq_false_iff_ne.mpr h
        simp only [List.lookup, hb]
        exact ih
theorem keys_putF (f : Str) (v : V) : ∀ fs : List (Str × V), f ∈ (putF f v fs).map (·.1) ∧ ∀ g, g ∈ fs.map (·.1) → g ∈ (putF f v fs).map (·.1)
  | [] => ⟨by simp [putF], fun g h => by simp at h⟩
  | (k, x) :: r => by
    obtain ⟨i1, i2⟩ := keys_putF f v r
    rw [show putF f v ((k, x) :: r) = (if k = f then (k, v) :: r else (k, x) :: putF f v r) from rfl]
    by_cases hk : k = f
    · rw [if_pos hk]
      subst hk
      exact ⟨by simp, fun g h => by simpa using h⟩
    · rw [if_neg hk]
      refine ⟨?_, fun g h => ?_⟩
      · rw [List.map_cons]
        exact List.mem_cons_of_mem _ i1
      · rw [List.map_cons] at h ⊢
        rcases List.mem_cons.mp h with e | e
        · exact List.mem_cons.mpr (.inl e)
        · exact List.mem_cons_of_mem _ (i2 g e)
theorem length_putF (f : Str) (v : V) : ∀ fs : List (Str × V), (putF f v fs).length ≤ fs.length + 1
  | [] => by simp [putF]
  | (k, x) :: r => by
    have ih := length_putF f v r
    rw [show putF f v ((k, x) :: r) = (if k = f then (k, v) :: r else (k, x) :: putF f v r) from rfl]
    by_cases hk : k = f
    · rw [if_pos hk, List.length_cons, List.length_cons]; omega
    · rw [if_neg hk, List.length_cons, List.length_cons]; omega

theorem RelO.some_of {v : V} {o : Option Value} (r : RelO (some v) o) : ∃ u, o = some u ∧ RelV v u := by
  cases o with
  | none => exact (show False from r).elim
  | some u => exact ⟨u, rfl, r⟩
theorem RelO.none_of {o : Option Value} (r : RelO none o) : o = none := by
  cases o with
  | none => rfl
  | some u => exact (show False from r).elim
theorem handed_of {v : V} {u : Value} (r : RelV v u) : PySem.W.handedIn u = true := by
  cases v with
  | non => cases (show u = Value.none from r); rfl
  | bl b => cases (show u = Value.bool b from r); rfl
  | int i => obtain ⟨t, e⟩ := (show ∃ t, u = Value.int i t from r); cases e; rfl
  | str x => obtain ⟨t, e⟩ := (show ∃ t, u = Value.str x t from r); cases e; rfl
  | byt b => obtain ⟨t, e⟩ := (show ∃ t, u = Value.bytes b t from r); cases e; rfl
  | flt b => obtain ⟨t, e⟩ := (show ∃ t, u = Value.float b t from r); cases e; rfl
  | ref a => cases (show u = Value.ref a from r); rfl
  | ty n => cases (show u = Value.type n from r); rfl

section
variable {P : Program} {w : World} {H H' : Hp} {h h' : Heap} {a C dx : Addr} {fs fs' : List (Str × V)}
theorem ins_get (hok : HOk P w H h) (e : H a = some (.ins C dx fs)) : ∃ mA, ObjM h a dx C mA ∧ (∀ f, RelO (fs.lookup f) (mA f)) ∧ PySem.Within mA (fs.map (·.1)) ∧ fs.length ≤ 1000 ∧ H dx = some (.own a) := by
  obtain ⟨d, z, ne, ob, mA, n, r, q⟩ := (show ObjOk P w H h a (.ins C dx fs) from hok a _ e)
  exact ⟨mA, ⟨ob, n, ne⟩, r, q, z, d⟩
end

/-! ### what of the text a class must have -/
structure Cls (K : PySem.W.Frag) (C : Addr) : Prop where
  pg : PySem.W.plainGet K C Str.empty = true
  hd : PySem.W.hasDictIn K C = true
  po : PySem.W.plainOver K C = true
  sa : PySem.W.findIn K (.ref C) "__setattr__" = some (some (.builtin "object.__setattr__"))
theorem Cls.get {K : PySem.W.Frag} {C : Addr} (c : Cls K C) (f : Str) : PySem.W.plainGet K C f = true := c.pg
/-- no class of it has the name -/
noncomputable def NoAttr (K : PySem.W.Frag) (C : Addr) (f : Str) : Prop := PySem.W.findIn K (.ref C) f = some none
theorem NoAttr.taker {K : PySem.W.Frag} {C : Addr} {f : Str} (n : NoAttr K C f) : PySem.W.takerIn K C f = some none := by
  unfold PySem.W.takerIn
  rw [show PySem.W.findIn K (.ref C) f = some none from n]
  rfl
/-- a method: a plain def of the class or of one above it -/
structure Meth (K : PySem.W.Frag) (C : Addr) (m : Str) (f : Addr) : Prop where
  at_ : PySem.W.findIn K (.ref C) m = some (some (.ref f))
  fn : PySem.W.isFn K (.ref f) = true
  kp : PySem.W.keepIn K (.ref f) = true

section
variable {X : Cx} {pins : List (Addr × Obj)} {σ : St} {H : Hp} {s : Shared} {a C dx : Addr} {fs : List (Str × V)} {f : Str} {v : V} {A : Around} {E : Value → Shared → Prop}

theorem getattr_ok {b : Bool} {Q : Value → Shared → Prop} (I : Inv X pins σ H s) (e : H a = some (.ins C dx fs)) (c : Cls X.K C) (n : NoAttr X.K C f) (l : fs.lookup f = some v)
    (h : ∀ u s', Inv X pins σ H s' → RelV v u → Q u s') : wpAny (model X.prog X.w) A (getAttr (.ref a) f b) Q E s := by
  obtain ⟨mA, O, r, _, _, _⟩ := ins_get I.hok e
  obtain ⟨u, hu, ru⟩ := RelO.some_of (v := v) (o := mA f) (by rw [← l]; exact r f)
  exact get_map I.kIn O (c.get f) c.hd n hu (handed_of ru) (h u _ (I.tok _) ru)


theorem getmeth_ok {m : Str} {g : Addr} {pl : Sem Bool} {Q : Value × List Value → Shared → Prop} (I : Inv X pins σ H s) (e : H a = some (.ins C dx fs)) (c : Cls X.K C) (k : Meth X.K C m g) (l : fs.lookup m = none)
    (h : Q (.ref g, [.ref a]) s) : wpAny (model X.prog X.w) A (getMethod (.ref a) m pl) Q E s := by
  obtain ⟨mA, O, r, _, _, _⟩ := ins_get I.hok e
  have hn : mA m = none := RelO.none_of (by rw [← l]; exact r m)
  exact get_meth I.kIn O (c.get m) k.at_ k.fn hn h

theorem setattr_ok {y : V} {u : Value} {Q : Unit → Shared → Prop} (I : Inv X pins σ H s) (e : H a = some (.ins C dx fs)) (c : Cls X.K C) (n : NoAttr X.K C f) (hl : fs.length < 1000) (ry : RelV y u)
    (h : ∀ s', Inv X pins σ (upd H a (.ins C dx (putF f y fs))) s' → Q () s') : wpAny (model X.prog X.w) A (setAttr (.ref a) f u) Q E s := by
  obtain ⟨mA, O, r, wi, _, ho⟩ := ins_get I.hok e
  have hz : (fs.map (·.1)).length ≤ sizeLine := by rw [List.length_map, sizeLine_eq]; omega
  refine set_map I.kIn O c.sa c.po n.taker c.hd wi hz fun h' O' sb => h _ ?_
  have hd : ∃ o, h'.get? dx = some o := let ⟨o, _, _, e', _⟩ := O'.ns; ⟨o, e'⟩
  refine I.write (x := a) (e := dx) (by rw [e]; exact True.intro) (.inr ho) (fun b q hb z => (sb.2 b hb).trans z) hd ?_
  refine ⟨by rw [upd_ne O.ne]; exact ho, ?_, O.ne, O'.obj, _, O'.ns, fun g => ?_, fun g hg => ?_⟩
  · have := length_putF f y fs; omega
  · show RelO ((putF f y fs).lookup g) (if g = f then some u else mA g)
    rw [lookup_putF]
    by_cases q : g = f
    · rw [if_pos q, if_pos q]; exact ry
    · rw [if_neg q, if_neg q]; exact r g
  · by_cases q : g = f
    · rw [q]; exact (keys_putF f y fs).1
    · refine (keys_putF f y fs).2 g (wi g fun z => hg ?_)
      show (if g = f then some u else mA g) = none
      rw [if_neg q]; exact z

/-- a new instance, tracked, without attributes -/
theorem Inv.made (I : Inv X pins σ H s) : Inv X pins σ (upd (upd H s.heap.objs.size (.own (s.heap.objs.size + 1))) (s.heap.objs.size + 1) (.ins C s.heap.objs.size []))
    { s with heap := (s.heap.push PySem.W.emptyDict).push (PySem.W.instObj C s.heap.objs.size) } := by
  have e1 : (s.heap.push PySem.W.emptyDict).get? s.heap.objs.size = some PySem.W.emptyDict := Heap.get?_push_size s.heap rfl
  have e2 : ((s.heap.push PySem.W.emptyDict).push (PySem.W.instObj C s.heap.objs.size)).get? (s.heap.objs.size + 1) = some (PySem.W.instObj C s.heap.objs.size) := by
    have := Heap.get?_push_size (s.heap.push PySem.W.emptyDict) (o := PySem.W.instObj C s.heap.objs.size) rfl
    rwa [Heap.size_push] at this
  have e3 : (s.heap.push PySem.W.emptyDict).Ns s.heap.objs.size (fun _ => none) := ⟨PySem.W.emptyDict, #[], _, e1, rfl, (fun e he => absurd he (by simp)), fun _ => rfl⟩
  have I1 := I.laid (a := s.heap.objs.size) (o := .own (s.heap.objs.size + 1)) (h' := s.heap.push PySem.W.emptyDict) (t' := s.toks) (fun b u q => Heap.get?_push_of_some _ q) (Nat.le_refl _) ⟨_, e1⟩
  refine I1.laid (a := s.heap.objs.size + 1) (o := .ins C s.heap.objs.size []) (t' := s.toks) (fun b u q => Heap.get?_push_of_some _ q) (Nat.le_of_eq (Heap.size_push _ _)) ?_
  have ne : s.heap.objs.size ≠ s.heap.objs.size + 1 := Nat.ne_of_lt (Nat.lt_succ_self _)
  refine ⟨by rw [upd_ne ne, upd_same], Nat.zero_le _, ne, e2, fun _ => none, (Heap.Ns1.of_empty e3).at fun o q => Heap.get?_push_of_some _ q, fun _ => True.intro, fun y hy => absurd rfl hy⟩

/-- e.f where nothing but the object is asked: through attributeBase (super) and the last hold -/
theorem attr_of {prog : Program} {w : World} {env : Env} {e : Expr} {f : Str} {pos : Pos} {s : Shared} {Q : Value → Shared → Prop} (hb : attributeBase e f env (eval e env) = eval e env)
    (h : wpAny (model prog w) A (eval e env) (fun o s₁ => wpAny (model prog w) A (getAttr o f true) Q E s₁) E s) : wpAny (model prog w) A (eval (.Attribute e f pos) env) Q E s :=
  Attribute_any_ h (by rw [arm_eval_Attribute, hb])
end

/-! ### readings and rules -/
/-- e.f, an attribute of the instance -/
noncomputable def tFld (K : PySem.W.Frag) (ta : TE) (f : Str) : TE := fun σ H Q => ta σ H fun x H1 => ∃ a C dx fs v, x = .ref a ∧ H1 a = some (.ins C dx fs) ∧ Cls K C ∧ NoAttr K C f ∧ fs.lookup f = some v ∧ Q v H1
/-- e.f = value -/
noncomputable def sFld (K : PySem.W.Frag) (ta tv : TE) (f : Str) : TS := fun D σ H => tv σ H fun y H1 => ta σ H1 fun x H2 => ∃ a C dx fs, x = .ref a ∧ H2 a = some (.ins C dx fs) ∧ Cls K C ∧ NoAttr K C f ∧ fs.length < 1000 ∧
  D.nx σ (upd H2 a (.ins C dx (putF f y fs)))

section
variable {X : Cx} {o e value : Expr} {f : Str} {pos pos' tpos : Pos} {ta tv : TE}
theorem pe_fld (he : PE X e ta) (hb : attributeBase e f X.env (eval e X.env) = eval e X.env) : PE X (.Attribute e f pos) (tFld X.K ta f) := by
  intro pins s σ H Q I h
  refine attr_of hb (thn (he pins s σ H _ I h) fun u s1 zz => ?_)
  obtain ⟨x, H1, I1, rx, a, C, dx, fs, v, ex, ea, c, n, l, q⟩ := zz
  subst ex
  obtain rfl : u = Value.ref a := rx
  exact getattr_ok I1 ea c n l fun u' s2 I2 ru => ⟨v, H1, I2, ru, q⟩
theorem ps_fld (ha : PE X o ta) (hv : PE X value tv) (hs : swapsWith value (some (.Attribute o f pos')) pos.line X.env = pure false) : PS X (.Assign [.Attribute o f pos'] value pos) (sFld X.K ta tv f) := by
  intro pins s σ H D I h
  refine plainObj_wpAny_Assign_Attribute (thn (hv pins s σ H _ I h) fun u s1 ⟨y, H1, I1, ry, q⟩ => thn (ha pins s1 σ H1 _ I1 q) fun ov s2 zz => ?_) hs
  obtain ⟨x, H2, I2, rx, a, C, dx, fs, ex, ea, c, n, l, q2⟩ := zz
  subst ex
  obtain rfl : ov = Value.ref a := rx
  exact setattr_ok I2 ea c n l ry fun s3 I3 => ⟨σ, _, I3, q2⟩

end

/-! ### isinstance -/
section
variable {X : Cx} {pins : List (Addr × Obj)} {σ : St} {H : Hp} {s : Shared} {A : Around} {E : Value → Shared → Prop} {Q : Value → Shared → Prop} {c : Value} {b : Bool}
/-- the type of a value, as the fragment's deciders take it; for an instance its class -/
inductive TyOf (K : PySem.W.Frag) (H : Hp) : V → Value → Prop where
  | non : TyOf K H .non (.type "NoneType")
  | bl (x : Bool) : TyOf K H (.bl x) (.type "bool")
  | int (i : Int) : TyOf K H (.int i) (.type "int")
  | str (x : Str) : TyOf K H (.str x) (.type "str")
  | flt (x : UInt64) : TyOf K H (.flt x) (.type "float")
  | lst {a : Addr} {xs : List V} (e : H a = some (.lst xs)) : TyOf K H (.ref a) (.type "list")
  | frz {a : Addr} {o : Obj} {xs : List V} (e : H a = some (.frz o (.lst xs))) : TyOf K H (.ref a) (.type "list")
  | tup {a : Addr} {xs : List V} (e : H a = some (.tup xs)) : TyOf K H (.ref a) (.type "tuple")
  | dK {a : Addr} {kvs : List (Key × V)} (e : H a = some (.dK kvs)) : TyOf K H (.ref a) (.type "dict")
  | dT {a : Addr} {kvs : List (List Key × V)} (e : H a = some (.dT kvs)) : TyOf K H (.ref a) (.type "dict")
  | ins {a C dx : Addr} {fs : List (Str × V)} (e : H a = some (.ins C dx fs)) (cl : Cls K C) (ha : PySem.W.findIn K (.ref C) "__class__" = some (some (.builtin "object.__class__")))
      (hn : PySem.W.specialIn K (.builtin "object.__class__") "__get__" = some (some (.builtin "getset_descriptor.__get__"))) (htk : PySem.W.takesIn K (.builtin "object.__class__") = some true)
      (hm : PySem.W.mroIn K C (.type "object") = some true) : TyOf K H (.ref a) (.ref C)
/-- isinstance(x, c) for one class c, a built-in or an own one: kitOne's answer -/
theorem isinst_ok {x : V} {u t : Value} (I : Inv X pins σ H s) (rx : RelV x u) (ty : TyOf X.K H x t) (e : PySem.W.kitOne X.K t c = some b) (h : ∀ tk, Q (.bool b) { s with toks := tk }) :
    wpAny (model X.prog X.w) A (call (.builtin "isinstance") [u, c]) Q E s := by
  cases ty with
  | non => cases (show u = Value.none from rx); exact PySem.W.kia_one PySem.W.kitx_none I.kIn True.intro e (fun z => nomatch z) h
  | bl y => cases (show u = Value.bool y from rx); exact PySem.W.kia_one PySem.W.kitx_bool I.kIn True.intro e (fun z => nomatch z) h
  | int i => obtain ⟨t, q⟩ := (show ∃ t, u = Value.int i t from rx); cases q; exact PySem.W.kia_one PySem.W.kitx_int I.kIn True.intro e (fun z => nomatch z) h
  | str y => obtain ⟨t, q⟩ := (show ∃ t, u = Value.str y t from rx); cases q; exact PySem.W.kia_one PySem.W.kitx_str I.kIn True.intro e (fun z => nomatch z) h
  | flt y => obtain ⟨t, q⟩ := (show ∃ t, u = Value.float y t from rx); cases q; exact PySem.W.kia_one PySem.W.kitx_float I.kIn True.intro e (fun z => nomatch z) h
  | @lst a xs ea =>
    cases (show u = Value.ref a from rx)
    obtain ⟨_, _, n, _, h1⟩ := (show ObjOk X.prog X.w H s.heap a (.lst xs) from I.hok a _ ea)
    exact PySem.W.kia_one PySem.W.kitx_list I.kIn ⟨_, h1, rfl⟩ e (fun z => nomatch z) h
  | @frz a ob xs ea =>
    cases (show u = Value.ref a from rx)
    obtain ⟨_, _, _, n, _, h1⟩ := (show ObjOk X.prog X.w H s.heap a (.frz ob (.lst xs)) from I.hok a _ ea)
    exact PySem.W.kia_one PySem.W.kitx_list I.kIn ⟨_, h1, rfl⟩ e (fun z => nomatch z) h
  | @tup a xs ea =>
    cases (show u = Value.ref a from rx)
    obtain ⟨_, _, _, p⟩ := (show ObjOk X.prog X.w H s.heap a (.tup xs) from I.hok a _ ea)
    obtain ⟨o, h1, h2, _⟩ := p
    exact PySem.W.kia_one PySem.W.kitx_tuple I.kIn ⟨o, h1, h2⟩ e (fun z => nomatch z) h
  | @dK a kvs ea =>
    cases (show u = Value.ref a from rx)
    obtain ⟨_, _, vs, _, p⟩ := (show ObjOk X.prog X.w H s.heap a (.dK kvs) from I.hok a _ ea)
    obtain ⟨o, es, ep, h1, h2, _⟩ := p
    exact PySem.W.kia_one PySem.W.kitx_dict I.kIn ⟨o, h1, h2.1⟩ e (fun z => nomatch z) h
  | @dT a kvs ea =>
    cases (show u = Value.ref a from rx)
    obtain ⟨_, _, xs, _, o, es, ep, h1, h2, _⟩ := (show ObjOk X.prog X.w H s.heap a (.dT kvs) from I.hok a _ ea)
    exact PySem.W.kia_one PySem.W.kitx_dict I.kIn ⟨o, h1, h2.1⟩ e (fun z => nomatch z) h
  | @ins a C dx fs ea cl ha hn htk hm =>
    cases (show u = Value.ref a from rx)
    obtain ⟨mA, O, _⟩ := ins_get I.hok ea
    obtain ⟨od, J, _⟩ := O.look
    exact PySem.W.kia_one (PySem.W.kitx_own (cl.get _) cl.hd ha hn htk hm) I.kIn J e (fun z => nomatch z) h
end
end L2

namespace L2
open PySem PySem.Spec PyProof.Rows

/-! ### room -/
structure Room (k : Nat) (A : Around) : Prop where
  hd : A.handled = none
  dp : A.depth + 3 * k + 5 < recursionLimit
  un : A.units + 16 * k + 200 < cLine
  gd : A.guards = some []
theorem Room.mono {j k : Nat} {A : Around} (r : Room k A) (h : j ≤ k) : Room j A := ⟨r.hd, by have := r.dp; omega, by have := r.un; omega, r.gd⟩
theorem Room.deeper {k : Nat} {A : Around} (r : Room (k + 1) A) (env : Env) : Room k (A.deeper env) :=
  ⟨r.hd, by have := r.dp; show A.depth + 1 + 3 * k + 5 < _; omega, by have := r.un; show A.units + 3 + 16 * k + 200 < _; omega, r.gd⟩
theorem make_depth {A : Around} {C : Addr} {us : List Value} {kw : List (Str × Value)} : (A.under (.builtin "type.__call__" ⟨.ref C :: us, kw⟩)).depth = A.depth + 1 := by
  first | rfl | simp [Around.under, Code.weight, Code.isCreation, Code.isGuard, Code.isCaller, Code.frames, Code.isFrame, guardIds]
theorem make_units {A : Around} {C : Addr} {us : List Value} {kw : List (Str × Value)} : (A.under (.builtin "type.__call__" ⟨.ref C :: us, kw⟩)).units = A.units + 1 := by
  first | rfl | simp [Around.under, Code.cUnits, Code.frames, Code.isFrame]
theorem Room.make {k : Nat} {A : Around} (r : Room (k + 1) A) (C : Addr) (us : List Value) (kw : List (Str × Value)) : Room k (A.under (.builtin "type.__call__" ⟨.ref C :: us, kw⟩)) :=
  ⟨r.hd, by have := r.dp; rw [make_depth]; omega, by have := r.un; rw [make_units]; omega, by simp [Around.under, r.gd, Code.guards, Code.isGuard, guardIds, pushGuards]⟩
theorem Room.depth {k : Nat} {A : Around} (r : Room k A) : A.depth < recursionLimit := by have := r.dp; omega
theorem Room.units {k : Nat} {A : Around} (r : Room k A) : A.units + 64 < cLine := by have := r.un; omega
theorem Room.units0 {k : Nat} {A : Around} (r : Room k A) : A.units < cLine := by have := r.un; omega

/-! ### argument lists and displays -/
noncomputable def tNil : TA := fun _ H Q => Q [] H
noncomputable def tCons (ta : TE) (tr : TA) : TA := fun σ H Q => ta σ H fun x H1 => tr σ H1 fun xs H2 => Q (x :: xs) H2
section
variable {X : Cx} {e : Expr} {es : List Expr} {te : TE} {t : TA} {pos : Pos}
theorem pa_nil : PA X [] tNil := fun _ _ _ _ H Q I h => Calls.spliced_nil ⟨[], H, I, .nil, h⟩
theorem pa_cons (ha : PE X e te) (hr : PA X es t) (hs : starEach (e :: es) X.env = (false, eval e X.env) :: starEach es X.env := by rfl) : PA X (e :: es) (tCons te t) := by
  intro pos pins s σ H Q I h
  rw [hs]
  show wpAny _ _ (spliced ((false, eval e X.env) :: backTo pos (starEach es X.env))) _ _ s
  refine Calls.spliced_cons (thn (ha pins s σ H _ I h) fun u s1 zz => ?_)
  obtain ⟨x, H1, I1, r1, q1⟩ := zz
  exact thn (hr pos pins s1 σ H1 _ I1 q1) fun us s2 ⟨xs, H2, I2, r2, q2⟩ => ⟨x :: xs, H2, I2, .cons r1 r2, q2⟩

/-- a tuple, a list of written items -/
noncomputable def tTup (t : TA) : TE := fun σ H Q => t σ H fun xs H1 => xs.length ≤ sizeLine ∧ ∀ p, H1 p = none → Q (.ref p) (upd H1 p (.tup xs))
noncomputable def tLst (t : TA) : TE := fun σ H Q => t σ H fun xs H1 => xs.length ≤ sizeLine ∧ ∀ p, H1 p = none → Q (.ref p) (upd H1 p (.lst xs))
theorem pe_tup {x1} (h : PA X es t) : PE X (.Tuple es x1 pos) (tTup t) := by
  intro pins s σ H Q I hq
  refine wpAny_Tuple_spliced (thn (h pos pins s σ H _ I hq) fun us s1 ⟨xs, H1, I1, r, z, q⟩ => ⟨by rw [← r.length]; exact z, ?_⟩)
  have hf : H1 s1.heap.objs.size = none := I1.hok.fresh (Nat.le_refl _)
  refine ⟨.ref s1.heap.objs.size, upd H1 s1.heap.objs.size (.tup xs), I1.laid (t' := s1.toks) (fun b u e => Heap.get?_push_of_some _ e) (Nat.le_refl _) ?_, rfl, q _ hf⟩
  exact ⟨z, us, r, ⟨_, Heap.get?_push_size _ rfl, rfl, _, rfl⟩⟩
theorem pe_lst (h : PA X es t) : PE X (.List es pos) (tLst t) := by
  intro pins s σ H Q I hq
  refine wpAny_List_spliced (thn (h pos pins s σ H _ I hq) fun us s1 ⟨xs, H1, I1, r, z, q⟩ => ⟨by rw [← r.length]; exact z, ?_⟩)
  have hf : H1 s1.heap.objs.size = none := I1.hok.fresh (Nat.le_refl _)
  refine ⟨.ref s1.heap.objs.size, upd H1 s1.heap.objs.size (.lst xs), I1.laid (t' := s1.toks) (fun b u e => Heap.get?_push_of_some _ e) (Nat.le_refl _) ?_, rfl, q _ hf⟩
  exact ⟨z, us, 0, r, Heap.get?_push_size _ rfl⟩
end

/-! ### what a def promises -/
/-- a def's promise: the bound arguments in the parameters' order, the heap, the wanted end, the wanted exception -/
noncomputable abbrev Sp := List V → Hp → VK → XK → Prop
/-- how an exception lies behind a call (file 08 gives it): the callers' frames, abstract heap and state ahead of the call, the wish, the exception, the state -/
noncomputable abbrev CXT := List Env → Hp → Shared → XK → Value → Shared → Prop

/-- the state at a call -/
structure Env0 (P : Program) (w : World) (K : PySem.W.Frag) (mg : Str → Option Value) (base : Heap) (A : Around) (outer : List Env) (s : Shared) (H : Hp) : Prop where
  frames : A.frames = some outer
  mod : Mod K mg base
  bs : ∀ b o, base.get? b = some o → s.heap.get? b = some o ∧ H b = none
  bsz : base.objs.size ≤ s.heap.objs.size
  funs : s.heap.FunFrames base outer
  frf : ∀ b ∈ frs outer, H b = none
  hok : HOk P w H s.heap
  bare : AllBare s.gens
/-- a call's end -/
noncomputable def CE (outer : List Env) (P : Program) (w : World) (H : Hp) (s : Shared) (Q : VK) (u : Value) (s' : Shared) : Prop :=
  ∃ v H', s'.os = s.os ∧ AllBare s'.gens ∧ Un (frs outer) [] H H' s.heap s'.heap ∧ HOk P w H' s'.heap ∧ RelV v u ∧ Q v H'
noncomputable def CR (CX : CXT) (outer : List Env) (P : Program) (w : World) (H : Hp) (s : Shared) (Q : VK) (E : XK) (r : Result) (s' : Shared) : Prop :=
  match r with
  | .ok (.ret u) => CE outer P w H s Q u s'
  | .ok _ => False
  | .error e => CX outer H s E e s'
structure FnOk (P : Program) (w : World) (K : PySem.W.Frag) (mg : Str → Option Value) (base : Heap) (CX : CXT) (k : Nat) (f : Addr) (fd : FuncData) (ps : List Str) (sp : Sp) : Prop where
  len : ∀ vs H Q E, sp vs H Q E → vs.length = ps.length
  run : ∀ (A : Around) (outer : List Env) (s : Shared) (H : Hp) (args : Args) (us : List Value) (vs : List V) (Q : VK) (E : XK), Room k A → Env0 P w K mg base A outer s H → BindsTo s fd args (ps.zip us) → Vals vs us → sp vs H Q E →
    codeAny (model P w) A (.call (.ref f) args) (CR CX outer P w H s Q E) s
theorem FnOk.mono {P : Program} {w : World} {K : PySem.W.Frag} {mg : Str → Option Value} {base : Heap} {CX : CXT} {j k : Nat} {f : Addr} {fd : FuncData} {ps : List Str} {sp : Sp} (F : FnOk P w K mg base CX j f fd ps sp) (h : j ≤ k) :
    FnOk P w K mg base CX k f fd ps sp := ⟨F.len, fun A outer s H args us vs Q E hr => F.run A outer s H args us vs Q E (hr.mono h)⟩

theorem Env0.make {P : Program} {w : World} {K : PySem.W.Frag} {mg : Str → Option Value} {base : Heap} {A : Around} {outer : List Env} {s : Shared} {H : Hp} (e : Env0 P w K mg base A outer s H) (C : Addr) (us : List Value) (kw : List (Str × Value)) :
    Env0 P w K mg base (A.under (.builtin "type.__call__" ⟨.ref C :: us, kw⟩)) outer s H := ⟨by first | exact e.frames | (simpa [Around.under, Code.envs, Code.isFrame, pushEnvs] using e.frames), e.mod, e.bs, e.bsz, e.funs, e.frf, e.hok, e.bare⟩

section
variable {X : Cx} {pins : List (Addr × Obj)} {σ : St} {H : Hp} {s s' : Shared}
/-- from a body: what a callee wants -/
theorem Inv.env0 (I : Inv X pins σ H s) : Env0 X.prog X.w X.K X.mg X.base X.A X.stack s H :=
  ⟨I.ok.frames, I.ok.mod, I.bs, Nat.le_trans I.ok.bsz I.sz, I.stack, I.stkFree, I.hok, I.bare⟩
/-- behind a call -/
theorem Inv.after {Q : VK} {u : Value} (I : Inv X pins σ H s) (h : CE X.stack X.prog X.w H s Q u s') : EP X pins σ Q u s' := by
  obtain ⟨v, H', os, bare, un, hok, r, q⟩ := h
  obtain ⟨hh, g, d, t, os'⟩ := s'
  obtain rfl : os' = s.os := os
  exact ⟨v, H', I.call (h' := hh) (g' := g) (d' := d) (t' := t) (ch := []) un hok bare (fun b z => absurd z (by simp)), r, q⟩
end

/-! ### calls -/
/-- f(..): the written arguments, then the defaults dvs; E: what is wanted of an exception -/
noncomputable def tCall (sp : Sp) (dvs : List V) (E : XK) (t : TA) : TE := fun σ H Q => t σ H fun vs H1 => sp (vs ++ dvs) H1 Q E
/-- C(..): a new instance and its dict, then __init__ -/
noncomputable def tMake (C : Addr) (sp : Sp) (dvs : List V) (E : XK) (t : TA) : TE := fun σ H Q => t σ H fun vs H1 => ∀ x dx, H1 x = none → H1 dx = none → dx ≠ x →
  sp (.ref x :: (vs ++ dvs)) (upd (upd H1 dx (.own x)) x (.ins C dx [])) (fun v H2 => v = .non ∧ Q (.ref x) H2) E

/-- how the parameters are bound: us the positional arguments, kw the keywords' values by name, ds the defaults that fill up -/
noncomputable def Binds (K : PySem.W.Frag) (fd : FuncData) (ps : List Str) (ds : List Value) : Prop :=
  ∀ (s : Shared) (us : List Value), K.In s.heap → (us ++ ds).length = ps.length → BindsTo s fd ⟨us, []⟩ (ps.zip (us ++ ds))
/-- every parameter is given -/
theorem Binds.all {K : PySem.W.Frag} {fd : FuncData} {ps : List Str} (h : ∀ us : List Value, us.length = ps.length → bindArgs fd ⟨us, []⟩ = pure (ps.zip us)) : Binds K fd ps [] := fun s us _ hl => by
  rw [List.append_nil] at hl ⊢
  exact .of_eq (h us hl)

/-- an exception of a callee reaches what this body wants of exceptions -/
noncomputable def Passes (CX : CXT) (X : Cx) (E : XK) : Prop := ∀ (pins : List (Addr × Obj)) (σ : St) (H : Hp) (s : Shared) (e : Value) (s' : Shared), Inv X pins σ H s → CX X.stack H s E e s' → X.xe e s'

section
variable {X : Cx} {CX : CXT} {k : Nat} {f C : Addr} {fd : FuncData} {ps : List Str} {sp : Sp} {dvs : List V} {ds : List Value} {E : XK} {x m : Str} {p pos apos : Pos} {e o : Expr} {es : List Expr} {ta : TE} {t : TA}

/-- the callee runs -/
theorem run_fn {pins : List (Addr × Obj)} {σ : St} {H : Hp} {s : Shared} {Q : VK} {us : List Value} {vs : List V} (F : FnOk X.prog X.w X.K X.mg X.base CX k f fd ps sp) (hr : Room k X.A) (hb : Binds X.K fd ps ds) (hd : Vals dvs ds) (hx : Passes CX X E)
    (I : Inv X pins σ H s) (r : Vals vs us) (h : sp (vs ++ dvs) H Q E) : wpAny (model X.prog X.w) X.A (call (.ref f) us) (EP X pins σ Q) X.xe s := by
  have r2 : Vals (vs ++ dvs) (us ++ ds) := r.append hd
  have hl : (us ++ ds).length = ps.length := by rw [← r2.length]; exact F.len _ _ _ _ h
  refine wpAny_call (codeAny_mono (F.run X.A X.stack s H ⟨us, []⟩ (us ++ ds) (vs ++ dvs) Q E hr I.env0 (hb s us I.kIn hl) r2 h) fun r s' hq => ?_)
  cases r with
  | error e => exact hx pins σ H s e s' I hq
  | ok fl =>
    cases fl with
    | ret u => exact I.after hq
    | next => exact False.elim hq
    | brk => exact False.elim hq
    | cont => exact False.elim hq

theorem pe_call (F : FnOk X.prog X.w X.K X.mg X.base CX k f fd ps sp) (hr : Room k X.A) (hg : Gl X x) (hm : X.mg x = some (.ref f)) (hk : PySem.W.keepIn X.K (.ref f) = true) (hb : Binds X.K fd ps ds) (hd : Vals dvs ds) (hx : Passes CX X E)
    (ha : PA X (e :: es) t) (hdb : (x == ("__debug__" : Str)) = false := by decide) (he : starEach (e :: es) X.env = (false, eval e X.env) :: starEach es X.env := by rfl) (hpl : (backTo pos (starEach es X.env)).any (·.1) = false := by rfl) :
    PE X (.Call (.Name x p) (e :: es) [] pos) (tCall sp dvs E t) := by
  intro pins s σ H Q I h
  refine wpAny_Call_Name_kw (ld_glob I hg hm ?_ hdb)
  refine PySem.W.callWith_K (h₀ := X.base) I.ok.mod.kin hk (thn (ha pos pins s σ H _ I h) fun us s1 ⟨vs, H1, I1, r, q⟩ => ⟨I1.kIn, ?_⟩) he hpl
  exact run_fn F hr hb hd hx I1 r q


/-- what a class must have to be made -/
structure Mk (K : PySem.W.Frag) (C f : Addr) : Prop where
  makes : PySem.W.makesIn K C = true
  init : PySem.W.findIn K (.ref C) "__init__" = some (some (.ref f))
  fn : PySem.W.isFn K (.ref f) = true
  kp : PySem.W.keepIn K (.ref C) = true

theorem run_make {pins : List (Addr × Obj)} {σ : St} {H : Hp} {s : Shared} {Q : VK} {us : List Value} {vs : List V} (M : Mk X.K C f) (F : FnOk X.prog X.w X.K X.mg X.base CX k f fd ps sp) (hr : Room (k + 1) X.A) (hb : Binds X.K fd ps ds) (hd : Vals dvs ds)
    (hx : Passes CX X E) (I : Inv X pins σ H s) (r : Vals vs us)
    (h : ∀ x dx, H x = none → H dx = none → dx ≠ x → sp (.ref x :: (vs ++ dvs)) (upd (upd H dx (.own x)) x (.ins C dx [])) (fun v H2 => v = .non ∧ Q (.ref x) H2) E) :
    wpAny (model X.prog X.w) X.A (call (.ref C) us) (EP X pins σ Q) X.xe s := by
  have hq := h (s.heap.objs.size + 1) s.heap.objs.size (I.hok.fresh (Nat.le_succ _)) (I.hok.fresh (Nat.le_refl _)) (Nat.ne_of_lt (Nat.lt_succ_self _))
  have I2 := Inv.made (C := C) I
  have r2 : Vals (V.ref (s.heap.objs.size + 1) :: (vs ++ dvs)) (Value.ref (s.heap.objs.size + 1) :: (us ++ ds)) := .cons rfl (r.append hd)
  have hl : (Value.ref (s.heap.objs.size + 1) :: us ++ ds).length = ps.length := by
    have e := r2.length
    rw [F.len _ _ _ _ hq] at e
    exact e.symm
  refine wpAny_call (make_map (f := f) I.kIn M.makes M.init (beq_iff_eq.mp M.fn) (codeAny_mono (F.run _ X.stack _ _ ⟨Value.ref (s.heap.objs.size + 1) :: us, []⟩ (Value.ref (s.heap.objs.size + 1) :: (us ++ ds)) _ _ E (hr.make C us [])
    (I2.env0.make C us []) (hb _ (Value.ref (s.heap.objs.size + 1) :: us) I2.kIn hl) r2 hq) fun r s' hq' => ?_))
  cases r with
  | error e => exact hx pins σ _ _ e s' I2 hq'
  | ok fl =>
    cases fl with
    | ret u =>
      obtain ⟨v, H', I3, rv, ev, q3⟩ := I2.after hq'
      subst ev
      exact ⟨rv, ⟨V.ref (s.heap.objs.size + 1), H', I3, rfl, q3⟩⟩
    | next => exact False.elim hq'
    | brk => exact False.elim hq'
    | cont => exact False.elim hq'
theorem pe_make (M : Mk X.K C f) (F : FnOk X.prog X.w X.K X.mg X.base CX k f fd ps sp) (hr : Room (k + 1) X.A) (hg : Gl X x) (hm : X.mg x = some (.ref C)) (hb : Binds X.K fd ps ds) (hd : Vals dvs ds) (hx : Passes CX X E)
    (ha : PA X (e :: es) t) (hdb : (x == ("__debug__" : Str)) = false := by decide) (he : starEach (e :: es) X.env = (false, eval e X.env) :: starEach es X.env := by rfl) (hpl : (backTo pos (starEach es X.env)).any (·.1) = false := by rfl) :
    PE X (.Call (.Name x p) (e :: es) [] pos) (tMake C sp dvs E t) := by
  intro pins s σ H Q I h
  refine wpAny_Call_Name_kw (ld_glob I hg hm ?_ hdb)
  refine PySem.W.callWith_K (h₀ := X.base) I.ok.mod.kin M.kp (thn (ha pos pins s σ H _ I h) fun us s1 ⟨vs, H1, I1, r, q⟩ => ⟨I1.kIn, ?_⟩) he hpl
  exact run_make M F hr hb hd hx I1 r q
end

/-! ### keywords -/
section
variable {X : Cx} {CX : CXT} {k : Nat} {f C : Addr} {fd : FuncData} {ps ks : List Str} {sp : Sp} {E : XK} {x m : Str} {p pos apos kpos : Pos} {e o : Expr} {es : List Expr} {kws : List Keyword} {te ta : TE} {t tk : TA} {nm : Option Str}

variable {g : List Value → List Value → List Value} {gV : List V → List V → List V}
end

/-! ### a def's body keeps its promise -/
/-- names: the parameters first -/
structure FnScope (N P : List Str) (sc : Scope) : Prop where
  kind : sc.kind = .function
  co : sc.isCoroutine = false
  gen : sc.isGenerator = false
  nd : N.Nodup
  pre : N.take P.length = P
  par : ∀ x ∈ P, sc.names.lookup x = some .local ∨ sc.names.lookup x = some .cell
  nofree : ∀ y ∈ sc.names, y.2 ≠ .free

theorem bindL_out {kindOf : Str → Option NameKind} {x : Str} : ∀ {binds : List (Str × Value)} {m : Str → Option Value}, (∀ v, (x, v) ∉ binds) → bindL kindOf binds m x = m x
  | [], _, _ => rfl
  | (n, v) :: r, m, h => by
    unfold bindL
    rw [bindL_out fun w hw => h w (List.mem_cons_of_mem _ hw)]
    split
    · have : x ≠ n := by rintro rfl; exact h v List.mem_cons_self
      simp [this]
    · rfl
theorem bindC_out {kindOf : Str → Option NameKind} {x : Str} : ∀ {binds : List (Str × Value)} {m : Str → Option Value}, (∀ v, (x, v) ∉ binds) → bindC kindOf binds m x = m x
  | [], _, _ => rfl
  | (n, v) :: r, m, h => by
    unfold bindC
    rw [bindC_out fun w hw => h w (List.mem_cons_of_mem _ hw)]
    split
    · rfl
    · have : x ≠ n := by rintro rfl; exact h v List.mem_cons_self
      simp [this]
theorem bindL_get {kindOf : Str → Option NameKind} {x : Str} {v : Value} : ∀ {P : List Str} {vs : List Value} {i : Nat} {m : Str → Option Value}, P.Nodup → P[i]? = some x → vs[i]? = some v → kindOf x = some .local →
    bindL kindOf (P.zip vs) m x = some v
  | [], _, _, _, _, h, _, _ => by simp at h
  | _ :: _, [], _, _, _, _, h, _ => by simp at h
  | p :: P, w :: vs, 0, m, nd, h1, h2, hk => by
    simp at h1 h2; subst h1; subst h2
    show bindL kindOf ((p, w) :: P.zip vs) m p = _
    unfold bindL
    rw [bindL_out fun v hv => (List.nodup_cons.mp nd).1 (List.of_mem_zip hv).1, if_pos hk]
    simp
  | p :: P, w :: vs, i + 1, m, nd, h1, h2, hk => by
    show bindL kindOf ((p, w) :: P.zip vs) m x = _
    unfold bindL
    exact bindL_get (i := i) (List.nodup_cons.mp nd).2 (by simpa using h1) (by simpa using h2) hk
theorem bindC_get {kindOf : Str → Option NameKind} {x : Str} {v : Value} : ∀ {P : List Str} {vs : List Value} {i : Nat} {m : Str → Option Value}, P.Nodup → P[i]? = some x → vs[i]? = some v → kindOf x ≠ some .local →
    bindC kindOf (P.zip vs) m x = some v
  | [], _, _, _, _, h, _, _ => by simp at h
  | _ :: _, [], _, _, _, _, h, _ => by simp at h
  | p :: P, w :: vs, 0, m, nd, h1, h2, hk => by
    simp at h1 h2; subst h1; subst h2
    show bindC kindOf ((p, w) :: P.zip vs) m p = _
    unfold bindC
    rw [bindC_out fun v hv => (List.nodup_cons.mp nd).1 (List.of_mem_zip hv).1, if_neg hk]
    simp
  | p :: P, w :: vs, i + 1, m, nd, h1, h2, hk => by
    show bindC kindOf ((p, w) :: P.zip vs) m x = _
    unfold bindC
    exact bindC_get (i := i) (List.nodup_cons.mp nd).2 (by simpa using h1) (by simpa using h2) hk

/-- the names' values at the entry -/
noncomputable def start (N : List Str) (vs : List V) : St := vs.map some ++ List.replicate (N.length - vs.length) none

/-- the context of a def's body, at its entry; an exception leaves the frame, then lies as CX says -/
noncomputable def cxOf (CX : CXT) (P : Program) (w : World) (K : PySem.W.Frag) (mg : Str → Option Value) (base : Heap) (N : List Str) (qual : Str) (scope : Scope) (f : Addr) (cd : Value) (A : Around) (outer : List Env) (s : Shared) (H : Hp) (E : XK) : Cx where
  prog := P
  w := w
  K := K
  mg := mg
  base := base
  A := A.deeper (envOfC qual scope s.heap.objs.size f cd)
  N := N
  s₀ := s
  H₀ := H
  env := envOfC qual scope s.heap.objs.size f cd
  outer := outer
  stack := envOfC qual scope s.heap.objs.size f cd :: outer
  ex := []
  calm := true
  fn := fun _ => true
  pn := []
  xe := fun e s' => wpAny (model P w) (A.deeper (envOfC qual scope s.heap.objs.size f cd)) (leaving (envOfC qual scope s.heap.objs.size f cd) e) (fun _ s'' => CX outer H s E e s'') (fun e' s'' => CX outer H s E e' s'') s'

theorem cell_has {sc : Scope} {n : Nat} {x : Str} (h : sc.names.lookup x = some .cell) : ∃ c, (cellsFrom n sc.names []).lookup x = some c := by
  have q := PySem.W.cellsFrom_some sc.names n [] (.inl h)
  exact Option.isSome_iff_exists.mp q

theorem inv_start {CX : CXT} {P : Program} {w : World} {K : PySem.W.Frag} {mg : Str → Option Value} {base : Heap} {N ps : List Str} {qual : Str} {scope : Scope} {f : Addr} {cd : Value} {A : Around} {outer : List Env} {s s1 : Shared} {H : Hp} {E : XK} {us : List Value} {vs : List V}
    (S : FnScope N ps scope) (hd : A.handled = none) (e0 : Env0 P w K mg base A outer s H) (hl : vs.length = ps.length) (r : Vals vs us)
    (x : InCallC s s.heap.objs.size (bindL (envOfC qual scope s.heap.objs.size f cd).kindOf (ps.zip us) fun _ => none) (cellsFrom (s.heap.objs.size + 1) scope.names []) (bindC (envOfC qual scope s.heap.objs.size f cd).kindOf (ps.zip us) fun _ => none) s1) :
    Inv (cxOf CX P w K mg base N qual scope f cd A outer s H E) [] (start N vs) H s1 := by
  have hpl : ps.length ≤ N.length := by have := congrArg List.length S.pre; rw [List.length_take] at this; omega
  obtain ⟨h1, tk, rfl, hk⟩ := x.done
  have noA : ∀ b : Addr, b ∉ (cxOf CX P w K mg base N qual scope f cd A outer s H E).ex := fun b z => absurd (show b ∈ ([] : List Addr) from z) (by simp)
  refine ⟨⟨e0.mod, S.kind, rfl, rfl, Nat.le_refl _, fun y z c h1 h2 => ?_, fun y hy => ?_, fun y c _ h => ?_, fun _ => hd, Around.frames_deeper e0.frames, .inr ⟨rfl, rfl⟩, fun b z => absurd z (noA b), e0.bs, e0.bsz, fun b _ _ => noA b, fun b z => absurd z (noA b), e0.funs, e0.frf⟩,
    rfl, e0.bare, Un.kept hk, ⟨_, x.toInCall.ns, fun i y v h1 h2 h3 => ?_⟩, fun y c h => ⟨_, x.cell y c h⟩, e0.hok.fresh (Nat.le_refl _), fun y c h => ?_, fun p hp => absurd (show p ∈ ([] : List (Addr × Obj)) from hp) (by simp), e0.hok.kept hk, ?_⟩
  · exact name_of_addr x.apart (PySem.mem_of_lookup h1) (PySem.mem_of_lookup h2)
  · have hy : scope.names.lookup y = some .cell ∨ scope.names.lookup y = some .free := hy
    rcases hy with hy | hy
    · exact cell_has hy
    · exact absurd rfl (S.nofree _ (PySem.mem_of_lookup hy))
  · exact Nat.le_of_lt (x.above y c (PySem.mem_of_lookup h))
  · have hi : i < vs.length := by
      unfold start at h2
      by_cases hi : i < vs.length
      · exact hi
      · rw [List.getElem?_append_right (by simpa using hi)] at h2
        rw [List.getElem?_replicate] at h2
        split at h2 <;> cases h2
    have ha : vs[i]? = some v := by
      unfold start at h2
      rw [List.getElem?_append_left (by simpa using hi), List.getElem?_map] at h2
      cases e : vs[i]? with
      | none => rw [e] at h2; cases h2
      | some a => rw [e] at h2; cases h2; rfl
    obtain ⟨u, hu, rv⟩ := r.get ha
    have hp : ps[i]? = some y := by
      rw [← S.pre, List.getElem?_take_of_lt (by omega)]; exact h1
    have ndP : ps.Nodup := by rw [← S.pre]; exact S.nd.sublist (List.take_sublist _ _)
    refine ⟨u, rv, ?_⟩
    rcases S.par y (List.mem_of_getElem? hp) with k | k
    · exact .inl ⟨k, bindL_get ndP hp hu k⟩
    · obtain ⟨c, e⟩ := cell_has (n := s.heap.objs.size + 1) k
      refine .inr ⟨.inl k, c, e, ?_⟩
      have q := x.cell y c e
      rw [bindC_get ndP hp hu (by show scope.names.lookup y ≠ _; rw [k]; decide)] at q
      exact q
  · exact e0.hok.fresh (Nat.le_of_lt (x.above y c (PySem.mem_of_lookup h)))
  · unfold start
    show _ = N.length
    rw [List.length_append, List.length_map, List.length_replicate]
    omega

/-- THE RULE: a def (or a method) of the text, by its body. The body's reading t is chosen for each entry; it is run at the parameters' values -/
theorem fn_of {CX : CXT} {P : Program} {w : World} {K : PySem.W.Frag} {mg : Str → Option Value} {base : Heap} {k : Nat} {f : Addr} {name qual : Str} {params : Arguments} {body : List Stmt} {scope : Scope} {dV kV doc pm cdv ct oc : Value} {an od : Option Addr}
    {osl : Array (Option Value)} {N ps : List Str} {sp : Sp} (lk : K.lookup f = some ⟨oc, od, .func (PySem.W.fnOf name qual params body scope dV kV doc pm an cdv ct), osl⟩) (hcd : PySem.W.codeIn K cdv qual = true) (S : FnScope N ps scope)
    (len : ∀ vs H Q E, sp vs H Q E → vs.length = ps.length)
    (hbody : ∀ (A : Around) (outer : List Env) (s : Shared) (H : Hp) (vs : List V) (Q : VK) (E : XK), Room k (A.deeper (envOfC qual scope s.heap.objs.size f cdv)) → sp vs H Q E →
      ∃ t, PSs (cxOf CX P w K mg base N qual scope f cdv A outer s H E) body t ∧ t { nx := fun _ H' => Q .non H', rt := Q } (start N vs) H) :
    FnOk P w K mg base CX (k + 1) f (PySem.W.fnOf name qual params body scope dV kV doc pm an cdv ct) ps sp := by
  refine ⟨len, fun A outer s H args us vs Q E hr e0 hb r hsp => ?_⟩
  have hl := len _ _ _ _ hsp
  have KX : K.In s.heap := e0.mod.kin.keeps fun b o e => (e0.bs b o e).1
  have lim : s.heap.NoLimit := e0.mod.nolimit.keeps fun b o e => (e0.bs b o e).1
  have hkind : ∀ y ∈ ps.zip us, scope.names.lookup y.1 = some .local ∨ (scope.names.lookup y.1 = some .cell ∧ ((cellsFrom (s.heap.objs.size + 1) scope.names []).lookup y.1).isSome = true) := fun ⟨n, v⟩ hy => by
    rcases S.par n (List.of_mem_zip hy).1 with q | q
    · exact .inl q
    · exact .inr ⟨q, PySem.W.cellsFrom_some _ _ _ (.inl q)⟩
  refine codeAny_call_function hr.depth (KX _ _ lk) rfl S.co S.gen rfl (PySem.W.codeRec_of KX hcd) (hb _ _ _ _ ?_)
  refine wpAny_newFunctionEnv_cells S.kind hkind fun env he s1 x => ?_
  subst he
  refine ⟨lim.keeps x.toInCall.keep, codeAny_func ?_⟩
  obtain ⟨t, ht, hq⟩ := hbody A outer s H vs Q E (hr.deeper _) hsp
  have I : Inv (cxOf CX P w K mg base N qual scope f cdv A outer s H E) [] (start N vs) H s1 := inv_start S hr.hd e0 hl r x
  refine wpAny_mono (ht [] s1 (start N vs) H _ I hq) (fun fl s' hs => ?_) fun e s' hs => hs
  have fin : ∀ {σ' : St} {H' : Hp} {v : V} {u : Value}, Inv (cxOf CX P w K mg base N qual scope f cdv A outer s H E) [] σ' H' s' → RelV v u → Q v H' → CE outer P w H s Q u s' :=
    fun {σ' H' v u} J rv q => ⟨v, H', J.os, J.bare, J.base, J.hok, rv, q⟩
  cases fl with
  | ret u =>
    obtain ⟨v, σ', H', J, rv, q⟩ := hs
    exact fin J rv q
  | next =>
    obtain ⟨σ', H', J, q⟩ := hs
    exact fin (v := V.non) (u := Value.none) J rfl q
  | brk =>
    obtain ⟨_, _, _, q⟩ := hs
    exact False.elim q
  | cont =>
    obtain ⟨_, _, _, q⟩ := hs
    exact False.elim q
end L2

namespace L2
open PySem PySem.Spec PyProof.Rows
section
variable {X : Cx} {x : Str} {p pos : Pos} {e : Expr} {es : List Expr} {t : TA} {id T : String} {r : List V → Hp → VK → Prop}

noncomputable def tCB (r : List V → Hp → VK → Prop) (t : TA) : TE := fun σ H Q => t σ H fun vs H1 => r vs H1 Q
/-- f(e, ..), f a built-in function -/
theorem pe_callB (hc : CallR X (.builtin id) r) (hg : Gl X x) (hm : X.mg x = none) (hv : bootBuiltins x = some (.builtin id)) (ha : PA X (e :: es) t) (hn : x ≠ "__name__" := by decide) (hdb : (x == ("__debug__" : Str)) = false := by decide)
    (he : starEach (e :: es) X.env = (false, eval e X.env) :: starEach es X.env := by rfl) (hpl : (backTo pos (starEach es X.env)).any (·.1) = false := by rfl) : PE X (.Call (.Name x p) (e :: es) [] pos) (tCB r t) := by
  intro pins s σ H Q I h
  refine wpAny_Call_Name_kw (ld_blt I hg hm hv ?_ hn hdb)
  exact PyProof.Rows.callWith_builtin1 (thn (ha pos pins s σ H _ I h) fun us s1 ⟨vs, H1, I1, r1, q1⟩ => hc pins s1 σ H1 vs us Q I1 r1 q1) he hpl
/-- T(e, ..), T a built-in type -/
theorem pe_callTy (hc : CallR X (.type T) r) (hg : Gl X x) (hm : X.mg x = none) (hv : bootBuiltins x = some (.type T)) (ha : PA X (e :: es) t) (hn : x ≠ "__name__" := by decide) (hdb : (x == ("__debug__" : Str)) = false := by decide)
    (he : starEach (e :: es) X.env = (false, eval e X.env) :: starEach es X.env := by rfl) (hpl : (backTo pos (starEach es X.env)).any (·.1) = false := by rfl) : PE X (.Call (.Name x p) (e :: es) [] pos) (tCB r t) := by
  intro pins s σ H Q I h
  refine wpAny_Call_Name_kw (ld_blt I hg hm hv ?_ hn hdb)
  exact PyProof.Rows.callWith_type1 (thn (ha pos pins s σ H _ I h) fun us s1 ⟨vs, H1, I1, r1, q1⟩ => hc pins s1 σ H1 vs us Q I1 r1 q1) he hpl
end
end L2

namespace HT
open PySem PyProof.Rows



section
open PySem.SeqAt
open PySem.AutoSeq1 (wpAny_loadPart')
open PySem.MeetsSeq PySem.MeetsSeq2 PySem.MeetsSeq3

end

section
variable {prog : Program} {w : World} {A : Around} {E : Value → Shared → Prop} {s : Shared}



/-! ### t[a:b], not the whole -/
/-- a slice's bound as a place among n (d where it is left out) -/
noncomputable def sIx (n d : Nat) : Option Int → Nat
  | none => d
  | some v => if v < 0 then (v + (n : Int)).toNat else min v.toNat n
theorem sIx_none (n d : Nat) : sIx n d none = d := rfl
theorem sIx_nat (n d k : Nat) : sIx n d (some (k : Int)) = min k n := by
  show (if (k : Int) < 0 then ((k : Int) + (n : Int)).toNat else min (k : Int).toNat n) = min k n
  rw [if_neg (by omega), Int.toNat_natCast]
theorem sIx_le (n d : Nat) (hd : d ≤ n) (o : Option Int) : sIx n d o ≤ n := by
  cases o with
  | none => exact hd
  | some v =>
    show (if v < 0 then (v + (n : Int)).toNat else min v.toNat n) ≤ n
    by_cases hv : v < 0
    · rw [if_pos hv]; omega
    · rw [if_neg hv]; exact Nat.min_le_right _ _

end
end HT

namespace L2
open PySem PySem.Spec PyProof.Rows

/-! ### the parts of a slice -/
noncomputable abbrev TO := St → Hp → (Option Int → Hp → Prop) → Prop
/-- a slice's part (left out, or an int) -/
noncomputable def PO (X : Cx) (e : Option Expr) (t : TO) : Prop :=
  ∀ (pins : List (Addr × Obj)) (s : Shared) (σ : St) (H : Hp) (Q : Option Int → Hp → Prop), Inv X pins σ H s → t σ H Q →
    wpAny (model X.prog X.w) X.A (evalPart e X.env) (fun u s' => ∃ o H', Inv X pins σ H' s' ∧ IsPart u o ∧ Q o H') X.xe s
noncomputable def tNoPart : TO := fun _ H Q => Q none H
noncomputable def tPart (t : TE) : TO := fun σ H Q => t σ H fun x H1 => ∃ i, x = .int i ∧ Q (some i) H1


section
variable {X : Cx} {e : Expr} {te : TE} {lo hi : Option Expr} {tl th : TO} {pos p2 : Pos}

theorem po_none : PO X none tNoPart := by
  intro pins s σ H Q I h
  rw [evalPart_none]
  exact wpAny_pure ⟨none, H, I, .none, h⟩
theorem po_some (h : PE X e te) : PO X (some e) (tPart te) := by
  intro pins s σ H Q I hw
  rw [evalPart_some]
  refine thn (h pins s σ H _ I hw) fun u s1 zz => ?_
  obtain ⟨x, H1, I1, r1, q1⟩ := zz
  obtain ⟨i, rfl, q⟩ := q1
  obtain ⟨t, rfl⟩ := r1
  exact ⟨some i, H1, I1, .int i t, q⟩

/-- what a slice of a value is, by values: the slice object stands at sl -/
noncomputable def SlR (X : Cx) (r : V → Option Int → Option Int → Hp → VK → Prop) : Prop :=
  ∀ (pins : List (Addr × Obj)) (s : Shared) (σ : St) (H : Hp) (x : V) (v vl vu : Value) (lo hi : Option Int) (sl : Addr) (Q : VK), Inv X pins σ H s → RelV x v → s.heap.IsSliceOf sl vl vu .none → IsPart vl lo → IsPart vu hi → r x lo hi H Q →
    ∃ T id, typeLookup (.type T) "__getitem__" = pure (some (.builtin id)) ∧ s.TypeIs v T ∧ wpAny (model X.prog X.w) X.A (getItem v (.ref sl)) (EP X pins σ Q) X.xe s
noncomputable def tSl (r : V → Option Int → Option Int → Hp → VK → Prop) (te : TE) (tl th : TO) : TE := fun σ H Q => te σ H fun x H1 => tl σ H1 fun l H2 => th σ H2 fun u H3 => r x l u H3 Q
/-- a[lo:hi], any a -/
theorem pe_slice {r : V → Option Int → Option Int → Hp → VK → Prop} (hr : SlR X r) (he : PE X e te) (hl : PO X lo tl) (hu : PO X hi th) : PE X (.Subscript e (.Slice lo hi none p2) pos) (tSl r te tl th) := by
  intro pins s σ H Q I h
  refine Subscript_ (thn (he pins s σ H _ I h) fun v s1 zz => ?_)
  obtain ⟨x, H1, I1, r1, q1⟩ := zz
  refine wpAny_Slice (thn (hl pins s1 σ H1 _ I1 q1) fun vl s2 ⟨l, H2, I2, pl, q2⟩ => thn (hu pins s2 σ H2 _ I2 q2) fun vu s3 zz => ?_)
  obtain ⟨u, H3, I3, pu, q3⟩ := zz
  rw [evalPart_none]
  refine wpAny_pure ?_
  have I4 : Inv X pins σ H3 { s3 with heap := s3.heap.push { cls := .type "slice", data := .fields #[vl, vu, .none] } } := I3.kept (t' := s3.toks) fun b ob q => Heap.get?_push_of_some _ q
  obtain ⟨T, id, hT, ht, hg⟩ := hr pins { s3 with heap := s3.heap.push { cls := .type "slice", data := .fields #[vl, vu, .none] } } σ H3 x v vl vu l u s3.heap.objs.size Q I4 r1 (Heap.IsSliceOf.new ..) pl pu q3
  show wpAny (model X.prog X.w) X.A (subscriptTail e (.Slice lo hi none p2) v (.ref s3.heap.objs.size)) (EP X pins σ Q) X.xe { s3 with heap := s3.heap.push { cls := .type "slice", data := .fields #[vl, vu, .none] } }
  exact tail_any (ops := [.ref s3.heap.objs.size, v]) ht hT hg (by with_unfolding_all rfl)

/-- the items of xs[lo:hi] -/
noncomputable def cutV (xs : List V) (lo hi : Option Int) : List V := (xs.drop (HT.sIx xs.length 0 lo)).take (HT.sIx xs.length xs.length hi - HT.sIx xs.length 0 lo)
theorem cutV_length (xs : List V) (lo hi : Option Int) : (cutV xs lo hi).length ≤ xs.length := by
  unfold cutV
  rw [List.length_take, List.length_drop]
  omega

/-! ### t < u, t + u -/
end
end L2

namespace L2
open PySem PySem.Spec PyProof.Rows

/-! ### places -/
/-- the place that an index of any sign means -/
noncomputable def ixN (n : Nat) (i : Int) : Option Nat := if 0 ≤ i then (if i < n then some i.toNat else none) else if -(n : Int) ≤ i then some (i + n).toNat else none
noncomputable def atI {α : Type} (xs : List α) (i : Int) : Option α := (ixN xs.length i).bind fun j => xs[j]?
theorem ixN_seq {n : Nat} {i : Int} {j : Nat} (h : ixN n i = some j) : seqIndex? i n = some j ∧ j < n ∧ -(n : Int) ≤ i ∧ i < n := by
  unfold ixN at h
  by_cases h0 : 0 ≤ i
  · rw [if_pos h0] at h
    by_cases h1 : i < n
    · rw [if_pos h1] at h
      have e : i.toNat = j := Option.some.inj h
      exact ⟨by rw [seqIndex_of h0 h1, e], by omega, by omega, h1⟩
    · rw [if_neg h1] at h; cases h
  · rw [if_neg h0] at h
    by_cases h1 : -(n : Int) ≤ i
    · rw [if_pos h1] at h
      have e : (i + n).toNat = j := Option.some.inj h
      exact ⟨by rw [seqIndex_neg (by omega) h1, e], by omega, h1, by omega⟩
    · rw [if_neg h1] at h; cases h
theorem atI_get {α : Type} {xs : List α} {i : Int} {v : α} (h : atI xs i = some v) : ∃ j, seqIndex? i xs.length = some j ∧ xs[j]? = some v ∧ j < xs.length ∧ -(xs.length : Int) ≤ i ∧ i < xs.length := by
  unfold atI at h
  cases e : ixN xs.length i with
  | none => rw [e] at h; cases h
  | some j =>
    rw [e] at h
    obtain ⟨h1, h2, h3, h4⟩ := ixN_seq e
    exact ⟨j, h1, h, h2, h3, h4⟩
theorem atI_nat {α : Type} {xs : List α} {j : Nat} {v : α} (h : xs[j]? = some v) : atI xs (j : Int) = some v := by
  have hj : j < xs.length := (List.getElem?_eq_some_iff.mp h).1
  have e : ixN xs.length (j : Int) = some j := by
    unfold ixN
    rw [if_pos (by omega), if_pos (by omega)]; simp
  unfold atI; rw [e]; exact h

/-! ### what may be subscripted -/
/-- what stands as an index of a plain subscript -/
noncomputable def PlainIx (b : Expr) : Prop := ∀ o i, subscripted b false o i = operate [o, i] (getItem o i)
/-- a subscript by values -/
noncomputable def IxR (X : Cx) (r : R2) : Prop :=
  ∀ (value slice : Expr) (pins : List (Addr × Obj)) (s : Shared) (σ : St) (H : Hp) (x y : V) (v u : Value) (Q : VK), Inv X pins σ H s → RelV x v → RelV y u → r x y H Q →
    subscripted slice false v u = operate [v, u] (getItem v u) → wpAny (model X.prog X.w) X.A (subscriptTail value slice v u) (EP X pins σ Q) X.xe s
/-- a call of a builtin's method by values: the receiver, the arguments -/
noncomputable def MtR (X : Cx) (id : String) (r : V → List V → Hp → VK → Prop) : Prop :=
  ∀ (pins : List (Addr × Obj)) (s : Shared) (σ : St) (H : Hp) (x : V) (xs : List V) (v : Value) (us : List Value) (Q : VK), Inv X pins σ H s → RelV x v → Vals xs us → r x xs H Q →
    wpAny (model X.prog X.w) X.A (call (.builtin id) (v :: us)) (EP X pins σ Q) X.xe s
section
variable {X : Cx} {a b : Expr} {ta tb : TE} {pos : Pos}
/-- a[b] -/
theorem pe_ix {r : R2} (hr : IxR X r) (ha : PE X a ta) (hb : PE X b tb) (hs : PlainIx b) : PE X (.Subscript a b pos) (tOp r ta tb) := by
  intro pins s σ H Q I h
  exact Subscript_ (binT ha hb I h fun v u s2 x y H2 I2 rx ry q => hr a b pins s2 σ H2 x y v u Q I2 rx ry q (hs _ _))

noncomputable def rIxL (K : PySem.W.Frag) : R2 := fun x y H Q => ∃ p xs i v, x = .ref p ∧ y = .int i ∧ SqL K H p xs ∧ atI xs i = some v ∧ Q v H
noncomputable def rIxT (K : PySem.W.Frag) : R2 := fun x y H Q => ∃ p xs i v, x = .ref p ∧ y = .int i ∧ SqT K H p xs ∧ atI xs i = some v ∧ Q v H
noncomputable def rIxS : R2 := fun x y H Q => ∃ z i c, x = .str z ∧ y = .int i ∧ z.length ≤ sizeLine ∧ atI z.cps.toList i = some c ∧ Q (.str ⟨#[c]⟩) H
theorem ix_list : IxR X (rIxL X.K) := by
  intro value slice pins s σ H x y v u Q I rx ry h hs
  obtain ⟨p, xs, i, z, rfl, rfl, hq, he, q⟩ := h
  cases rx
  obtain ⟨t, rfl⟩ := ry
  obtain ⟨its, r, pl, hz⟩ := I.list hq
  obtain ⟨j, h1, h2, h3, h4, h5⟩ := atI_get he
  obtain ⟨w, ew, rw'⟩ := r.get h2
  have hl := r.length
  have hn := line63
  have fin : EP X pins σ Q w s := ⟨z, H, I, rw', q⟩
  by_cases h0 : 0 ≤ i
  · have hj : i.toNat = j := by
      rw [seqIndex_of h0 h5] at h1
      exact Option.some.inj h1
    exact item_listR pl.isList h0 (by omega) (by rw [hj]; simpa using ew) fin hs
  · have hj : (i + (its.toArray.size : Int)).toNat = j := by
      rw [seqIndex_neg (by omega) h4] at h1
      rw [List.size_toArray, ← hl]
      exact Option.some.inj h1
    exact subscriptTail_builtinR (x := w) pl.isList.typeIs slot_list_getitem.lookup
      (wpAny_getItem_list_neg (Q := fun r s' => r = w ∧ EP X pins σ Q r s') pl.isList (by omega) (by rw [List.size_toArray] <;> omega) (by omega) (by rw [hj]; simpa using ew) ⟨rfl, fin⟩) hs
theorem ix_tup : IxR X (rIxT X.K) := by
  intro value slice pins s σ H x y v u Q I rx ry h hs
  obtain ⟨p, xs, i, z, rfl, rfl, hq, he, q⟩ := h
  cases rx
  obtain ⟨t, rfl⟩ := ry
  obtain ⟨its, r, pl, hz⟩ := I.tuple hq
  obtain ⟨j, h1, h2, h3, h4, h5⟩ := atI_get he
  obtain ⟨w, ew, rw'⟩ := r.get h2
  have hl := r.length
  have hn := line63
  have fin : EP X pins σ Q w s := ⟨z, H, I, rw', q⟩
  exact subscriptTail_builtinR (x := w) pl.typeIs slot_tuple_getitem.lookup
    (getItem_tuple (j := j) (Q := fun r s' => r = w ∧ EP X pins σ Q r s') pl (by omega) (by omega) (by rw [List.size_toArray, ← hl]; exact h1) (by simpa using ew) ⟨rfl, fin⟩) hs
theorem ix_str : IxR X rIxS := by
  intro value slice pins s σ H x y v u Q I rx ry h hs
  obtain ⟨z, i, c, rfl, rfl, hz, he, q⟩ := h
  obtain ⟨t, rfl⟩ := rx
  obtain ⟨t', rfl⟩ := ry
  obtain ⟨j, h1, h2, h3, h4, h5⟩ := atI_get he
  have hl : z.cps.toList.length = z.length := by simp [Str.length]
  rw [hl] at h1 h4 h5
  have hn := line63
  exact tail_any (typeIs_str s z t) slot_str_getitem.lookup (getItem_str (c := c) (by
    have e1 : decide (i < -(2 ^ 63 : Int)) = false := decide_eq_false (by omega)
    have e2 : decide (i ≥ 2 ^ 63) = false := decide_eq_false (by omega)
    rw [e1, e2, Bool.or_false]) (by rw [h1]; simpa using h2) ⟨.str ⟨#[c]⟩, H, I.tok _, ⟨_, rfl⟩, q⟩) hs

/-! ### xs[i] = v, any sign -/

/-! ### slices -/
theorem slice_bounds (lo hi : Option Int) (n : Nat) : (sliceBounds lo hi none n).1 = ((HT.sIx n 0 lo : Nat) : Int) ∧ (sliceBounds lo hi none n).2.1 = ((HT.sIx n n hi : Nat) : Int) ∧ (sliceBounds lo hi none n).2.2 = 1 := by
  refine ⟨?_, ?_, rfl⟩
  · cases lo with
    | none => simp [sliceBounds, HT.sIx]
    | some i =>
      simp only [sliceBounds, HT.sIx, Option.getD_none, show (1 : Int) > 0 by decide, if_true]
      by_cases h : i < 0
      · simp only [h, if_true] <;> omega
      · simp only [h, if_false] <;> omega
  · cases hi with
    | none => simp [sliceBounds, HT.sIx]
    | some i =>
      simp only [sliceBounds, HT.sIx, Option.getD_none, show (1 : Int) > 0 by decide, if_true]
      by_cases h : i < 0
      · simp only [h, if_true] <;> omega
      · simp only [h, if_false] <;> omega
theorem slicePick_cut (its : List Value) (lo hi : Option Int) : slicePick its.toArray lo hi none = ((its.drop (HT.sIx its.length 0 lo)).take (HT.sIx its.length its.length hi - HT.sIx its.length 0 lo)).toArray := by
  obtain ⟨h1, h2, h3⟩ := slice_bounds lo hi its.toArray.size
  unfold slicePick
  rw [h1, h2, h3]
  simp only [sliceRange_one, pick_run, List.size_toArray] <;> rfl
/-- xs[lo:hi] of a list: a new list -/
noncomputable def rSlL (K : PySem.W.Frag) : V → Option Int → Option Int → Hp → VK → Prop := fun x lo hi H Q => ∃ a xs, x = .ref a ∧ SqL K H a xs ∧ ∀ p, H p = none → Q (.ref p) (upd H p (.lst (cutV xs lo hi)))
theorem sl_list : SlR X (rSlL X.K) := by
  intro pins s σ H x v vl vu lo hi sl Q I rx hs pl pu h
  obtain ⟨a, xs, rfl, hx, q⟩ := h
  cases rx
  obtain ⟨its, r, ht, hz⟩ := I.list hx
  have hlen := r.length
  refine ⟨"list", _, slot_list_getitem.lookup, ht.isList.typeIs, ?_⟩
  refine wpAny_getItem_list_slice ht.isList hs pl pu .none (by simp) ?_ (by rw [List.size_toArray] <;> omega)
  rw [slicePick_cut, ← hlen]
  refine ⟨.ref s.heap.objs.size, _, I.laid (t' := s.toks) (o := .lst (cutV xs lo hi)) (fun b ob q => Heap.get?_push_of_some _ q) (Nat.le_refl _) ?_, rfl, q _ (I.hok.fresh (Nat.le_refl _))⟩
  exact ⟨Nat.le_trans (cutV_length xs lo hi) hz, _, 0, (r.drop (HT.sIx xs.length 0 lo)).take (HT.sIx xs.length xs.length hi - HT.sIx xs.length 0 lo), Heap.get?_push_size _ rfl⟩

/-! ### in, not in: flat items -/
noncomputable def flatV : V → Bool
  | .non => true
  | .bl _ => true
  | .int _ => true
  | .str _ => true
  | _ => false
/-- == of flat values -/
noncomputable def eqV : V → V → Bool
  | .non, .non => true
  | .bl a, .bl b => a == b
  | .bl a, .int b => (if a then 1 else 0) == b
  | .int a, .bl b => a == (if b then 1 else 0)
  | .int a, .int b => a == b
  | .str a, .str b => a == b
  | _, _ => false
theorem eqAt_V {A : Around} {s : Shared} {y x : V} {u v : Value} (ry : RelV y u) (rx : RelV x v) (fy : flatV y = true) (fx : flatV x = true) : SeqAt.EqAt A s u v (eqV y x) := by
  cases y with
  | non =>
    cases ry
    cases x with
    | non => cases rx; exact SeqAt.EqAt.same _
    | bl b => cases rx; exact SeqAt.EqAt.none_bool b
    | int b => obtain ⟨t, rfl⟩ := rx; exact SeqAt.EqAt.none_int b t
    | str b => obtain ⟨t, rfl⟩ := rx; exact SeqAt.EqAt.none_str b t
    | _ => exact absurd (show false = true from fx) Bool.false_ne_true
  | bl a =>
    cases ry
    cases x with
    | non => cases rx; exact SeqAt.EqAt.bool_none a
    | bl b => cases rx; exact SeqAt.EqAt.bool_bool a b
    | int b => obtain ⟨t, rfl⟩ := rx; exact SeqAt.EqAt.bool_int a b t
    | str b => obtain ⟨t, rfl⟩ := rx; exact SeqAt.EqAt.bool_str a b t
    | _ => exact absurd (show false = true from fx) Bool.false_ne_true
  | int a =>
    obtain ⟨t', rfl⟩ := ry
    cases x with
    | non => cases rx; exact SeqAt.EqAt.int_none a t'
    | bl b => cases rx; exact SeqAt.EqAt.int_bool a t' b
    | int b => obtain ⟨t, rfl⟩ := rx; exact SeqAt.EqAt.int_int a t' b t
    | str b => obtain ⟨t, rfl⟩ := rx; exact SeqAt.EqAt.int_str a t' b t
    | _ => exact absurd (show false = true from fx) Bool.false_ne_true
  | str a =>
    obtain ⟨t', rfl⟩ := ry
    cases x with
    | non => cases rx; exact SeqAt.EqAt.str_none a t'
    | bl b => cases rx; exact SeqAt.EqAt.str_bool a t' b
    | int b => obtain ⟨t, rfl⟩ := rx; exact SeqAt.EqAt.str_int a t' b t
    | str b => obtain ⟨t, rfl⟩ := rx; exact SeqAt.EqAt.str_str a t' b t
    | _ => exact absurd (show false = true from fx) Bool.false_ne_true
  | _ => exact absurd (show false = true from fy) Bool.false_ne_true
/-- the items' answers, read off the values (a value's own answer does not lean on its token) -/
noncomputable def eqU (x : V) (u : Value) : Bool := match u with
  | .none => eqV .non x
  | .bool b => eqV (.bl b) x
  | .int i _ => eqV (.int i) x
  | .str z _ => eqV (.str z) x
  | _ => false
theorem eqU_of {x y : V} {u : Value} (r : RelV y u) (f : flatV y = true) : eqU x u = eqV y x := by
  cases y with
  | non => cases r; rfl
  | bl b => cases r; rfl
  | int i => obtain ⟨t, rfl⟩ := r; rfl
  | str z => obtain ⟨t, rfl⟩ := r; rfl
  | _ => exact absurd (show false = true from f) Bool.false_ne_true
theorem any_eqU {x : V} : ∀ {xs : List V} {us : List Value}, Vals xs us → xs.all flatV = true → us.any (eqU x) = xs.any fun y => eqV y x
  | _, _, .nil, _ => rfl
  | y :: xs, u :: us, .cons r t, f => by
    rw [List.all_cons, Bool.and_eq_true] at f
    rw [List.any_cons, List.any_cons, eqU_of r f.1, any_eqU t f.2]
theorem mem_eqAt {A : Around} {s : Shared} {x : V} {v : Value} (rx : RelV x v) (fx : flatV x = true) : ∀ {xs : List V} {us : List Value}, Vals xs us → xs.all flatV = true → ∀ u ∈ us, SeqAt.EqAt A s u v (eqU x u)
  | _, _, .nil, _ => fun u hu => by cases hu
  | y :: xs, u :: us, .cons r t, f => fun u' hu => by
    rw [List.all_cons, Bool.and_eq_true] at f
    rcases List.mem_cons.mp hu with rfl | hu
    · rw [eqU_of r f.1]; exact eqAt_V r rx f.1 fx
    · exact mem_eqAt rx fx t f.2 u' hu
noncomputable def inV (x : V) (xs : List V) : Bool := xs.any fun y => eqV y x
/-- x in a list or tuple of flat items -/
noncomputable def rIn (K : PySem.W.Frag) (neg : Bool) : R2 := fun x y H Q => ∃ p xs, y = .ref p ∧ (SqL K H p xs ∨ SqT K H p xs) ∧ flatV x = true ∧ xs.all flatV = true ∧ Q (.bl (if neg then !inV x xs else inV x xs)) H
theorem op_in_seq : OpR X (compareOp .In) (rIn X.K false) := by
  intro pins s σ H x y v u Q I rx ry h
  obtain ⟨p, xs, rfl, hq, fx, fs, q⟩ := h
  cases ry
  rcases hq with hq | hq
  · obtain ⟨its, r, pl, hz⟩ := I.list hq
    refine SeqAt.in_listAt (eqU x) pl.isList (fun w hw => mem_eqAt rx fx r fs w (by simpa using hw)) ⟨.bl _, H, I, rfl, ?_⟩
    rw [show its.toArray.any (eqU x) = its.any (eqU x) by simp, any_eqU r fs]
    exact q
  · obtain ⟨its, r, pl, hz⟩ := I.tuple hq
    refine SeqAt.in_tupleAt (eqU x) pl (fun w hw => mem_eqAt rx fx r fs w (by simpa using hw)) ⟨.bl _, H, I, rfl, ?_⟩
    rw [show its.toArray.any (eqU x) = its.any (eqU x) by simp, any_eqU r fs]
    exact q

/-! ### len, list(x), tuple(x) of any list or tuple that is read -/
theorem call_len_seq : CallR X (.builtin "len") (fun xs H Q => ∃ p ys, xs = [.ref p] ∧ (SqL X.K H p ys ∨ SqT X.K H p ys) ∧ Q (.int ys.length) H) := by
  intro pins s σ H xs us Q I r h
  obtain ⟨p, ys, rfl, hq, q⟩ := h
  obtain ⟨u, rfl, rx⟩ := vals1 r
  cases rx
  have hn := line63
  rcases hq with hq | hq
  · obtain ⟨its, r', pl, hz⟩ := I.list hq
    have hlen := r'.length
    exact Calls.call_len_list pl.isList (by simp only [List.size_toArray] <;> omega) ⟨.int ys.length, H, I.tok _, ⟨s.toks + 1, by rw [List.size_toArray, hlen]⟩, q⟩
  · obtain ⟨its, r', pl, hz⟩ := I.tuple hq
    have hlen := r'.length
    exact len_tuple pl (by simp only [List.size_toArray] <;> omega) ⟨.int ys.length, H, I.tok _, ⟨s.toks + 1, by rw [List.size_toArray, hlen]⟩, q⟩
theorem call_len_str : CallR X (.builtin "len") (fun xs H Q => ∃ z, xs = [.str z] ∧ z.length ≤ sizeLine ∧ Q (.int z.length) H) := by
  intro pins s σ H xs us Q I r h
  obtain ⟨z, rfl, hz, q⟩ := h
  obtain ⟨u, rfl, t, rfl⟩ := vals1 r
  have hn := line63
  exact len_str (by omega) ⟨.int z.length, H, I.tok _, ⟨_, rfl⟩, q⟩
theorem call_list_of : CallR X (.type "list") (fun xs H Q => ∃ p ys, xs = [.ref p] ∧ (SqL X.K H p ys ∨ SqT X.K H p ys) ∧ ∀ l, H l = none → Q (.ref l) (upd H l (.lst ys))) := by
  intro pins s σ H xs us Q I r h
  obtain ⟨p, ys, rfl, hq, q⟩ := h
  obtain ⟨u, rfl, rx⟩ := vals1 r
  cases rx
  have fin : ∀ (its : List Value), Vals ys its → ys.length ≤ sizeLine → ∀ (h' : Heap) (c' : Nat), (∀ b o', s.heap.get? b = some o' → h'.get? b = some o') →
      h'.get? s.heap.objs.size = some { cls := .type "list", dict := none, data := .seq its.toArray c', slots := #[] } → EP X pins σ Q (.ref s.heap.objs.size) { s with heap := h' } := fun its r' hz h' c' kp e =>
    ⟨.ref s.heap.objs.size, _, I.laid (t' := s.toks) kp (Nat.le_refl _) (show ObjOk X.prog X.w _ h' _ (.lst ys) from ⟨hz, its, c', r', e⟩), rfl, q _ (I.hok.fresh (Nat.le_refl _))⟩
  rcases hq with hq | hq
  · obtain ⟨its, r', pl, hz⟩ := I.list hq
    have hlen := r'.length
    obtain ⟨o, ho, hc, n, hd⟩ := pl.isList
    exact call_list_seq p (.inl rfl) ho hc hd (fun h' c' kp e => fin its r' hz h' c' kp e) (by simp only [List.size_toArray] <;> omega)
  · obtain ⟨its, r', pl, hz⟩ := I.tuple hq
    have hlen := r'.length
    obtain ⟨o, ho, hc, n, hd⟩ := pl
    exact call_list_seq p (.inr rfl) ho hc hd (fun h' c' kp e => fin its r' hz h' c' kp e) (by simp only [List.size_toArray] <;> omega)

/-! ### the call of a builtin's method: o.m(..) -/
/-- the value is of that builtin type -/
noncomputable def tyV (K : PySem.W.Frag) (T : String) (x : V) (H : Hp) : Prop := match x with
  | .str _ => T = "str"
  | .int _ => T = "int"
  | .ref p => (T = "list" ∧ ∃ xs, SqL K H p xs) ∨ (T = "tuple" ∧ ∃ o, K.lookup p = some o ∧ o.cls = .type "tuple" ∧ o.dict = none) ∨
      (T = "dict" ∧ ((∃ kvs, H p = some (.dK kvs)) ∨ ∃ kvs, H p = some (.dT kvs))) ∨ (T = "set" ∧ ∃ S n, H p = some (.set S n))
  | _ => False
theorem tyV_is {pins : List (Addr × Obj)} {σ : St} {H : Hp} {s : Shared} {T : String} {x : V} {v : Value} (I : Inv X pins σ H s) (r : RelV x v) (ty : tyV X.K T x H) :
    s.TypeIs v T ∧ ∀ a, v = .ref a → ∃ ob, s.heap.get? a = some ob ∧ ob.dict = none := by
  cases x with
  | str z =>
    obtain ⟨t, rfl⟩ := r
    cases (show T = "str" from ty)
    exact ⟨typeIs_str s z t, fun _ e => nomatch e⟩
  | int i =>
    obtain ⟨t, rfl⟩ := r
    cases (show T = "int" from ty)
    exact ⟨typeIs_int s i t, fun _ e => nomatch e⟩
  | ref p =>
    cases r
    rcases ty with ⟨rfl, xs, hq⟩ | ⟨rfl, o, hk, hc, hd⟩ | ⟨rfl, hk⟩ | ⟨rfl, S, n, hk⟩
    · obtain ⟨its, _, pl, _⟩ := I.list hq
      refine ⟨pl.isList.typeIs, fun a e => ?_⟩
      cases e
      obtain ⟨o, n, e, c, hd, _⟩ := pl
      exact ⟨o, e, hd⟩
    · refine ⟨⟨o, I.kIn p o hk, hc⟩, fun a e => ?_⟩
      cases e
      exact ⟨o, I.kIn _ o hk, hd⟩
    · have z : ∃ o, s.heap.get? p = some o ∧ o.ExactDict := by
        rcases hk with ⟨kvs, hk⟩ | ⟨kvs, hk⟩
        · obtain ⟨_, _, _, _, o, _, _, e, ex, _⟩ := I.hok p _ hk
          exact ⟨o, e, ex⟩
        · obtain ⟨_, _, _, _, o, _, _, e, ex, _⟩ := I.hok p _ hk
          exact ⟨o, e, ex⟩
      obtain ⟨o, e, ex⟩ := z
      refine ⟨⟨o, e, ex.1⟩, fun a e2 => ?_⟩
      cases e2
      exact ⟨o, e, ex.2.1⟩
    · obtain ⟨o, _, _, _, e, ex, _⟩ := I.hok p _ hk
      refine ⟨⟨o, e, ex.1⟩, fun a e2 => ?_⟩
      cases e2
      exact ⟨o, e, ex.2.1⟩
  | _ => exact False.elim ty
noncomputable def tBM0 (K : PySem.W.Frag) (T : String) (r : V → List V → Hp → VK → Prop) (to : TE) : TE := fun σ H Q => to σ H fun x H1 => tyV K T x H1 ∧ r x [] H1 Q
noncomputable def tBM (K : PySem.W.Frag) (T : String) (r : V → List V → Hp → VK → Prop) (to : TE) (t : TA) : TE := fun σ H Q => to σ H fun x H1 => tyV K T x H1 ∧ t σ H1 fun xs H2 => r x xs H2 Q
variable {o e : Expr} {es : List Expr} {to : TE} {t : TA} {name : Str} {apos cpos : Pos} {T id : String} {r : V → List V → Hp → VK → Prop}
theorem pe_bm0 (pa : PlainAttrs T) (slot : Slot T name id) (hty : typeOf (.builtin id) = pure (.type "method_descriptor")) (hm : MtR X id r) (ho : PE X o to)
    (hbase : attributeBase o name X.env (eval o X.env) = eval o X.env := by rfl) (hline : (apos.endLine == cpos.line) = true := by rfl) : PE X (.Call (.Attribute o name apos) [] [] cpos) (tBM0 X.K T r to) := by
  intro pins s σ H Q I h
  refine wpAny_Call_method0_late hbase hline (thn (ho pins s σ H _ I h) fun v s1 zz => ?_)
  obtain ⟨x, H1, I1, r1, ty, q1⟩ := zz
  obtain ⟨h1, h2⟩ := tyV_is I1 r1 ty
  exact ⟨T, id, pa, slot, hty, h1, h2, Calls.callWith_builtin rfl (PySem.evalArgs_none (hm pins s1 σ H1 x [] v [] Q I1 r1 .nil q1))⟩
theorem pe_bm (pa : PlainAttrs T) (slot : Slot T name id) (hty : typeOf (.builtin id) = pure (.type "method_descriptor")) (hm : MtR X id r) (ho : PE X o to) (ha : PA X (e :: es) t)
    (hbase : attributeBase o name X.env (eval o X.env) = eval o X.env := by rfl)
    (hfew : ((backTo cpos (starEach (e :: es) X.env)).all (fun x => !x.1) && (backToKw cpos (keywordEach [] X.env)).all (fun x => x.1.isSome)
      && decide ((e :: es).length + ([] : List Keyword).length + (if ([] : List Keyword).isEmpty then 0 else 1) < 30)) = true := by rfl)
    (hline : (apos.endLine == cpos.line) = true := by rfl) (hs : starEach (e :: es) X.env = (false, eval e X.env) :: starEach es X.env := by rfl) (hplain : (backTo cpos (starEach es X.env)).any (·.1) = false := by rfl) :
    PE X (.Call (.Attribute o name apos) (e :: es) [] cpos) (tBM X.K T r to t) := by
  intro pins s σ H Q I h
  refine wpAny_Call_method_late hbase hfew hline rfl (thn (ho pins s σ H _ I h) fun v s1 zz => ?_)
  obtain ⟨x, H1, I1, r1, ty, q1⟩ := zz
  obtain ⟨h1, h2⟩ := tyV_is I1 r1 ty
  refine ⟨T, id, pa, slot, hty, h1, h2, ?_⟩
  have hA := ha cpos pins s1 σ H1 _ I1 q1
  rw [hs] at hA ⊢
  refine Calls.callWith_builtin (by show (false || (backTo cpos (starEach es X.env)).any (·.1)) = false; rw [hplain] <;> rfl) (Calls.evalArgs_plain ?_)
  exact thn hA fun us s2 ⟨vs, H2, I2, r2, q2⟩ => hm pins s2 σ H2 x vs v us Q I2 r1 r2 q2
/- xs.append(e), list.index on a module's tuple .. are MtR facts of 06m -/
end
end L2

namespace L2
open PySem PySem.Spec PyProof.Rows

noncomputable def MtM (X : Cx) (id : String) (r : V → List V → Hp → VK → Prop) : Prop :=
  ∀ (pins : List (Addr × Obj)) (s : Shared) (σ : St) (H : Hp) (x : V) (xs : List V) (v : Value) (us : List Value) (Q : VK), Inv X pins σ H s → RelV x v → Vals xs us → r x xs H Q →
    wpAny (model X.prog X.w) X.A (call (.builtin id) (v :: us)) (EP X pins σ Q) X.xe s

/-! ### lists of values -/
theorem Vals.one {x : V} {us : List Value} (h : Vals [x] us) : ∃ u, us = [u] ∧ RelV x u := by
  cases h with | cons r h => cases h with | nil => exact ⟨_, rfl, r⟩
theorem Vals.zero : ∀ {us : List Value}, Vals [] us → us = []
  | _, .nil => rfl
theorem Vals.reverse {xs : List V} {us : List Value} (h : Vals xs us) : Vals xs.reverse us.reverse := by
  induction h with
  | nil => exact .nil
  | cons r t ih => rw [List.reverse_cons, List.reverse_cons]; exact Vals.append ih (.cons r .nil)
theorem Vals.rep {xs : List V} {us : List Value} (h : Vals xs us) : ∀ k : Nat, Vals (List.replicate k xs).flatten (List.replicate k us).flatten
  | 0 => .nil
  | k + 1 => by
    rw [List.replicate_succ, List.replicate_succ, List.flatten_cons, List.flatten_cons]
    exact Vals.append h (Vals.rep h k)
theorem foldl_rep (its : List Value) : ∀ (k : Nat) (acc : List Value),
    List.foldl (fun x1 x2 => x1 ++ x2) acc.toArray (List.replicate k its.toArray) = (acc ++ (List.replicate k its).flatten).toArray
  | 0, acc => by simp
  | k + 1, acc => by
    have e : acc.toArray ++ its.toArray = (acc ++ its).toArray := by simp
    have e2 : (acc ++ its) ++ (List.replicate k its).flatten = acc ++ (List.replicate (k + 1) its).flatten := by
      rw [List.replicate_succ, List.flatten_cons, List.append_assoc]
    rw [← e2, ← foldl_rep its k (acc ++ its), ← e, List.replicate_succ, List.foldl_cons]

section
variable {X : Cx} {pins : List (Addr × Obj)} {σ : St} {H : Hp} {s : Shared} {l b : Addr} {xs ys zs : List V}

/-! ### the two steps: a tracked list is rewritten, a new list is laid -/
theorem Inv.lset {its its' : List Value} {n : Nat} {f : Array Value → Array Value} {t' : Nat} (I : Inv X pins σ H s) (hH : H l = some (.lst xs))
    (e : s.heap.get? l = some { cls := .type "list", data := .seq its.toArray n }) (hf : f its.toArray = its'.toArray) (hv : Vals ys its') (hz : ys.length ≤ sizeLine) :
    Inv X pins σ (upd H l (.lst ys)) { s with heap := s.heap.update l (Obj.mapSeq f), toks := t' } := by
  have q := PySem.IsL.update e f
  rw [hf] at q
  refine I.write (x := l) (e := l) (by rw [hH]; exact trivial) (.inl rfl) (fun b' u hb hu => (Heap.get?_update_other s.heap (Obj.mapSeq f) (Ne.symm hb)).trans hu) ⟨_, q⟩ ?_
  exact ⟨hz, its', _, hv, q⟩
theorem Inv.lnew {its : List Value} {t' : Nat} (I : Inv X pins σ H s) (hv : Vals ys its) (hz : ys.length ≤ sizeLine) :
    Inv X pins σ (upd H s.heap.objs.size (.lst ys)) { s with heap := s.heap.push { cls := .type "list", data := .seq its.toArray }, toks := t' } :=
  I.laid (fun _ _ q => Heap.get?_push_of_some _ q) (Nat.le_refl _) ⟨hz, its, 0, hv, Heap.get?_push_size _ rfl⟩
theorem Inv.fresh (I : Inv X pins σ H s) : H s.heap.objs.size = none := I.hok.fresh (Nat.le_refl _)
theorem Inv.lstM (I : Inv X pins σ H s) (hH : H l = some (.lst xs)) : xs.length ≤ sizeLine ∧ ∃ (its : List Value) (n : Nat), Vals xs its ∧ xs.length = its.length ∧ s.heap.get? l = some { cls := .type "list", data := .seq its.toArray n } := by
  obtain ⟨z, its, n, r, e⟩ := I.hok l _ hH
  exact ⟨z, its, n, r, r.length, e⟩

theorem notLongL {n : Nat} (h : n ≤ sizeLine) : Builtin.List.listTooLong n = false := by
  unfold Builtin.List.listTooLong
  exact decide_eq_false (by omega)
end

section
variable {X : Cx}

/-! ### methods -/
noncomputable def rAppend : V → List V → Hp → VK → Prop := fun x vs H Q => ∃ l xs y, x = .ref l ∧ vs = [y] ∧ H l = some (.lst xs) ∧ xs.length < sizeLine ∧ Q .non (upd H l (.lst (xs ++ [y])))
theorem mt_append : MtM X "list.append" rAppend := by
  intro pins s σ H x vs v us Q I rx rv h
  obtain ⟨l, xs, y, rfl, rfl, hH, hz, q⟩ := h
  cases rx
  obtain ⟨u, rfl, ru⟩ := rv.one
  obtain ⟨z, its, n, r, hl, e⟩ := I.lstM hH
  refine call_meets F.slot_list_append ⟨_, e, rfl⟩ F.entry_list_append (F.args_list_append_2 _ _) (PySem.list_append l its.toArray n u (by rw [List.size_toArray]; omega)) ⟨e, ?_⟩
  refine ⟨.non, _, I.lset (its' := its ++ [u]) hH e (by simp) (r.append (.cons ru .nil)) ?_, rfl, q⟩
  rw [List.length_append, List.length_singleton]
  omega





noncomputable def rClear : V → List V → Hp → VK → Prop := fun x vs H Q => ∃ l xs, x = .ref l ∧ vs = [] ∧ H l = some (.lst xs) ∧ Q .non (upd H l (.lst []))
theorem mt_clear : MtM X "list.clear" rClear := by
  intro pins s σ H x vs v us Q I rx rv h
  obtain ⟨l, xs, rfl, rfl, hH, q⟩ := h
  cases rx
  have hus := rv.zero
  subst hus
  obtain ⟨z, its, n, r, hl, e⟩ := I.lstM hH
  refine call_meets F.slot_list_clear ⟨_, e, rfl⟩ F.entry_list_clear (F.args_list_clear_1 _) (AutoSeq1.list_clear_list_0 l its.toArray n (by rw [List.size_toArray]; omega)) ⟨e, ?_⟩
  exact ⟨.non, _, I.lset (its' := []) (ys := []) hH e rfl .nil (Nat.zero_le _), rfl, q⟩

/-! ### list + list, list += list, list * int -/
noncomputable def rCat : R2 := fun x y H Q => ∃ l b xs zs, x = .ref l ∧ y = .ref b ∧ H l = some (.lst xs) ∧ H b = some (.lst zs) ∧ xs.length + zs.length ≤ sizeLine ∧ ∀ p, H p = none → Q (.ref p) (upd H p (.lst (xs ++ zs)))
theorem op_cat : OpR X (binaryOp .Add) rCat := by
  intro pins s σ H x y v u Q I rx ry h
  obtain ⟨l, b, xs, zs, rfl, rfl, hH, hB, hz, q⟩ := h
  cases rx
  cases ry
  obtain ⟨z, its, n, r, hl, e⟩ := I.lstM hH
  obtain ⟨z2, its2, n2, r2, hl2, e2⟩ := I.lstM hB
  refine PySem.P.add_list e e2 ?_ (by rw [List.size_toArray, List.size_toArray]; omega)
  have ea : its.toArray ++ its2.toArray = (its ++ its2).toArray := by simp
  rw [ea]
  exact ⟨.ref _, _, I.lnew (t' := s.toks) (r.append r2) (by rw [List.length_append]; omega), rfl, q _ I.fresh⟩
/-- a list times an int (a negative one is nothing) -/
noncomputable def rRep : R2 := fun x y H Q => ∃ l k xs, x = .ref l ∧ y = .int k ∧ H l = some (.lst xs) ∧ -(2 ^ 63) ≤ k ∧ k < 2 ^ 63 ∧ xs.length * k.toNat ≤ sizeLine ∧
  ∀ p, H p = none → Q (.ref p) (upd H p (.lst (List.replicate k.toNat xs).flatten))
theorem len_rep {α : Type} (xs : List α) (k : Nat) : (List.replicate k xs).flatten.length = k * xs.length := by
  induction k with
  | zero => simp
  | succ k ih => rw [List.replicate_succ, List.flatten_cons, List.length_append, ih, Nat.succ_mul, Nat.add_comm]
theorem op_rep : OpR X (binaryOp .Mult) rRep := by
  intro pins s σ H x y v u Q I rx ry h
  obtain ⟨l, k, xs, rfl, rfl, hH, h1, h2, hz, q⟩ := h
  cases rx
  obtain ⟨t, rfl⟩ := ry
  obtain ⟨z, its, n, r, hl, e⟩ := I.lstM hH
  have hlen : its.toArray.size * k.toNat ≤ sizeLine := by rw [List.size_toArray, ← hl]; exact hz
  have hcap : ¬ its.toArray.size * k.toNat > (2 ^ 63 - 1) / 8 := by
    have : (sizeLine : Nat) ≤ (2 ^ 63 - 1) / 8 := by decide
    omega
  have hfit : ¬ (!Builtin.List.listFitsIndex k) = true := by
    rw [fitsIndex_both h1 h2]
    exact Bool.false_ne_true
  have hlong : ¬ Builtin.List.listTooLong (its.toArray.size * k.toNat) = true := by
    rw [notLongL hlen]
    exact Bool.false_ne_true
  have hnew : List.foldl (fun x1 x2 => x1 ++ x2) #[] (List.replicate (if its.toArray.isEmpty = true then 0 else k.toNat) its.toArray) = (List.replicate k.toNat its).flatten.toArray := by
    have f0 : ∀ m : Nat, List.foldl (fun x1 x2 => x1 ++ x2) #[] (List.replicate m its.toArray) = (List.replicate m its).flatten.toArray := fun m => by
      have := foldl_rep its m []
      rw [List.nil_append] at this
      exact this
    rw [f0]
    cases its with
    | nil => simp
    | cons a r' => rw [if_neg (by simp)]
  refine wpAny_binaryOp_repeat_ref (T := "list") (U := "int") (by decide) ⟨_, e, rfl⟩ (fun s' => typeIs_int s' k t) noFill_list_mul F.fills_int_mul F.slot_int_rmul repeat_list F.slot_int_index.lookup
    (call_meets F.slot_int_rmul (typeIs_int s k t) F.entry_int_rmul (F.args_int_rmul_2 _ _) (int___rmul___int_list k t l its.toArray n)
      ⟨e, rfl, ⟨_, e, rfl⟩, call_meets F.slot_list_mul ⟨_, e, rfl⟩ F.entry_list_mul (F.args_list_mul_2 _ _) (AutoListH.list___mul___list_int_3 l its.toArray n k t hfit hcap hlong) ⟨e, ?_⟩⟩)
  rw [hnew]
  exact ⟨.ref _, _, I.lnew (t' := s.toks) (r.rep k.toNat) (by rw [len_rep, Nat.mul_comm]; exact hz), rfl, q _ I.fresh⟩

/-! ### del xs[i] -/
end

/-! ### xs[a:b] = ys -/
section
variable {prog : Program} {w : World} {A : Around} {E : Value → Shared → Prop} {s : Shared}
set_option maxRecDepth 100000 in
end

section
variable {X : Cx}
end
end L2


namespace L2
open PySem PySem.Spec PyProof.Rows

/-! ### lists of pairs as tables -/
section
variable {κ : Type} [DecidableEq κ]
noncomputable def valV (kvs : List (κ × V)) (k : κ) : Option V := (kvs.find? fun kv => decide (kv.1 = k)).map (·.2)
/-- in its place, or at the end -/
noncomputable def putK (kvs : List (κ × V)) (k : κ) (v : V) : List (κ × V) :=
  if (kvs.any fun kv => decide (kv.1 = k)) = true then kvs.map (fun kv => if kv.1 = k then (kv.1, v) else kv) else kvs ++ [(k, v)]

theorem valV_pos {p : κ × V} {r : List (κ × V)} {k : κ} (e : p.1 = k) : valV (p :: r) k = some p.2 := by simp [valV, List.find?_cons, e]
theorem valV_neg {p : κ × V} {r : List (κ × V)} {k : κ} (e : ¬ p.1 = k) : valV (p :: r) k = valV r k := by simp [valV, List.find?_cons, e]
theorem valV_any (k : κ) : ∀ kvs : List (κ × V), (kvs.any fun kv => decide (kv.1 = k)) = (valV kvs k).isSome
  | [] => rfl
  | p :: r => by
    rw [List.any_cons]
    by_cases e : p.1 = k
    · simp only [valV_pos e, decide_eq_true e, Bool.true_or, Option.isSome_some]
    · rw [valV_neg e, decide_eq_false e, Bool.false_or]; exact valV_any k r
theorem valV_map (k j : κ) (y : V) : ∀ kvs : List (κ × V), valV (kvs.map fun kv => if kv.1 = k then (kv.1, y) else kv) j = (valV kvs j).map fun x => if j = k then y else x
  | [] => rfl
  | p :: r => by
    have ih := valV_map k j y r
    rw [List.map_cons]
    by_cases h : p.1 = k
    · rw [if_pos h]
      by_cases e : p.1 = j
      · rw [valV_pos (p := (p.1, y)) e, valV_pos e, Option.map_some, if_pos (e.symm.trans h)]
      · rw [valV_neg (p := (p.1, y)) e, valV_neg e, ih]
    · rw [if_neg h]
      by_cases e : p.1 = j
      · rw [valV_pos (p := p) e, valV_pos e, Option.map_some, if_neg (fun z => h (e.trans z))]
      · rw [valV_neg (p := p) e, valV_neg e, ih]
theorem valV_snoc (k j : κ) (y : V) : ∀ kvs : List (κ × V), valV kvs k = none → valV (kvs ++ [(k, y)]) j = if j = k then some y else valV kvs j
  | [], _ => by
    by_cases e : k = j
    · rw [if_pos e.symm]; exact valV_pos (p := (k, y)) e
    · rw [if_neg (fun z => e z.symm)]; exact valV_neg (p := (k, y)) e
  | p :: r, hn => by
    rw [List.cons_append]
    have hk : ¬ p.1 = k := fun z => by rw [valV_pos z] at hn; cases hn
    rw [valV_neg hk] at hn
    have ih := valV_snoc k j y r hn
    by_cases e : p.1 = j
    · rw [valV_pos e, valV_pos e, if_neg (fun z => hk (e.trans z))]
    · rw [valV_neg e, valV_neg e, ih]
theorem valV_put (kvs : List (κ × V)) (k j : κ) (y : V) : valV (putK kvs k y) j = if j = k then some y else valV kvs j := by
  unfold putK
  by_cases a : (kvs.any fun kv => decide (kv.1 = k)) = true
  · rw [if_pos a, valV_map]
    rw [valV_any] at a
    by_cases e : j = k
    · obtain ⟨x, hx⟩ := Option.isSome_iff_exists.mp a
      rw [if_pos e, e, hx, Option.map_some, if_pos rfl]
    · rw [if_neg e]
      cases valV kvs j with
      | none => rfl
      | some x => rw [Option.map_some, if_neg e]
  · rw [if_neg a]
    refine valV_snoc k j y kvs ?_
    rw [valV_any] at a
    cases q : valV kvs k with
    | none => rfl
    | some x => rw [q] at a; exact (a rfl).elim
theorem length_putK (kvs : List (κ × V)) (k : κ) (v : V) : (putK kvs k v).length ≤ kvs.length + 1 := by
  unfold putK
  split
  · rw [List.length_map]; omega
  · rw [List.length_append, List.length_cons, List.length_nil]; omega
theorem putK_new {kvs : List (κ × V)} {k : κ} (v : V) (h : valV kvs k = none) : putK kvs k v = kvs ++ [(k, v)] := by
  unfold putK
  rw [valV_any, h]
  exact if_neg (by decide)

theorem RelO.isSome_eq {o : Option V} {u : Option Value} (r : RelO o u) : o.isSome = u.isSome := by
  cases o with
  | none => cases u with
    | none => rfl
    | some _ => exact (show False from r).elim
  | some _ => cases u with
    | none => exact (show False from r).elim
    | some _ => rfl
theorem RelO.getD {o : Option V} {u : Option Value} {d : V} {d' : Value} (r : RelO o u) (rd : RelV d d') : RelV (o.getD d) (u.getD d') := by
  cases o with
  | none => cases u with
    | none => exact rd
    | some _ => exact (show False from r).elim
  | some _ => cases u with
    | none => exact (show False from r).elim
    | some _ => exact r

/-- raw tables of the same keys -/
theorem KV.val {kvs : List (κ × V)} {vs : List (κ × Value)} (r : KV kvs vs) (k : κ) : RelO (valV kvs k) (valueAt vs k) := by
  unfold KV at r
  induction r with
  | nil => exact True.intro
  | @cons p q ps qs h t ih =>
    obtain ⟨h1, h2⟩ := h
    by_cases e : p.1 = k
    · have e' : q.1 = k := h1.symm.trans e
      have b : valueAt (q :: qs) k = some q.2 := by simp [valueAt, List.find?_cons, e']
      rw [valV_pos e, b]; exact h2
    · have e' : ¬ q.1 = k := fun z => e (h1.trans z)
      have b : valueAt (q :: qs) k = valueAt qs k := by simp [valueAt, List.find?_cons, e']
      rw [valV_neg e, b]; exact ih
theorem KV.any {kvs : List (κ × V)} {vs : List (κ × Value)} (r : KV kvs vs) (k : κ) : (kvs.any fun kv => decide (kv.1 = k)) = vs.any fun kv => decide (kv.1 = k) := by
  unfold KV at r
  induction r with
  | nil => rfl
  | cons h t ih => rw [List.any_cons, List.any_cons, ih, h.1]
theorem KV.repl {kvs : List (κ × V)} {vs : List (κ × Value)} (r : KV kvs vs) (k : κ) {y : V} {u : Value} (ry : RelV y u) :
    KV (kvs.map fun kv => if kv.1 = k then (kv.1, y) else kv) (vs.map fun kv => if kv.1 = k then (kv.1, u) else kv) := by
  unfold KV at r ⊢
  induction r with
  | nil => exact .nil
  | @cons p q ps qs h t ih =>
    rw [List.map_cons, List.map_cons]
    refine .cons ?_ ih
    obtain ⟨h1, h2⟩ := h
    by_cases e : p.1 = k
    · rw [if_pos e, if_pos (h1.symm.trans e)]; exact ⟨h1, ry⟩
    · rw [if_neg e, if_neg (fun z => e (h1.trans z))]; exact ⟨h1, h2⟩
theorem KV.put {kvs : List (κ × V)} {vs : List (κ × Value)} (r : KV kvs vs) (k : κ) {y : V} {u : Value} (ry : RelV y u) : KV (putK kvs k y) (stored vs k u) := by
  unfold putK stored
  rw [r.any k]
  by_cases e : (vs.any fun kv => decide (kv.1 = k)) = true
  · rw [if_pos e, if_pos e]; exact r.repl k ry
  · rw [if_neg e, if_neg e]; exact Paired.snoc r ⟨rfl, ry⟩
theorem KV.length {kvs : List (κ × V)} {vs : List (κ × Value)} (r : KV kvs vs) : kvs.length = vs.length := Paired.length r
end


/-! ### a tracked dict, its keys ints and texts or tuples of these -/
theorem kV_is {P : Program} {w : World} {k : Key} {u : Value} (r : RelV (kV k) u) : (mixKind P w).is k u = true := by
  cases k with
  | inl i => obtain ⟨t, e⟩ := (show ∃ t, u = Value.int i t from r); subst e; exact mixKind_int P w i t
  | inr x => obtain ⟨t, e⟩ := (show ∃ t, u = Value.str x t from r); subst e; exact mixKind_str P w x t
theorem items_are {P : Program} {w : World} : ∀ {ks : List Key} {us : List Value}, Vals (ks.map kV) us → ItemsAre (mixKind P w) ks us
  | [], _, r => by rw [List.map_nil] at r; cases r; exact .nil
  | k :: ks, _, r => by
    rw [List.map_cons] at r
    cases r with
    | cons h t => exact .cons (kV_is h) (items_are t)

/-- raw entries of a dict with tuple keys -/
noncomputable abbrev KT (H : Hp) : List (List Key × V) → List (List Key × Addr × Value) → Prop := Paired fun p q => p.1 = q.1 ∧ H q.2.1 = some (.tup (p.1.map kV)) ∧ RelV p.2 q.2.2
theorem KT.val {H : Hp} {kvs : List (List Key × V)} {xs : List (List Key × Addr × Value)} (r : KT H kvs xs) (k : List Key) : RelO (valV kvs k) ((atKey xs k).map (·.2)) := by
  induction r with
  | nil => exact True.intro
  | @cons p q ps qs h t ih =>
    obtain ⟨h1, _, h2⟩ := h
    by_cases e : p.1 = k
    · have e' : q.1 = k := h1.symm.trans e
      have b : atKey (q :: qs) k = some q.2 := by simp [atKey, List.find?_cons, e']
      rw [valV_pos e, b]; exact h2
    · have e' : ¬ q.1 = k := fun z => e (h1.trans z)
      have b : atKey (q :: qs) k = atKey qs k := by simp [atKey, List.find?_cons, e']
      rw [valV_neg e, b]; exact ih
theorem KT.repl {H : Hp} {kvs : List (List Key × V)} {xs : List (List Key × Addr × Value)} (r : KT H kvs xs) (k : List Key) {y : V} {u : Value} (ry : RelV y u) :
    KT H (kvs.map fun kv => if kv.1 = k then (kv.1, y) else kv) (xs.map (putAt k u)) := by
  induction r with
  | nil => exact .nil
  | @cons p q ps qs h t ih =>
    rw [List.map_cons, List.map_cons]
    refine .cons ?_ ih
    obtain ⟨h1, h2, h3⟩ := h
    unfold putAt
    by_cases e : p.1 = k
    · rw [if_pos e, if_pos (h1.symm.trans e)]; exact ⟨h1, h2, ry⟩
    · rw [if_neg e, if_neg (fun z => e (h1.trans z))]; exact ⟨h1, h2, h3⟩
theorem KT.put {H : Hp} {kvs : List (List Key × V)} {xs : List (List Key × Addr × Value)} (r : KT H kvs xs) (k : List Key) {b : Addr} {y : V} {u : Value} (hb : H b = some (.tup (k.map kV))) (ry : RelV y u) :
    KT H (putK kvs k y) (storedH xs k b u) := by
  have e : (kvs.any fun kv => decide (kv.1 = k)) = (atKey xs k).isSome := by
    rw [valV_any, (r.val k).isSome_eq, Option.isSome_map]
  unfold putK storedH
  rw [e]
  by_cases q : (atKey xs k).isSome = true
  · rw [if_pos q, if_pos q]; exact r.repl k ry
  · rw [if_neg q, if_neg q]; exact Paired.snoc r ⟨rfl, hb, ry⟩
theorem KT.keeps {H H' : Hp} {kvs : List (List Key × V)} {xs : List (List Key × Addr × Value)} (r : KT H kvs xs) (ht : ∀ b ys, H b = some (.tup ys) → H' b = some (.tup ys)) : KT H' kvs xs :=
  Paired.mapP r fun _ _ z => ⟨z.1, ht _ _ z.2.1, z.2.2⟩

section
variable {P : Program} {w : World} {H : Hp} {h : Heap} {a : Addr}
theorem rd_of {u : HO} (ok : HOk P w H h) (e : Rd H a u) : ObjOk P w H h a u := e.ok ok
theorem dk_rd {kvs : List (Key × V)} (ok : HOk P w H h) (e : Rd H a (.dK kvs)) : kvs.length ≤ sizeLine ∧ (a == sysModules) = false ∧ ∃ vs, KV kvs vs ∧ h.DictOf (mixKind P w) a vs :=
  show ObjOk P w H h a (.dK kvs) from rd_of ok e
theorem dk_of {kvs : List (Key × V)} (ok : HOk P w H h) (e : H a = some (.dK kvs)) : kvs.length ≤ sizeLine ∧ (a == sysModules) = false ∧ ∃ vs, KV kvs vs ∧ h.DictOf (mixKind P w) a vs := dk_rd ok (.inl e)
/-- a tracked tuple of ints and texts is a key -/
theorem key_of {ks : List Key} (ok : HOk P w H h) (e : H a = some (.tup (ks.map kV))) : (tupleKind (mixKind P w)).is h ks a := by
  obtain ⟨_, its, r, o, h1, h2, n, h3⟩ := (show ObjOk P w H h a (.tup (ks.map kV)) from ok a _ e)
  exact ⟨o, its.toArray, n, h1, h2, h3, by simpa using items_are r⟩
theorem dt_rd {kvs : List (List Key × V)} (ok : HOk P w H h) (e : Rd H a (.dT kvs)) : kvs.length ≤ sizeLine ∧ (a == sysModules) = false ∧
    ∃ xs, KT H kvs xs ∧ h.DictOfH (tupleKind (mixKind P w)) a xs := by
  obtain ⟨z, y, xs, r, o, es, ep, h1, h2, h3, h4, h5⟩ := (show ObjOk P w H h a (.dT kvs) from rd_of ok e)
  refine ⟨z, y, xs, r, o, es, ep, h1, h2, h3, h4, fun x hx => ?_, h5⟩
  have all : ∀ {l : List (List Key × V)} {m : List (List Key × Addr × Value)}, KT H l m → ∀ x ∈ m, (tupleKind (mixKind P w)).is h x.1 x.2.1 := by
    intro l m q
    induction q with
    | nil => intro x hx; exact nomatch hx
    | @cons p q ps qs hq t ih =>
      intro x hx
      rcases List.mem_cons.mp hx with e | hx
      · subst e
        exact key_of ok (by rw [← hq.1]; exact hq.2.1)
      · exact ih x hx
  exact all r x hx
theorem dt_of {kvs : List (List Key × V)} (ok : HOk P w H h) (e : H a = some (.dT kvs)) : kvs.length ≤ sizeLine ∧ (a == sysModules) = false ∧
    ∃ xs, KT H kvs xs ∧ h.DictOfH (tupleKind (mixKind P w)) a xs := dt_rd ok (.inl e)
end

/-- what the dict at a holds at the key y -/
noncomputable def DGet (H : Hp) (a : Addr) (y : V) (r : Option V) : Prop :=
  (∃ kvs k, Rd H a (.dK kvs) ∧ y = kV k ∧ r = valV kvs k) ∨ ∃ kvs k b, Rd H a (.dT kvs) ∧ y = .ref b ∧ H b = some (.tup (k.map kV)) ∧ r = valV kvs k
/-- the heap behind a[y] = v -/
noncomputable def DPut (H : Hp) (a : Addr) (y v : V) (H' : Hp) : Prop :=
  (∃ kvs k, H a = some (.dK kvs) ∧ y = kV k ∧ kvs.length < sizeLine ∧ H' = upd H a (.dK (putK kvs k v))) ∨
  ∃ kvs k b, H a = some (.dT kvs) ∧ y = .ref b ∧ H b = some (.tup (k.map kV)) ∧ kvs.length < sizeLine ∧ H' = upd H a (.dT (putK kvs k v))
theorem DGet.k {H : Hp} {a : Addr} {kvs : List (Key × V)} {k : Key} (e : H a = some (.dK kvs)) : DGet H a (kV k) (valV kvs k) := .inl ⟨kvs, k, .inl e, rfl, rfl⟩
theorem DPut.k {H : Hp} {a : Addr} {kvs : List (Key × V)} {k : Key} {v : V} (e : H a = some (.dK kvs)) (hl : kvs.length < sizeLine) : DPut H a (kV k) v (upd H a (.dK (putK kvs k v))) := .inl ⟨kvs, k, e, rfl, hl, rfl⟩


section
variable {X : Cx} {pins : List (Addr × Obj)} {σ : St} {H : Hp} {s : Shared} {a : Addr} {y v : V} {u r : Value} {o : Option V} {A : Around} {E : Value → Shared → Prop}

theorem Inv.big (I : Inv X pins σ H s) : sysModules < s.heap.objs.size := by
  have h : mainGlobals < s.heap.objs.size := (I.mod.glob.keeps I.bk).lt
  exact Nat.lt_trans (by decide) h

/-- y in d -/
theorem d_in {Q : Value → Shared → Prop} (hu : A.units + 1 < cLine) (I : Inv X pins σ H s) (g : DGet H a y o) (ry : RelV y u) (h : ∀ s', Inv X pins σ H s' → Q (.bool o.isSome) s') :
    wpAny (model X.prog X.w) A (compareOp .In u (.ref a)) Q E s := by
  rcases g with ⟨kvs, k, e, ey, l⟩ | ⟨kvs, k, b, e, ey, eb, l⟩
  · subst ey
    obtain ⟨z, hd, vs, rel, dd⟩ := dk_rd I.hok e
    refine wpAny_in_of (kV_is ry) hd dd.mapOf ?_
    rw [← (rel.val k).isSome_eq, ← l]
    exact h _ (I.tok _)
  · subst ey
    cases (show u = Value.ref b from ry)
    obtain ⟨z, hd, xs, rel, dd⟩ := dt_rd I.hok e
    refine wpAny_in_heap (tupleKind_room_in1 hu) (key_of I.hok eb) hd dd ?_
    have q := (rel.val k).isSome_eq
    rw [Option.isSome_map] at q
    rw [← q, ← l]
    exact h _ (I.tok _)
/-- a dict's object is replaced -/
theorem d_write {h' : Heap} {t' : Nat} {ob : HO} (I : Inv X pins σ H s) (mu : Mut (H a)) (hs : Heap.SameBut a s.heap h') (he : ∃ q, h'.get? a = some q) (new : ObjOk X.prog X.w (upd H a ob) h' a ob) :
    Inv X pins σ (upd H a ob) { s with heap := h', toks := t' } :=
  I.write (x := a) (e := a) mu (.inl rfl) (fun b q hb z => (hs.2 b hb).trans z) he new
theorem dk_new {P : Program} {w : World} {H' : Hp} {h' : Heap} {kvs : List (Key × V)} {vs : List (Key × Value)} (z : kvs.length ≤ sizeLine) (hd : (a == sysModules) = false) (rel : KV kvs vs) (dd : h'.DictOf (mixKind P w) a vs) :
    ObjOk P w H' h' a (.dK kvs) := ⟨z, hd, vs, rel, dd⟩
/-- d[y] = v -/
theorem d_setItem {H' : Hp} {Q : Unit → Shared → Prop} (hu : A.units + 1 < cLine) (I : Inv X pins σ H s) (g : DPut H a y v H') (ry : RelV y u) (rv : RelV v r) (h : ∀ s', Inv X pins σ H' s' → Q () s') :
    wpAny (model X.prog X.w) A (setItem (.ref a) u r) Q E s := by
  rcases g with ⟨kvs, k, e, ey, l, eH⟩ | ⟨kvs, k, b, e, ey, eb, l, eH⟩
  · subst ey eH
    obtain ⟨z, hd, vs, rel, dd⟩ := dk_of I.hok e
    have hz : vs.length ≤ sizeLine := by rw [← rel.length]; exact z
    have hl : (putK kvs k v).length ≤ sizeLine := by have := length_putK kvs k v; omega
    refine wpAny_setItem_pairs (hsz := hz) (kV_is ry) dd fun h' dd' hs => h _ ?_
    have he : ∃ q, h'.get? a = some q := let ⟨q, _, _, hq, _⟩ := dd'; ⟨q, hq⟩
    exact d_write I (by rw [e]; exact True.intro) hs he (dk_new hl hd (rel.put k rv) dd')
  · subst ey eH
    cases (show u = Value.ref b from ry)
    obtain ⟨z, hd, xs, rel, dd⟩ := dt_of I.hok e
    have hz : xs.length ≤ sizeLine := by rw [← Paired.length rel]; exact z
    have hl : (putK kvs k v).length ≤ sizeLine := by have := length_putK kvs k v; omega
    refine wpAny_setItem_heap (hsz := hz) (tupleKind_room_in1 hu) (key_of I.hok eb) dd fun h' dd' hs => h _ ?_
    obtain ⟨q, es, ep, hq, h2, h3, h4, _, h5⟩ := dd'
    refine d_write I (by rw [e]; exact True.intro) hs ⟨q, hq⟩ ⟨hl, hd, _, (rel.put k eb rv).keeps fun c ys ec => ?_, q, es, ep, hq, h2, h3, h4, h5⟩
    rw [upd_ne (ne_of ec e (fun z => nomatch z))]
    exact ec
end

section
variable {X : Cx} {pins : List (Addr × Obj)} {σ : St} {H : Hp} {s : Shared} {a : Addr} {kvs : List (Key × V)} {k : Key} {u : Value} {A : Around} {E : Value → Shared → Prop}
end


/-! ### readings and rules -/


/-- d[y] = v -/
noncomputable def sDPut (td ty tv : TE) : TS := fun D σ H => tv σ H fun v H1 => td σ H1 fun x H2 => ty σ H2 fun y H3 => ∃ a H4, x = .ref a ∧ DPut H3 a y v H4 ∧ D.nx σ H4

section
variable {X : Cx} {o i e value : Expr} {pos pos' tpos : Pos} {td ty tv : TE}
theorem ps_dput (hu : X.A.units + 1 < cLine) (ho : PE X o td) (hi : PE X i ty) (hv : PE X value tv) (hs : swapsWith value (some (.Subscript o i pos')) pos.line X.env = pure false) :
    PS X (.Assign [.Subscript o i pos'] value pos) (sDPut td ty tv) := by
  intro pins s σ H D I h
  refine wpAny_Assign_Subscript (thn (hv pins s σ H _ I h) fun r s1 ⟨v, H1, I1, rv, q1⟩ => thn (ho pins s1 σ H1 _ I1 q1) fun u s2 ⟨x, H2, I2, rx, q2⟩ => thn (hi pins s2 σ H2 _ I2 q2) fun iv s3 zz => ?_) hs
  obtain ⟨y, H3, I3, ry, a, H4, ex, g, q3⟩ := zz
  subst ex
  obtain rfl : u = Value.ref a := rx
  exact d_setItem hu I3 g ry rv fun s4 I4 => ⟨σ, H4, I4, q3⟩
end


/-! ### displays -/
theorem dk_empty {P : Program} {w : World} {H : Hp} (h : Heap) (hb : sysModules < h.objs.size) : ObjOk P w H (h.push { cls := .type "dict", data := .dict #[] }) h.objs.size (.dK []) :=
  ⟨Nat.zero_le _, beq_eq_false_iff_ne.mpr (Ne.symm (Nat.ne_of_lt hb)), [], .nil, Heap.DictOf.new h⟩
/-- {}, to be a dict of the kind that is wanted -/
noncomputable def tDNewK : TE := fun _ H Q => ∀ p, H p = none → Q (.ref p) (upd H p (.dK []))
section
variable {X : Cx} {pos : Pos}
theorem pe_dnewK : PE X (.Dict [] [] pos) tDNewK := fun pins s σ H Q I h =>
  wpAny_Dict_empty ⟨.ref s.heap.objs.size, _, I.laid (a := s.heap.objs.size) (o := .dK []) (t' := s.toks) (fun _ _ q => Heap.get?_push_of_some _ q) (Nat.le_refl _) (dk_empty s.heap I.big), rfl, h _ (I.hok.fresh (Nat.le_refl _))⟩
end




/-! ### methods -/
/-- a method call o.m(e) of a built-in, with one argument: what must be seen of the text -/
structure M1 (X : Cx) (o : Expr) (m : Str) (apos : Pos) (e : Expr) (cpos : Pos) : Prop where
  base : attributeBase o m X.env (eval o X.env) = eval o X.env
  few : ((backTo cpos (starEach [e] X.env)).all (fun x => !x.1) && (backToKw cpos (keywordEach [] X.env)).all (fun x => x.1.isSome)
    && decide (([e] : List Expr).length + ([] : List Keyword).length + (if ([] : List Keyword).isEmpty then 0 else 1) < 30)) = true
  line : (apos.endLine == cpos.line) = true
  trees : backTo cpos (starEach [e] X.env) = [(false, eval e X.env)]
structure M2 (X : Cx) (o : Expr) (m : Str) (apos : Pos) (e f : Expr) (cpos : Pos) : Prop where
  base : attributeBase o m X.env (eval o X.env) = eval o X.env
  few : ((backTo cpos (starEach [e, f] X.env)).all (fun x => !x.1) && (backToKw cpos (keywordEach [] X.env)).all (fun x => x.1.isSome)
    && decide (([e, f] : List Expr).length + ([] : List Keyword).length + (if ([] : List Keyword).isEmpty then 0 else 1) < 30)) = true
  line : (apos.endLine == cpos.line) = true
  trees : backTo cpos (starEach [e, f] X.env) = [(false, eval e X.env), (false, eval f X.env)]

/-- a is a dict, whatever its keys -/
noncomputable def IsD (H : Hp) (a : Addr) : Prop := (∃ kvs, Rd H a (.dK kvs)) ∨ ∃ kvs, Rd H a (.dT kvs)
theorem isD_at {X : Cx} {pins : List (Addr × Obj)} {σ : St} {H : Hp} {s : Shared} {a : Addr} (I : Inv X pins σ H s) (d : IsD H a) :
    s.TypeIs (.ref a) "dict" ∧ (∀ b, Value.ref a = .ref b → ∃ ob, s.heap.get? b = some ob ∧ ob.dict = none) ∧ (a == sysModules) = false := by
  rcases d with ⟨kvs, e⟩ | ⟨kvs, e⟩
  · obtain ⟨_, hd, vs, _, dd⟩ := dk_rd I.hok e
    refine ⟨dd.typeIs, fun b q => ?_, hd⟩
    cases q
    obtain ⟨ob, _, _, h1, h2, _⟩ := dd
    exact ⟨ob, h1, h2.2.1⟩
  · obtain ⟨_, hd, xs, _, dd⟩ := dt_rd I.hok e
    refine ⟨dd.typeIs, fun b q => ?_, hd⟩
    cases q
    obtain ⟨ob, _, _, h1, h2, _⟩ := dd
    exact ⟨ob, h1, h2.2.1⟩

section
variable {X : Cx} {pins : List (Addr × Obj)} {σ : St} {H : Hp} {s : Shared} {a : Addr} {y d : V} {u r : Value} {o : Option V} {A : Around} {E : Value → Shared → Prop}
/-- d.get(y, x) -/
theorem d_get2 {Q : Value → Shared → Prop} (hu : A.units + 1 < cLine) (I : Inv X pins σ H s) (g : DGet H a y o) (ry : RelV y u) (rd : RelV d r) (h : ∀ w' s', Inv X pins σ H s' → RelV (o.getD d) w' → Q w' s') :
    wpAny (model X.prog X.w) A (call (.builtin "dict.get") [.ref a, u, r]) Q E s := by
  rcases g with ⟨kvs, k, e, ey, l⟩ | ⟨kvs, k, b, e, ey, eb, l⟩
  · subst ey
    obtain ⟨z, hd, vs, rel, dd⟩ := dk_rd I.hok e
    refine call_meetsIn PySem.F.slot_dict_get dd.typeIs PySem.F.entry_dict_get (PySem.F.args_dict_get_3 _ _ _) (meets_dict_get_default (mixKind X.prog X.w) a (kV_is ry) hd r) ⟨_, dd.mapOf, h _ _ (I.tok _) ?_⟩
    rw [l]
    exact (rel.val k).getD rd
  · subst ey
    cases (show u = Value.ref b from ry)
    obtain ⟨z, hd, xs, rel, dd⟩ := dt_rd I.hok e
    refine call_meetsIn PySem.F.slot_dict_get dd.typeIs PySem.F.entry_dict_get (PySem.F.args_dict_get_3 _ _ _) (meetsH_dict_get_default (tupleKind (mixKind X.prog X.w)) a b hd r) ⟨tupleKind_room_in1 hu, k, xs, key_of I.hok eb, dd, h _ _ (I.tok _) ?_⟩
    rw [l]
    exact (rel.val k).getD rd
end

noncomputable def tDGet2 (td ty tx : TE) : TE := fun σ H Q => td σ H fun x H1 => ∃ a, x = .ref a ∧ IsD H1 a ∧ ty σ H1 fun y H2 => tx σ H2 fun z H3 => ∃ o, DGet H3 a y o ∧ Q (o.getD z) H3
section
variable {X : Cx} {o e f : Expr} {apos cpos : Pos} {td ty tx : TE}
theorem pe_dget2 (hu : X.A.units + 1 < cLine) (ho : PE X o td) (he : PE X e ty) (hf : PE X f tx) (m : M2 X o "get" apos e f cpos) : PE X (.Call (.Attribute o "get" apos) [e, f] [] cpos) (tDGet2 td ty tx) := by
  intro pins s σ H Q I h
  refine wpAny_Call_method m.base m.few m.line PySem.F.plainAttrs_dict PySem.F.slot_dict_get PySem.F.type_dict_get (thn (ho pins s σ H _ I h) fun u s1 zz => ?_)
  obtain ⟨x, H1, I1, rx, a, ex, d, q1⟩ := zz
  subst ex
  obtain rfl : u = Value.ref a := rx
  obtain ⟨t1, t2, _⟩ := isD_at I1 d
  refine ⟨t1, t2, ?_⟩
  rw [m.trees]
  refine Calls.callWith_builtin rfl (Calls.evalArgs_plain (Calls.spliced_cons (thn (he pins s1 σ H1 _ I1 q1) fun iv s2 ⟨y, H2, I2, ry, q2⟩ =>
    Calls.spliced_cons (thn (hf pins s2 σ H2 _ I2 q2) fun fv s3 ⟨z, H3, I3, rz, ov, g, q3⟩ => Calls.spliced_nil ?_))))
  exact d_get2 hu I3 g ry rz fun w' s4 I4 rw' => ⟨_, H3, I4, rw', q3⟩
end

/-! ### dict(d): a copy -/
section
variable {X : Cx} {pins : List (Addr × Obj)} {σ : St} {H : Hp} {s : Shared} {a : Addr} {kvs : List (Key × V)} {A : Around} {E : Value → Shared → Prop}
end


section
variable {X : Cx} {pins : List (Addr × Obj)} {σ : St} {H : Hp} {s : Shared} {a : Addr} {y : V} {u : Value} {A : Around} {E : Value → Shared → Prop}
end
end L2

namespace Att
open PySem PySem.W PySem.Calls PyProof.Rows

/-! ### the script -/
theorem ints_of_wellAll {P : Params} {h : Heap} : ∀ (ns : List Int) (vs : List Value), WellAll P h vs (ns.map WData.int) → IntsAre vs ns := by
  intro ns
  induction ns with
  | nil =>
    intro vs w
    rw [List.map_nil] at w
    cases w
    exact .nil
  | cons n ns ih =>
    intro vs w
    rw [List.map_cons] at w
    cases w with
    | cons a b =>
      cases a
      exact .cons _ _ (ih _ b)

theorem script_of {l : OpenLaw} {n : Nat} (hn : l.most = some n) {P : Params} {h : Heap} {args : List WData} {vals : List Value}
    (hpre : l.row.toRowW.claim.pre args = true) (hwl : WellAll P h vals args) :
    ∃ a vs ns, vals = [Value.ref a] ∧ args = [WData.list (ns.map WData.int)] ∧ h.get? a = some { cls := .type "list", data := .seq vs.toArray } ∧ IntsAre vs ns ∧ ns.length ≤ n := by
  have hsh : WShape.hasAll [] args [.list .int] = true := (pre_splitW hpre).1
  have hc : l.pre.holds [] { args := args } = true := (pre_splitW hpre).2
  obtain ⟨d, r, rfl, h1, h2⟩ := hasAllW_cons hsh
  obtain rfl := hasAllW_nil h2
  obtain ⟨xs, rfl, h3⟩ := hasW_list h1
  obtain ⟨ns, rfl⟩ := items_int h3
  have hlen : ns.length ≤ n := by
    unfold OpenLaw.pre at hc
    have h4 : (WTm.not (.lt (.lit (.int (n : Int))) (.len (.arg 0)))).holds [] { args := [.list (ns.map .int)] } = true := by
      have h4 := (holds_andW hc).1
      rw [hn] at h4
      exact h4
    have h5 := condW_of h4 (w_not (w_lt w_lit (w_len_list (w_arg rfl))))
    rw [List.length_map] at h5
    refine Nat.le_of_not_lt fun q => ?_
    have q' : (n : Int) < ((ns.length : Nat) : Int) := by omega
    first
      | (rw [decide_eq_true q'] at h5; exact absurd h5 (by decide))
      | (simp at h5; omega)
  cases hwl with
  | cons w1 w2 =>
    cases w2
    cases w1 with
    | list ho hall => exact ⟨_, _, ns, rfl, rfl, ho, ints_of_wellAll ns _ hall, hlen⟩

theorem post_true (l : OpenLaw) (args : List WData) : l.row.toRowW.claim.post args (.bool true) args = true :=
  postW_of (r := l.row.toRowW) (X := (true == true))
    (show WShape.has [] (.bool true) .bool = true by first | rfl | decide | simp [WShape.has, WShape.arms, WShape.armsAll])
    (show (WTm.eq .res (.lit (.bool true))).value [] { args := args, res := some (.bool true), after := args } = some (.bool (true == true)) from w_eq_bool (w_res rfl) w_lit) rfl

/-! ### the attachment: holds_open's last premise (the goal 'hc' behind k_head) from a wpAny of the law's body -/

/-- the same from a codeAny of the CALL (for a layer whose function contracts speak of calls) -/
theorem attach_call {l : OpenLaw} {n : Nat} {q : Program} {loose : List Str} {XP : (Str → Option Value) → Heap → Prop} {YP : World → Heap → Prop} {d : DefRec}
    (hn : l.most = some n) (hdf : d.params.defaults = [])
    (call : ∀ (w : World) (s₀ s₁ : Shared) (mg mb : Str → Option Value) (fa : Addr) (o : Obj) (pm cd doc : Value) (a : Addr) (vs : List Value) (ns : List Int),
      Ground q loose [] XP w s₀ mg mb s₁.heap → YP w s₁.heap →
      s₁.heap.get? fa = some o → o.data = .func (docDef d.name d.params d.body d.scope pm cd doc) → s₁.heap.CodeRec cd d.name → mg d.name = some (.ref fa) →
      s₁.heap.get? a = some { cls := .type "list", data := .seq vs.toArray } → IntsAre vs ns → ns.length ≤ n → s₁.gens = #[] →
      codeAny (model l.prog w) callerA (.call (.ref fa) ⟨[.ref a], []⟩) (fun r s' => r = .ok (.ret (.bool true)) ∧ OldK s₁.heap s'.heap ∧ s'.os = s₁.os ∧ AllBare s'.gens) s₁) :
    WalkO q loose XP YP l.row.toRowW d [] (fun f vs => PySem.call f vs) := by
  intro w s₀ s₁ mg mb G Y fa o pm cd doc dV kV ho hd hcd hD hmg hg args vals as hpre hlay hrd hwl hlo
  obtain rfl : dV = .none := Dflts.none hD hdf
  obtain rfl : kV = .none := Dflts.noKw hD
  obtain ⟨a, vs, ns, rfl, rfl, hobj, hints, hlen⟩ := script_of hn hpre hwl
  refine enter_call (codeAny_mono (call w s₀ s₁ mg mb fa o pm cd doc a vs ns G Y ho (fd_plain hd) hcd hmg hobj hints hlen hg) fun r s' hq => ?_)
  obtain ⟨rfl, h2, h3, h4⟩ := hq
  exact ⟨.inl ⟨.bool true, .bool true, [], rfl, fun _ => rfl, .bool true, post_true l _, fun _ => ⟨List.Pairwise.nil, fun _ hm => (nomatch hm)⟩⟩, h2, h3, h4⟩


/-! ### rules over ANY heap (no ledger) from facts about the written part K: the library's own take a ledger (News) for what they write -/
section
variable {prog : Program} {w : World} {A : Around} {E : Value → Shared → Prop} {s : Shared} {K : Frag}





/-! the whole heap as the ledger: makes every rule that writes through a ledger a rule over any heap -/

end
end Att

namespace L2
open PySem PySem.Spec PyProof.Rows

theorem vals_ints : ∀ {vs : List Value} {ns : List Int}, IntsAre vs ns → Vals (ns.map V.int) vs
  | _, _, .nil => .nil
  | _, _, .cons n t h => .cons ⟨t, rfl⟩ (vals_ints h)

/-- nothing is tracked but the script, known to the object (or it is an object of the module) -/
noncomputable def Only (H : Hp) : Prop := ∀ b, H b = none ∨ ∃ o xs, H b = some (.frz o (.lst xs))

/-- THE HEAD: the law's promise, at the heap behind the top. F, the promise of the law's def, may use that base is part of the heap (so K.In base, base.Ns mainGlobals mg stand in Mod) -/
theorem law_call {P : Program} {w : World} {K : PySem.W.Frag} {mg mb : Str → Option Value} {CX : CXT} {k : Nat} {fa a : Addr} {fd : FuncData} {x : Str} {sp : Sp} {s₁ : Shared} {vs : List Value} {ns : List Int}
    (KX : K.In s₁.heap) (hns : s₁.heap.Ns mainGlobals mg) (hb : s₁.heap.Ns builtinsNs mb) (hbb : ∀ x : Str, x ≠ "__name__" → mb x = bootBuiltins x) (hlim : s₁.heap.NoLimit) (hg : s₁.gens = #[])
    (ha : s₁.heap.get? a = some { cls := .type "list", data := .seq vs.toArray }) (hi : IntsAre vs ns) (hl : ns.length ≤ sizeLine) (hr : Room k callerA)
    (F : ∀ base : Heap, K.In base → base.Ns mainGlobals mg → FnOk P w K mg base CX k fa fd [x] sp) (hbind : ∀ (s : Shared) (u : Value), BindsTo s fd ⟨[u], []⟩ [(x, u)])
    (hsp : ∀ H : Hp, Only H → SqL K H a (ns.map V.int) → sp [.ref a] H (fun v _ => v = .bl true) fun _ _ _ => False)
    (hCX : ∀ H e s', CX [] H s₁ (fun _ _ _ => False) e s' → False) :
    codeAny (model P w) callerA (.call (.ref fa) ⟨[.ref a], []⟩) (fun r s' => r = .ok (.ret (.bool true)) ∧ OldK s₁.heap s'.heap ∧ s'.os = s₁.os ∧ AllBare s'.gens) s₁ := by
  have rv := vals_ints hi
  have lenV := hi.length
  -- from an abstract heap in which nothing but the script may be tracked
  have core : ∀ H : Hp, Only H → SqL K H a (ns.map V.int) → HOk P w H s₁.heap → (∀ b, H b ≠ none → b = a) → (H a ≠ none → K.lookup a = none) →
      codeAny (model P w) callerA (.call (.ref fa) ⟨[.ref a], []⟩) (fun r s' => r = .ok (.ret (.bool true)) ∧ OldK s₁.heap s'.heap ∧ s'.os = s₁.os ∧ AllBare s'.gens) s₁ := by
    intro H hO hS hok hA hK
    have base_of : ∀ {b : Addr} {o : Obj}, s₁.heap.get? b = some o → H b = none → (hidT s₁.heap H).get? b = some o := fun e n => hidT_get e n
    have noA : ∀ {b : Addr} {o : Obj} {es : Array DictEntry} {ep : Nat}, s₁.heap.get? b = some o → o.data = .dict es ep → H b = none := fun {b o es ep} e d => by
      cases q : H b with
      | none => rfl
      | some u =>
        have e' : b = a := hA b (by rw [q]; simp)
        subst e'
        rw [ha] at e; cases e
        have d' : Data.seq vs.toArray _ = Data.dict es ep := d
        cases d'
    have nsK : ∀ {b : Addr} {m : Str → Option Value}, s₁.heap.Ns b m → (hidT s₁.heap H).Ns b m := fun {b m} ⟨o, es, ep, e, d, r⟩ => ⟨o, es, ep, base_of e (noA e d), d, r⟩
    have hKb : K.In (hidT s₁.heap H) := fun b o e => base_of (KX b o e) (by
      cases q : H b with
      | none => rfl
      | some u =>
        have e' : b = a := hA b (by rw [q]; simp)
        subst e'
        rw [hK (by rw [q]; simp)] at e; cases e)
    have hM : Mod K mg (hidT s₁.heap H) := ⟨hKb, nsK hns, ⟨mb, nsK hb, hbb⟩, let ⟨mc, h1, h2⟩ := hlim; ⟨mc, nsK h1, h2⟩⟩
    have e0 : Env0 P w K mg (hidT s₁.heap H) callerA [] s₁ H := ⟨rfl, hM, fun b o e => of_hidT e, Nat.le_of_eq (hidT_size _ _), trivial, fun b hb => absurd (show b ∈ ([] : List Addr) from hb) (by simp), hok, .of_eq hg⟩
    refine codeAny_mono ((F _ hKb (nsK hns)).run callerA [] s₁ H ⟨[.ref a], []⟩ [.ref a] [.ref a] _ _ hr e0 (hbind s₁ (.ref a)) (.cons rfl .nil) (hsp H hO hS)) fun r s' h => ?_
    cases r with
    | error e => exact (hCX H e s' h).elim
    | ok fl =>
      cases fl with
      | next => exact False.elim h
      | brk => exact False.elim h
      | cont => exact False.elim h
      | ret u =>
        obtain ⟨v, H', os, bare, un, hok', r', q⟩ := h
        have q' : v = .bl true := q
        subst q'
        obtain rfl : u = Value.bool true := r'
        refine ⟨rfl, OldK.of_keep fun b o e => ?_, os, bare⟩
        cases q : H b with
        | none => exact un.keep b o e q (by intro z; exact absurd (show b ∈ ([] : List Addr) from z) (by simp)) (by simp)
        | some u =>
          rcases hO b with z | ⟨ob, xs, z⟩
          · rw [q] at z; cases z
          · have z2 := un.frzs b ob _ z
            obtain ⟨e1, _⟩ := hok b _ z
            obtain ⟨e2, _⟩ := hok' b _ z2
            rw [e] at e1; cases e1
            exact e2
  cases hk : K.lookup a with
  | some o =>
    -- the script is one of the module's own objects
    have e := KX a o hk
    rw [ha] at e
    cases e
    refine core (fun _ => none) (fun _ => .inl rfl) (.inr ⟨_, vs.toArray, _, hk, rfl, rfl, rfl, by rw [List.size_toArray, lenV]; exact hl, by simpa using rv⟩) (fun b u z => by have z' : (none : Option HO) = some u := z; cases z') (fun b z => absurd rfl z) fun z => absurd rfl z
  | none =>
    refine core (fun b => if b = a then some (.frz { cls := .type "list", data := .seq vs.toArray } (.lst (ns.map V.int))) else none) (fun b => ?_) (.inl (.inr ⟨{ cls := .type "list", data := .seq vs.toArray }, if_pos rfl⟩)) (fun b u z => ?_) (fun b z => ?_) fun _ => hk
    · by_cases hb : b = a
      · exact .inr ⟨_, _, if_pos hb⟩
      · exact .inl (if_neg hb)
    · by_cases hb : b = a
      · have z' := (if_pos hb).symm.trans z
        cases z'
        subst hb
        exact ⟨ha, by rw [List.length_map]; exact hl, vs, _, rv, ha⟩
      · have z' := (if_neg hb).symm.trans z
        cases z'
    · by_cases hb : b = a
      · exact hb
      · exact absurd (if_neg hb) z
end L2

namespace L2
open PySem PySem.Spec PyProof.Rows


/-- the goal that k_head leaves (case hc), from the law's promise. F gives the function object fd (K's own) once, then the promise over every base -/
theorem walk_of {l : PySem.W.OpenLaw} {n k : Nat} {q : Program} {loose : List Str} {XP : (Str → Option Value) → Heap → Prop} {YP : World → Heap → Prop} {d : DefRec} {K : Params → PySem.W.Frag} {CX : World → CXT} {sp : World → Sp} {x : Str}
    (hn : l.most = some n) (hn2 : n ≤ sizeLine) (hdf : d.params.defaults = []) (hr : Room k callerA)
    (hY : ∀ (w : World) (h : Heap), YP w h → (K w.params).In h)
    (F : ∀ (w : World) (mg : Str → Option Value) (fa : Addr) (h : Heap), (K w.params).In h → h.Ns mainGlobals mg → mg d.name = some (.ref fa) →
      ∃ fd : FuncData, (∀ (s : Shared) (u : Value), BindsTo s fd ⟨[u], []⟩ [(x, u)]) ∧
        ∀ base : Heap, (K w.params).In base → base.Ns mainGlobals mg → FnOk l.prog w (K w.params) mg base (CX w) k fa fd [x] (sp w))
    (hsp : ∀ (w : World) (H : Hp) (a : Addr) (ns : List Int), ns.length ≤ n → Only H → SqL (K w.params) H a (ns.map V.int) → sp w [.ref a] H (fun v _ => v = .bl true) fun _ _ _ => False)
    (hCX : ∀ (w : World) (H : Hp) (s : Shared) (e : Value) (s' : Shared), CX w [] H s (fun _ _ _ => False) e s' → False) :
    PySem.W.WalkO q loose XP YP l.row.toRowW d [] (fun f vs => PySem.call f vs) := by
  refine Att.attach_call hn hdf fun w s₀ s₁ mg mb fa o pm cd doc a vs ns G Y ho hd hcd hmg hobj hints hlen hg => ?_
  have KX := hY w _ Y
  obtain ⟨fd, hb, hF⟩ := F w mg fa _ KX G.T.g hmg
  exact law_call KX G.T.g G.T.b G.T.builtins G.T.nolimit hg hobj hints (Nat.le_trans hlen hn2) hr hF hb (fun H hO hS => hsp w H a ns hlen hO hS) fun H e s' => hCX w H s₁ e s'
end L2

/- THE LAST THEOREM (shape; LID, My.* are yours):
   My.Adr: a structure of the addresses that your layer names (classes, functions); My.Txt K t: a structure (Prop) of the equations over K;
   My.txt_mk : {K} {implicit addresses ..} (e1 : nsIn K mainGlobals "law" = some (some (.ref f))) (e2 : K.lookup f = some ⟨oc, od, .func (fnOf "law" "law" params body scope dV kV doc pm an cdv ct), sl⟩) (e3 : codeIn K cdv "law" = true) .. : ∃ t, My.Txt K t

set_option maxRecDepth 100000 in
set_option maxHeartbeats 0 in
theorem PySem.Challenge.cw_LID_holds : PySem.Challenge.rw_LID.Holds := by
  w_on; o_law; k_head; (case hw => w_witness2)
  k_fill
  refine L2.walk_of (l := PySem.Challenge.rw_LID) (n := 63) (k := 40) (x := "script") (CX := fun w => ..) (sp := fun _ => My.sp_law) rfl (by decide) rfl ⟨rfl, by decide, by decide⟩ (fun w h Y => PySem.W.kIn_of Y) ?F ?S ?C
  case F =>
    intro w mg fa h KX G hmg
    have T : ∃ t, My.Txt (L2.KOf KX) t := by
      dsimp only [L2.KOf]                          -- K must stand as «<heap const> w.params» for k_is
      refine' My.txt_mk ?e1 ?e2 ?e3 ..
      (case e1 => PySem.W.k_is)                    -- in the order: a name -> its address -> its object -> its parts
      (case e2 => PySem.W.k_is)
      ..
    obtain ⟨t, T⟩ := T
    have e0 := hmg.symm.trans (PySem.W.mg_of KX G T.law)
    cases e0                                       -- fa is the law's own address
    exact ⟨_, fun s u => .of_eq rfl, fun base kb nb => My.law_fn T kb nb⟩     -- if «.of_eq rfl» comes too early: refine' ⟨_, ?b, fun base kb nb => My.law_fn T kb nb⟩; exact fun s u => .of_eq rfl
  case S => exact fun w H a ns hl hO hS => ..
  case C => exact ..
(the tactic k_is has no namespace: write k_is) -/

/-! SHORT WORDS over the layer: a def of the text, its body, what a loop and a test want. -/
namespace L2
open PySem PySem.Spec PyProof.Rows

/-! ### the text by places -/
noncomputable def defArgs (s : Stmt) : Arguments := match s with
  | .FunctionDef _ a _ _ _ _ _ _ _ _ => a
  | _ => { posonlyargs := [], args := [], vararg := none, kwonlyargs := [], kw_defaults := [], kwarg := none, defaults := [] }
noncomputable def defBody (s : Stmt) : List Stmt := match s with
  | .FunctionDef _ _ b _ _ _ _ _ _ _ => b
  | _ => []
noncomputable def defScope (s : Stmt) : Scope := match s with
  | .FunctionDef _ _ _ _ _ _ sc _ _ _ => sc
  | _ => { kind := .function, names := [], isGenerator := false, isCoroutine := false }

/-! ### no exception leaves a def -/
noncomputable abbrev CX0 : CXT := fun _ _ _ _ _ _ => False
noncomputable abbrev E0 : XK := fun _ _ _ => False
theorem pass0 {X : Cx} : Passes CX0 X E0 := fun _ _ _ _ _ _ _ h => h.elim

/-! ### a def (or method) of the text as it stands behind the top -/
structure Fun (K : PySem.W.Frag) (x qual : Str) (st : Stmt) (f : Addr) (fd : FuncData) : Prop where
  ex : ∃ (oc : Value) (od : Option Addr) (kV doc pm : Value) (an : Option Addr) (cdv ct : Value) (osl : Array (Option Value)),
    fd = PySem.W.fnOf x qual (defArgs st) (defBody st) (defScope st) .none kV doc pm an cdv ct ∧ K.lookup f = some ⟨oc, od, .func fd, osl⟩ ∧ PySem.W.codeIn K cdv qual = true
  kp : PySem.W.keepIn K (.ref f) = true
section
variable {P : Program} {w : World} {K : PySem.W.Frag} {mg : Str → Option Value} {base : Heap}
/-- THE RULE for a def: its body as a term of rules, and the reading of that term -/
theorem Fun.ok {x qual : Str} {st : Stmt} {f : Addr} {fd : FuncData} {N ps : List Str} {k : Nat} {sp : Sp} (F : Fun K x qual st f fd) (S : FnScope N ps (defScope st)) (len : ∀ vs H Q E, sp vs H Q E → vs.length = ps.length)
    (hbody : ∀ (cdv : Value) (A : Around) (outer : List Env) (s : Shared) (H : Hp) (vs : List V) (Q : VK) (E : XK), Room k (A.deeper (envOfC qual (defScope st) s.heap.objs.size f cdv)) → sp vs H Q E →
      ∃ t, PSs (cxOf CX0 P w K mg base N qual (defScope st) f cdv A outer s H E).nox (defBody st) t ∧ t { nx := fun _ H' => Q .non H', rt := Q } (start N vs) H) : FnOk P w K mg base CX0 (k + 1) f fd ps sp := by
  obtain ⟨oc, od, kV, doc, pm, an, cdv, ct, osl, rfl, lk, hcd⟩ := F.ex
  refine fn_of lk hcd S len fun A outer s H vs Q E hr hsp => ?_
  obtain ⟨t, h, q⟩ := hbody cdv A outer s H vs Q E hr hsp
  exact ⟨t, h.nox, q⟩
/-- how its arguments bind (no defaults): h is «fun _ _ _ _ _ _ us hl => match us, hl with | [_, _], _ => rfl», one _ a parameter -/
theorem Fun.binds {x qual : Str} {st : Stmt} {f : Addr} {fd : FuncData} {ps : List Str} (F : Fun K x qual st f fd)
    (h : ∀ (kV doc pm : Value) (an : Option Addr) (cdv ct : Value) (us : List Value), us.length = ps.length → bindArgs (PySem.W.fnOf x qual (defArgs st) (defBody st) (defScope st) .none kV doc pm an cdv ct) ⟨us, []⟩ = pure (ps.zip us)) : Binds K fd ps [] := by
  obtain ⟨oc, od, kV, doc, pm, an, cdv, ct, osl, rfl, lk, hcd⟩ := F.ex
  exact .all (h kV doc pm an cdv ct)
theorem fun_mk {x qual : Str} {st : Stmt} {f : Addr} {oc : Value} {od an : Option Addr} {osl : Array (Option Value)} {kV doc pm cdv ct : Value} (l : K.lookup f = some ⟨oc, od, .func (PySem.W.fnOf x qual (defArgs st) (defBody st) (defScope st) .none kV doc pm an cdv ct), osl⟩)
    (c : PySem.W.codeIn K cdv qual = true) (k : PySem.W.keepIn K (.ref f) = true) : Fun K x qual st f (PySem.W.fnOf x qual (defArgs st) (defBody st) (defScope st) .none kV doc pm an cdv ct) := ⟨⟨oc, od, kV, doc, pm, an, cdv, ct, osl, rfl, l, c⟩, k⟩
end
theorem small1000 {n : Nat} (h : n ≤ 1000) : n < sizeLine := Nat.lt_of_le_of_lt h (by decide)

/-! ### expressions in short: the name that stands in the i-th slot -/
section
variable {X : Cx}
end

/-! ### tests -/
theorem iteF {A B : Prop} (h : B) : if false = true then A else B := by
  rw [if_neg Bool.false_ne_true]
  exact h
theorem iteT {A B : Prop} (h : A) : if true = true then A else B := by
  rw [if_pos rfl]
  exact h
theorem ite2 {c A B : Prop} [Decidable c] (h1 : c → A) (h2 : ¬ c → B) : if c then A else B := by
  by_cases h : c
  · rw [if_pos h]
    exact h1 h
  · rw [if_neg h]
    exact h2 h

/-! ### heaps -/
/-- all that was tracked is as it was -/
noncomputable def Same (H H' : Hp) : Prop := ∀ b o, H b = some o → H' b = some o
theorem Same.refl (H : Hp) : Same H H := fun _ _ h => h
theorem Same.trans {H H1 H2 : Hp} (a : Same H H1) (b : Same H1 H2) : Same H H2 := fun c o h => b c o (a c o h)
theorem Same.free {H H' : Hp} (e : Same H H') {l : Addr} (h : H' l = Option.none) : H l = Option.none := by
  cases q : H l with
  | none => rfl
  | some o =>
    rw [e l o q] at h
    cases h
theorem Same.seq {K : PySem.W.Frag} {H H' : Hp} {a : Addr} {xs : List V} (e : Same H H') (h : SqL K H a xs) : SqL K H' a xs := by
  rcases h with (h | ⟨o, h⟩) | h
  · exact .inl (.inl (e _ _ h))
  · exact .inl (.inr ⟨o, e _ _ h⟩)
  · exact .inr h

/-! ### a dict's pairs: keys that differ -/
section
variable {κ : Type} [DecidableEq κ]
end
end L2


namespace GM
/-! Whole numbers: divisors, lowest ratios, sizes. -/



end GM


set_option Elab.async false
set_option linter.all false
set_option maxRecDepth 100000
/-! MY RULES over the hand layer -/
namespace L2
open PySem PySem.Spec PyProof.Rows

/-! ### argument lists without stars: by a look at each item's head alone -/
noncomputable def noStar : Expr → Bool
  | .Starred _ _ => false
  | _ => true
theorem star_cons {e : Expr} {es : List Expr} {env : Env} (h : noStar e = true) : starEach (e :: es) env = (false, eval e env) :: starEach es env := by
  cases e <;> first | rfl | cases h
theorem star_any {pos : Pos} {env : Env} : ∀ {es : List Expr}, es.all noStar = true → (backTo pos (starEach es env)).any (·.1) = false
  | [], _ => rfl
  | e :: es, h => by
    rw [List.all_cons, Bool.and_eq_true] at h
    rw [star_cons h.1]
    show (false || (backTo pos (starEach es env)).any (·.1)) = false
    rw [star_any h.2]; rfl
theorem all_cons1 {e : Expr} {es : List Expr} (h : (e :: es).all noStar = true) : noStar e = true ∧ es.all noStar = true := by
  rw [List.all_cons, Bool.and_eq_true] at h; exact h
section
variable {X : Cx} {e o : Expr} {es : List Expr} {te : TE} {t : TA} {pos p : Pos}
theorem pa_c (ha : PE X e te) (hr : PA X es t) (hs : noStar e = true := by rfl) : PA X (e :: es) (tCons te t) := pa_cons ha hr (star_cons hs)
theorem pe_cB {x : Str} {id : String} {r : List V → Hp → VK → Prop} (hc : CallR X (.builtin id) r) (hg : Gl X x) (hm : X.mg x = none) (hv : bootBuiltins x = some (.builtin id)) (ha : PA X (e :: es) t) (hs : (e :: es).all noStar = true := by rfl)
    (hn : x ≠ "__name__" := by decide) (hdb : (x == ("__debug__" : Str)) = false := by decide) : PE X (.Call (.Name x p) (e :: es) [] pos) (tCB r t) :=
  pe_callB hc hg hm hv ha hn hdb (star_cons (all_cons1 hs).1) (star_any (all_cons1 hs).2)
theorem pe_cTy {x : Str} {T : String} {r : List V → Hp → VK → Prop} (hc : CallR X (.type T) r) (hg : Gl X x) (hm : X.mg x = none) (hv : bootBuiltins x = some (.type T)) (ha : PA X (e :: es) t) (hs : (e :: es).all noStar = true := by rfl)
    (hn : x ≠ "__name__" := by decide) (hdb : (x == ("__debug__" : Str)) = false := by decide) : PE X (.Call (.Name x p) (e :: es) [] pos) (tCB r t) :=
  pe_callTy hc hg hm hv ha hn hdb (star_cons (all_cons1 hs).1) (star_any (all_cons1 hs).2)
theorem few1 {env : Env} {cpos : Pos} (h : noStar e = true) : ((backTo cpos (starEach [e] env)).all (fun x => !x.1) && (backToKw cpos (keywordEach [] env)).all (fun x => x.1.isSome)
      && decide (([e] : List Expr).length + ([] : List Keyword).length + (if ([] : List Keyword).isEmpty then 0 else 1) < 30)) = true := by
  rw [star_cons h]; rfl
theorem pe_append {to : TE} {apos cpos : Pos} (ho : PE X o to) (ha : PA X [e] t) (hs : noStar e = true := by rfl) (hbase : attributeBase o "append" X.env (eval o X.env) = eval o X.env := by rfl) (hline : (apos.endLine == cpos.line) = true := by rfl) :
    PE X (.Call (.Attribute o "append" apos) [e] [] cpos) (tBM X.K "list" rAppend to t) :=
  pe_bm PySem.F.plainAttrs_list PySem.F.slot_list_append PySem.F.type_list_append mt_append ho ha hbase (few1 hs) hline (star_cons hs) rfl
end

/-! ### kinds of values, isinstance -/
inductive Nm where | non | bl | int | str | lst | tup | dct
  deriving DecidableEq
noncomputable def Nm.s : Nm → String
  | .non => "NoneType" | .bl => "bool" | .int => "int" | .str => "str" | .lst => "list" | .tup => "tuple" | .dct => "dict"
noncomputable def isN (n m : Nm) : Bool := decide (n = m) || (decide (n = .bl) && decide (m = .int))
noncomputable def bT (T U : String) : Option Bool := if (Value.type T == Value.type U) = true then some true else if PySem.W.kitMeta U = true then (fastBuiltinMro T).map (·.contains (Value.type U)) else none
theorem kitOne_bT (K : PySem.W.Frag) (T U : String) : PySem.W.kitOne K (.type T) (.type U) = bT T U := rfl
theorem bT_all (n m : Nm) : bT n.s m.s = some (isN n m) := by
  cases n <;> cases m <;> decide +kernel
noncomputable abbrev KindIs (K : PySem.W.Frag) (H : Hp) (v : V) (n : Nm) : Prop := TyOf K H v (.type (Nm.s n))
noncomputable def rIsi (K : PySem.W.Frag) (m : Nm) : List V → Hp → VK → Prop := fun xs H Q => ∃ x n, xs = [x, .ty (Nm.s m)] ∧ KindIs K H x n ∧ Q (.bl (isN n m)) H
theorem call_isinst {X : Cx} (m : Nm) : CallR X (.builtin "isinstance") (rIsi X.K m) := by
  intro pins s σ H xs us Q I r h
  obtain ⟨x, n, rfl, ty, q⟩ := h
  obtain ⟨u, u', rfl, ru, ru'⟩ := vals2 r
  cases ru'
  exact isinst_ok I ru ty ((kitOne_bT _ _ _).trans (bT_all n m)) fun tk => ⟨.bl (isN n m), H, I.tok tk, rfl, q⟩
theorem nm_ne (m : Nm) : (Str.ofString (Nm.s m)) ≠ "__name__" := by cases m <;> decide +kernel
theorem nm_db (m : Nm) : ((Str.ofString (Nm.s m)) == ("__debug__" : Str)) = false := by cases m <;> decide +kernel
theorem boot_nm (m : Nm) (h : m ≠ .non) : bootBuiltins (Str.ofString (Nm.s m)) = some (.type (Nm.s m)) := by
  cases m
  · exact absurd rfl h
  · exact boot_bool
  · exact boot_int
  · exact boot_str
  · exact boot_list
  · exact boot_tuple
  · exact boot_dict
theorem pe_isi {X : Cx} (m : Nm) {e : Expr} {te : TE} {p p2 pos : Pos} (hg : Gl X "isinstance") (hm : X.mg "isinstance" = none) (hgT : Gl X (Str.ofString (Nm.s m))) (hmT : X.mg (Str.ofString (Nm.s m)) = none) (ha : PE X e te) (h0 : m ≠ .non := by decide) (hs : noStar e = true := by rfl) :
    PE X (.Call (.Name "isinstance" p) [e, .Name (Str.ofString (Nm.s m)) p2] [] pos) (tCB (rIsi X.K m) (tCons te (tCons (tC (.ty (Nm.s m))) tNil))) :=
  pe_cB (call_isinst m) hg hm boot_isinstance (pa_c ha (pa_c (pe_bltn hgT hmT (boot_nm m h0) rfl (nm_ne m) (nm_db m)) pa_nil) hs) (by rw [List.all_cons, hs]; rfl)

/-! ### operations -/
section
variable {X : Cx} {a b c : Expr} {ta tb tc : TE} {pos : Pos}
theorem op_mulB : OpR X (binaryOp .Mult) (rI IntMulOk fun i j => .int (i * j)) := opI fun _ _ _ _ _ _ _ hc q => mul_int q hc
end
theorem mulOk_small {i j : Int} (h : j.natAbs < 2 ^ 64) : IntMulOk i j := IntMulOk.of_right (intBits_le_64 (by omega) (by omega))
theorem mulOk_left {i j : Int} (h : i.natAbs < 2 ^ 64) : IntMulOk i j := IntMulOk.of_left (intBits_le_64 (by omega) (by omega))

/-! ### defs -/
structure DefOk (P : Program) (w : World) (K : PySem.W.Frag) (mg : Str → Option Value) (base : Heap) (k : Nat) (x : Str) (ps : List Str) (dvs : List V) (sp : Sp) : Prop where
  ex : ∃ (f : Addr) (fd : FuncData) (ds : List Value), FnOk P w K mg base CX0 k f fd ps sp ∧ Binds K fd ps ds ∧ Vals dvs ds ∧ PySem.W.keepIn K (.ref f) = true ∧ mg x = some (.ref f)
theorem pe_callD {X : Cx} {k j : Nat} {x : Str} {ps : List Str} {dvs : List V} {sp : Sp} {p pos : Pos} {e : Expr} {es : List Expr} {t : TA}
    (D : DefOk X.prog X.w X.K X.mg X.base k x ps dvs sp) (hr : Room j X.A) (hj : k ≤ j) (hg : Gl X x) (ha : PA X (e :: es) t) (hs : (e :: es).all noStar = true := by rfl)
    (hdb : (x == ("__debug__" : Str)) = false := by decide) :
    PE X (.Call (.Name x p) (e :: es) [] pos) (tCall sp dvs E0 t) := by
  obtain ⟨f, fd, ds, F, b, hd, kp, m⟩ := D.ex
  exact pe_call F (hr.mono hj) hg m kp b hd pass0 ha hdb (star_cons (all_cons1 hs).1) (star_any (all_cons1 hs).2)
section
variable {P : Program} {w : World} {K : PySem.W.Frag} {mg : Str → Option Value} {base : Heap}
end
theorem same_new {H : Hp} {p : Addr} (h : H p = none) (o : HO) : Same H (upd H p o) := fun b u q => by rw [upd_ne (ne_of_none q h)]; exact q
end L2


set_option Elab.async false
set_option linter.all false
set_option maxRecDepth 100000
/-! texts written by f-strings -/
namespace L2
open PySem PySem.Spec PyProof.Rows
noncomputable def tJoins : List TE → Str → TE
  | [], acc => fun _ H Q => acc.length ≤ sizeLine ∧ Q (.str acc) H
  | t :: r, acc => fun σ H Q => t σ H fun x H1 => ∃ y, x = .str y ∧ (acc ++ y).length ≤ sizeLine ∧ tJoins r (acc ++ y) σ H1 Q
inductive PFs (X : Cx) : List Expr → List TE → Prop where
  | nil : PFs X [] []
  | cons {e : Expr} {es : List Expr} {t : TE} {ts : List TE} : PE X e t → PFs X es ts → PFs X (e :: es) (t :: ts)
theorem fps_nil {X : Cx} : PFs X [] [] := .nil
theorem fps_cons {X : Cx} {e : Expr} {es : List Expr} {t : TE} {ts : List TE} (h : PE X e t) (r : PFs X es ts) : PFs X (e :: es) (t :: ts) := .cons h r
theorem joins_ok {X : Cx} {es : List Expr} {ts : List TE} (h : PFs X es ts) : ∀ (acc : Str) (pins : List (Addr × Obj)) (s : Shared) (σ : St) (H : Hp) (Q : VK), Inv X pins σ H s → tJoins ts acc σ H Q →
    wpAny (model X.prog X.w) X.A (joinParts acc (evalEach es X.env)) (EP X pins σ Q) X.xe s := by
  induction h with
  | nil =>
    intro acc pins s σ H Q I q
    exact joinParts_nil ⟨.str acc, H, I.tok _, ⟨_, rfl⟩, q.2⟩ q.1
  | cons he _ ih =>
    intro acc pins s σ H Q I q
    refine joinParts_cons (thn (he pins s σ H _ I q) fun v s1 ⟨x, H1, I1, r1, y, e, hz, q1⟩ => ?_)
    subst e
    obtain ⟨t, rfl⟩ := r1
    exact ⟨hz, ih _ pins s1 σ H1 Q I1 q1⟩
theorem pe_joined {X : Cx} {e1 e2 : Expr} {es : List Expr} {ts : List TE} {pos : Pos} (h : PFs X (e1 :: e2 :: es) ts) : PE X (.JoinedStr (e1 :: e2 :: es) pos) (tJoins ts Str.empty) := by
  intro pins s σ H Q I q
  exact JoinedStr_many (joins_ok h Str.empty pins s σ H Q I q)
noncomputable def tFv (te : TE) : TE := fun σ H Q => te σ H fun x H1 => ∃ i : Int, x = .int i ∧ i.natAbs.log2 < 1920 ∧ Q (.str (toString i)) H1
theorem pe_fv {X : Cx} {e : Expr} {te : TE} {pos : Pos} (he : PE X e te) : PE X (.FormattedValue e (-1) none pos) (tFv te) := by
  intro pins s σ H Q I q
  refine FormattedValue_plain (thn (he pins s σ H _ I q) fun v s1 ⟨x, H1, I1, r1, i, e, hz, q1⟩ => ?_)
  subst e
  obtain ⟨t, rfl⟩ := r1
  exact wpAny_formatField_int hz ⟨.str (toString i), H1, I1.tok _, ⟨_, rfl⟩, q1⟩
theorem empty_app (x : Str) : Str.empty ++ x = x := by
  refine ext_toList ?_
  show ((#[] : Array Nat) ++ x.cps).toList = x.cps.toList
  rw [Array.toList_append]
  rfl
end L2


set_option Elab.async false
set_option linter.all false
set_option maxRecDepth 100000
/-! THE RULES, their judgements shut: nothing is unfolded where a term of rules is elaborated -/
namespace L2
open PySem PySem.Spec PyProof.Rows
structure QE (X : Cx) (e : Expr) (t : TE) : Prop where h : PE X e t
structure QT (X : Cx) (e : Expr) (t : TT) : Prop where h : PT X e t
structure QW (X : Cx) (e : Expr) (t : TT) : Prop where h : PW X e t
structure QA (X : Cx) (es : List Expr) (t : TA) : Prop where h : PA X es t
structure QS (X : Cx) (st : Stmt) (t : TS) : Prop where h : PS X st t
structure QSs (X : Cx) (st : List Stmt) (t : TS) : Prop where h : PSs X st t
structure QO (X : Cx) (e : Option Expr) (t : TO) : Prop where h : PO X e t
structure QI (X : Cx) (tg iter : Expr) (wi : TI) : Prop where h : PI X tg iter wi
structure QG (X : Cx) (tg : Expr) (t : TG) : Prop where h : PG X tg t
structure QF (X : Cx) (es : List Expr) (ts : List TE) : Prop where h : PFs X es ts
/-- no comprehension -/
noncomputable def noComp : Expr → Bool
  | .ListComp _ _ _ _ => false
  | .SetComp _ _ _ _ => false
  | .DictComp _ _ _ _ _ => false
  | _ => true
theorem swaps_no {e : Expr} {tg : Option Expr} {l : Nat} {env : Env} (h : noComp e = true) : swapsWith e tg l env = pure false := by
  cases e <;> first | rfl | cases h
namespace R
section
variable {X : Cx} {a b c e o : Expr} {es rest : List Expr} {ta tb tc te : TE} {tA tB' : TT} {t : TA} {pos p : Pos}
theorem pv (i : Nat) {x : Str} (hN : X.N[i]? = some x := by rfl) (hv : Vis X.env.scope x := by first | exact Or.inl rfl | exact Or.inr (Or.inl rfl) | exact Or.inr (Or.inr rfl)) (hd : (x == ("__debug__" : Str)) = false := by decide)
    (hcd : (x == ("__classdict__" : Str)) = false := by decide) : QE X (.Name x pos) (tVar i) := ⟨pe_var hN hv hd hcd⟩
theorem pe_int {i : Int} {j : Nat} : QE X (.Constant (.int i) j pos) (tC (.int i)) := ⟨L2.pe_int⟩
theorem pe_bl {k : Bool} {j : Nat} : QE X (.Constant (.bool k) j pos) (tC (.bl k)) := ⟨L2.pe_bl⟩
theorem pe_str {x : Str} {j : Nat} : QE X (.Constant (.str x) j pos) (tC (.str x)) := ⟨L2.pe_str⟩
theorem pe_op {op : Operator} {r : R2} (ho : OpR X (binaryOp op) r) (ha : QE X a ta) (hb : QE X b tb) : QE X (.BinOp a op b pos) (tOp r ta tb) := ⟨L2.pe_op ho ha.h hb.h⟩
theorem pe_not (ha : QE X a ta) : QE X (.UnaryOp .Not a pos) (tNotV ta) := ⟨L2.pe_not ha.h⟩
theorem pe_one {op : BoolOp} (h : QE X a ta) : QE X (.BoolOp op [a] pos) ta := ⟨L2.pe_one h.h⟩
theorem pe_and (ha : QE X a ta) (hb : QE X (.BoolOp .And (b :: rest) pos) tb) : QE X (.BoolOp .And (a :: b :: rest) pos) (tAndV ta tb) := ⟨L2.pe_and ha.h hb.h⟩
theorem pe_cmpR {op : CmpOp} {r : R2} (ho : OpR X (compareOp op) r) (ha : QE X a ta) (hb : QE X b tb) (hm : behindInMarks op b = false) : QE X (.Compare a [op] [b] pos) (tOp r ta tb) := ⟨L2.pe_cmpR ho ha.h hb.h hm⟩
theorem po_none : QO X none tNoPart := ⟨L2.po_none⟩
theorem po_some (h : QE X e te) : QO X (some e) (tPart te) := ⟨L2.po_some h.h⟩
theorem pe_slice {lo hi : Option Expr} {tl th : TO} {p2 : Pos} {r : V → Option Int → Option Int → Hp → VK → Prop} (hr : SlR X r) (he : QE X e te) (hl : QO X lo tl) (hu : QO X hi th) : QE X (.Subscript e (.Slice lo hi none p2) pos) (tSl r te tl th) := ⟨L2.pe_slice hr he.h hl.h hu.h⟩
theorem pe_ix {r : R2} (hr : IxR X r) (ha : QE X a ta) (hb : QE X b tb) (hs : PlainIx b) : QE X (.Subscript a b pos) (tOp r ta tb) := ⟨L2.pe_ix hr ha.h hb.h hs⟩
theorem pa_nil : QA X [] tNil := ⟨L2.pa_nil⟩
theorem pa_c (ha : QE X e te) (hr : QA X es t) (hs : noStar e = true := by rfl) : QA X (e :: es) (tCons te t) := ⟨L2.pa_c ha.h hr.h hs⟩
theorem pe_lst (h : QA X es t) : QE X (.List es pos) (tLst t) := ⟨L2.pe_lst h.h⟩
theorem pe_tup {x1 : Nat} (h : QA X es t) : QE X (.Tuple es x1 pos) (tTup t) := ⟨L2.pe_tup h.h⟩
theorem pe_dnewK : QE X (.Dict [] [] pos) tDNewK := ⟨L2.pe_dnewK⟩
theorem fps_nil : QF X [] [] := ⟨L2.fps_nil⟩
theorem fps_cons {ts : List TE} (h : QE X e te) (r : QF X es ts) : QF X (e :: es) (te :: ts) := ⟨L2.fps_cons h.h r.h⟩
theorem pe_joined {e1 e2 : Expr} {ts : List TE} (h : QF X (e1 :: e2 :: es) ts) : QE X (.JoinedStr (e1 :: e2 :: es) pos) (tJoins ts Str.empty) := ⟨L2.pe_joined h.h⟩
theorem pe_fv (he : QE X e te) : QE X (.FormattedValue e (-1) none pos) (tFv te) := ⟨L2.pe_fv he.h⟩
theorem pe_callD {k j : Nat} {x : Str} {ps : List Str} {dvs : List V} {sp : Sp} (D : DefOk X.prog X.w X.K X.mg X.base k x ps dvs sp) (hr : Room j X.A) (hj : k ≤ j) (hg : Gl X x) (ha : QA X (e :: es) t) (hs : (e :: es).all noStar = true := by rfl)
    (hdb : (x == ("__debug__" : Str)) = false := by decide) : QE X (.Call (.Name x p) (e :: es) [] pos) (tCall sp dvs E0 t) := ⟨L2.pe_callD D hr hj hg ha.h hs hdb⟩
theorem pe_isi (m : Nm) {p2 : Pos} (hg : Gl X "isinstance") (hm : X.mg "isinstance" = none) (hgT : Gl X (Str.ofString (Nm.s m))) (hmT : X.mg (Str.ofString (Nm.s m)) = none) (ha : QE X e te) (h0 : m ≠ .non := by decide) (hs : noStar e = true := by rfl) :
    QE X (.Call (.Name "isinstance" p) [e, .Name (Str.ofString (Nm.s m)) p2] [] pos) (tCB (rIsi X.K m) (tCons te (tCons (tC (.ty (Nm.s m))) tNil))) := ⟨L2.pe_isi m hg hm hgT hmT ha.h h0 hs⟩
theorem pe_cB {x : Str} {id : String} {r : List V → Hp → VK → Prop} (hc : CallR X (.builtin id) r) (hg : Gl X x) (hm : X.mg x = none) (hv : bootBuiltins x = some (.builtin id)) (ha : QA X (e :: es) t) (hs : (e :: es).all noStar = true := by rfl)
    (hn : x ≠ "__name__" := by decide) (hdb : (x == ("__debug__" : Str)) = false := by decide) : QE X (.Call (.Name x p) (e :: es) [] pos) (tCB r t) := ⟨L2.pe_cB hc hg hm hv ha.h hs hn hdb⟩
theorem pe_cTy {x : Str} {T : String} {r : List V → Hp → VK → Prop} (hc : CallR X (.type T) r) (hg : Gl X x) (hm : X.mg x = none) (hv : bootBuiltins x = some (.type T)) (ha : QA X (e :: es) t) (hs : (e :: es).all noStar = true := by rfl)
    (hn : x ≠ "__name__" := by decide) (hdb : (x == ("__debug__" : Str)) = false := by decide) : QE X (.Call (.Name x p) (e :: es) [] pos) (tCB r t) := ⟨L2.pe_cTy hc hg hm hv ha.h hs hn hdb⟩
theorem pe_append {to : TE} {apos cpos : Pos} (ho : QE X o to) (ha : QA X [e] t) (hs : noStar e = true := by rfl) (hbase : attributeBase o "append" X.env (eval o X.env) = eval o X.env := by rfl) (hline : (apos.endLine == cpos.line) = true := by rfl) :
    QE X (.Call (.Attribute o "append" apos) [e] [] cpos) (tBM X.K "list" rAppend to t) := ⟨L2.pe_append ho.h ha.h hs hbase hline⟩
theorem pt_cmpR {op : CmpOp} {r : R2} (ho : OpR X (compareOp op) r) (ha : QE X a ta) (hb : QE X b tb) (hm : behindInMarks op b = false) : QT X (.Compare a [op] [b] pos) (tTest (tOp r ta tb)) := ⟨L2.pt_cmpR ho ha.h hb.h hm⟩
theorem pw_and1 (ha : QT X a tA) : QW X (.BoolOp .And [a] pos) tA := ⟨L2.pw_and1 ha.h⟩
theorem pw_or1 (ha : QT X a tA) : QW X (.BoolOp .Or [a] pos) tA := ⟨L2.pw_or1 ha.h⟩
theorem pw_and (ha : QT X a tA) (hb : QW X (.BoolOp .And (b :: rest) pos) tB') : QW X (.BoolOp .And (a :: b :: rest) pos) (tAnd tA tB') := ⟨L2.pw_and ha.h hb.h⟩
theorem pw_or (ha : QT X a tA) (hb : QW X (.BoolOp .Or (b :: rest) pos) tB') : QW X (.BoolOp .Or (a :: b :: rest) pos) (tOr tA tB') := ⟨L2.pw_or ha.h hb.h⟩
theorem pt (h : QW X e tA) : QT X e tA := ⟨PW.pt h.h⟩
theorem pt_not (ha : QT X a tA) : QT X (.UnaryOp .Not a pos) (tNot tA) := ⟨L2.pt_not ha.h⟩
theorem pt_val (h : QE X e te) (he : ∀ whole, isTrue e X.env whole = (do let v ← whole; standAt e.pos; holding [v] (truthy v)) := by intro _; rfl) : QT X e (tB te) := ⟨L2.pt_val h.h he⟩
end
section
variable {X : Cx} {c e : Expr} {te : TE} {tc : TT} {st : Stmt} {sts body orelse : List Stmt} {t u tb : TS} {pos : Pos}
theorem ps_ret (he : QE X e te) : QS X (.Return (some e) pos) (tRet te) := ⟨L2.ps_ret he.h⟩
theorem ps_never : QS X st tNever := ⟨L2.ps_never⟩
theorem ps_expr (he : QE X e te) (hs : noComp e = true := by rfl) : QS X (.Expr e pos) (tDrop te) := ⟨L2.ps_expr he.h (swaps_no hs)⟩
theorem ps_set {i : Nat} {x : Str} {pos' : Pos} (hN : X.N.Nodup) (hi : X.N[i]? = some x) (hx : Loc X.env.scope x) (he : QE X e te) (hs : noComp e = true := by rfl) (hf : X.fn x = true ∨ X.env.scope.names.lookup x = some .local := by first | exact .inl rfl | exact .inr rfl | assumption) :
    QS X (.Assign [.Name x pos'] e pos) (tAsg te (gName i)) := ⟨L2.ps_set hN hi hx he.h (swaps_no hs) hf⟩
theorem ps_if (hc : QT X c tc) (ha : QSs X body t) (hb : QSs X orelse u) : QS X (.If c body orelse pos) (tIfS tc t u) := ⟨L2.ps_if hc.h ha.h hb.h⟩
theorem ps_for {tg iter : Expr} {wi : TI} {g : TG} (hp : PassesOwn (model X.prog X.w) X.A X.env X.xe) (hc : X.calm = true) (hi : QI X tg iter wi) (hg : QG X tg g) (hb : QSs X body tb)
    (hs : ∀ x, foldedSetIterable iter X.env x = pure x := by intro _; rfl) : QS X (.For tg iter body [] pos) (tFor wi g tb) := ⟨L2.ps_for hp hc hi.h hg.h hb.h hs⟩
theorem pi_list {tg : Expr} (hl : QE X e te) : QI X tg e (iList X.K te) := ⟨L2.pi_list hl.h⟩
theorem pi_range1 {tg a : Expr} {ta : TA} {p : Pos} (hg : Gl X "range") (hm : X.mg "range" = none) (ha : QA X [a] ta) (hs : noStar a = true := by rfl) : QI X tg (.Call (.Name "range" p) [a] [] pos) (iRng1 ta) := ⟨L2.pi_range1 hg hm ha.h (star_cons hs)⟩
theorem pg_name {i : Nat} {x : Str} (hN : X.N.Nodup) (hi : X.N[i]? = some x) (hx : Loc X.env.scope x) (hf : X.fn x = true ∨ X.env.scope.names.lookup x = some .local := by first | exact .inl rfl | exact .inr rfl | assumption) : QG X (.Name x pos) (gName i) := ⟨L2.pg_name hN hi hx hf⟩
theorem pss_nil : QSs X [] tNext := ⟨L2.pss_nil⟩
theorem pss_one (h1 : QS X st t) : QSs X [st] t := ⟨L2.pss_one h1.h⟩
theorem pss_cons (h1 : QS X st t) (h2 : QSs X sts u) : QSs X (st :: sts) (tSeq t u) := ⟨L2.pss_cons h1.h h2.h⟩
end
end R
section
variable {P : Program} {w : World} {K : PySem.W.Frag} {mg : Str → Option Value} {base : Heap}
theorem Fun.okQ {x qual : Str} {st : Stmt} {f : Addr} {fd : FuncData} {N ps : List Str} {k : Nat} {sp : Sp} (F : Fun K x qual st f fd) (S : FnScope N ps (defScope st)) (len : ∀ vs H Q E, sp vs H Q E → vs.length = ps.length)
    (hbody : ∀ (cdv : Value) (A : Around) (outer : List Env) (s : Shared) (H : Hp) (vs : List V) (Q : VK) (E : XK), Room k (A.deeper (envOfC qual (defScope st) s.heap.objs.size f cdv)) → sp vs H Q E →
      ∃ t, QSs (cxOf CX0 P w K mg base N qual (defScope st) f cdv A outer s H E).nox (defBody st) t ∧ t { nx := fun _ H' => Q .non H', rt := Q } (start N vs) H) : FnOk P w K mg base CX0 (k + 1) f fd ps sp :=
  F.ok S len fun cdv A outer s H vs Q E hr h => let ⟨t, q, r⟩ := hbody cdv A outer s H vs Q E hr h; ⟨t, q.h, r⟩
theorem Fun.def_okQ {x qual : Str} {st : Stmt} {f : Addr} {fd : FuncData} {N ps : List Str} {k : Nat} {sp : Sp} (F : Fun K x qual st f fd) (m : mg x = some (.ref f)) (b : Binds K fd ps []) (S : FnScope N ps (defScope st)) (len : ∀ vs H Q E, sp vs H Q E → vs.length = ps.length)
    (hbody : ∀ (cdv : Value) (A : Around) (outer : List Env) (s : Shared) (H : Hp) (vs : List V) (Q : VK) (E : XK), Room k (A.deeper (envOfC qual (defScope st) s.heap.objs.size f cdv)) → sp vs H Q E →
      ∃ t, QSs (cxOf CX0 P w K mg base N qual (defScope st) f cdv A outer s H E).nox (defBody st) t ∧ t { nx := fun _ H' => Q .non H', rt := Q } (start N vs) H) : DefOk P w K mg base (k + 1) x ps [] sp :=
  ⟨f, fd, [], F.okQ S len hbody, b, .nil, F.kp, m⟩
end
end L2


set_option Elab.async false
set_option linter.all false
set_option maxRecDepth 100000
/-! y = [elt for x in iter] -/
namespace L2
open PySem PySem.Spec PyProof.Rows
section
variable {prog : Program} {w : World} {A : Around} {R : Result → Shared → Prop} {s : Shared}
end
/-- the block of a comprehension: its own frame's dict at C, the cells of the names that it takes from around it -/
noncomputable def cxComp (X : Cx) (scope : Scope) (cl : List (Str × Addr)) (Nc : List Str) (C : Addr) (s₂ : Shared) (H2 : Hp) (fp : List Addr) : Cx where
  prog := X.prog
  w := X.w
  K := X.K
  mg := X.mg
  base := X.base
  A := X.A
  N := Nc
  s₀ := s₂
  H₀ := H2
  env := compEnvC scope cl C X.env
  outer := X.stack
  stack := X.stack
  ex := fp
  fn := fun _ => false
  calm := true
  pn := []
  xe := fun _ _ => False
noncomputable def inner (σ : St) (fr : List Nat) : St := fr.map fun j => (σ[j]?).join
end L2


set_option Elab.async false
set_option linter.all false
set_option maxRecDepth 100000
/-! list(reversed(xs)); two lists of the same things -/
namespace L2
open PySem PySem.Spec PyProof.Rows
theorem gv_nolen_lri : typeLookup (.type "list_reverseiterator") "__len__" = pure none := by rw [typeLookup_type, builtinLookup_eq_fast]; kernel_rfl
theorem gv_hint_lri : typeLookup (.type "list_reverseiterator") "__length_hint__" = pure (some (.builtin "list_reverseiterator.__length_hint__")) := by rw [typeLookup_type, builtinLookup_eq_fast]; kernel_rfl
section
variable {prog : Program} {w : World} {A : Around} {s : Shared} {R : Result → Shared → Prop}
theorem gv_walks_rev (hh : A.handled = none) (I l : Addr) (hne : l ≠ I) (items : Array Value) :
    WalksS prog w A I [I, l] [I] (fun a b => a = b) items.size (fun i v => items[items.size - 1 - i]? = some v) (fun i s => i ≤ items.size ∧ s.heap.IsRevIter I l ((items.size : Int) - 1 - (i : Int)) ∧ s.heap.IsList l items) where
  sub := fun b hb => by simp at hb; simp [hb]
  grefl := fun _ => rfl
  gtrans := fun _ _ _ h g => h.trans g
  frame := fun _ _ _ _ x _ hk => ⟨x.1, x.2.1.at fun o e => hk I (by simp) o e, x.2.2.at fun o e => hk l (by simp) o e⟩
  item := fun i s Q E hi x hQ => by
    have e : (items.size : Int) - 1 - (i : Int) = ((items.size - 1 - i : Nat) : Int) := by omega
    have hit := x.2.1
    rw [e] at hit
    have hx : items[items.size - 1 - i]? = some (items[items.size - 1 - i]'(by omega)) := Array.getElem?_eq_getElem (by omega)
    refine wpAny_pyNext_rev_item hit x.2.2 hx fun h' hit' hs' => ?_
    have e2 : ((items.size - 1 - i : Nat) : Int) - 1 = (items.size : Int) - 1 - ((i + 1 : Nat) : Int) := by omega
    rw [e2] at hit'
    exact hQ _ { s with heap := h' } hx ⟨hi, hit', x.2.2.at fun o eo => (hs'.2 l hne).trans eo⟩ ⟨fun b o hb eo => hs'.extBut b o (fun h => hb (by simp [h])) eo, rfl, rfl, rfl, Nat.le_refl _⟩
  done := fun s Q E x hQ => by
    have e : (items.size : Int) - 1 - (items.size : Int) = -1 := by omega
    have hit := x.2.1
    rw [e] at hit
    exact wpAny_pyNext_rev_end hh hit fun h' he' => hQ { s with heap := h' } ⟨fun b o hb eo => he' b o (fun h => hb (by simp [h])) eo, rfl, rfl, rfl, Nat.le_refl _⟩
  self := fun _ _ _ _ x hQ => wpAny_pyIter_revIter x.2.1 hQ
variable {I : Addr} {fp wr : List Addr} {G : Array GenState → Array GenState → Prop} {n : Nat} {P : Nat → Value → Prop} {St : Nat → Shared → Prop}
theorem gv_extend_rev (W : WalksS prog w A.in1 I fp wr G n P St) (hT : ∀ i s, St i s → s.TypeIs (.ref I) "list_reverseiterator") (S : Addr) (res : Value) (c₀ : Nat) (hst : St 0 s) (hSf : S ∉ fp) (hI : I ∈ fp)
    (hS : s.heap.get? S = some { cls := .type "list", data := .seq #[] c₀ })
    (hR : ∀ s' acc' c', Moved (S :: wr) G s s' → s'.heap.get? S = some { cls := .type "list", dict := none, data := .seq acc' c', slots := #[] } → ItemsOf P acc' n → R (.ok (.ret res)) s') (hn : n ≤ sizeLine := by size_fits) :
    wpAny (model prog w) A.in1 (Builtin.List.listExtendWith (.ref S) (.ref I) res)
      (fun fin s' => match fin with | .done f => R (.ok f) s' | .again c' => c'.quiet = true ∧ codeAny (model prog w) A c' R s') (fun e s' => R (.error e) s') s := by
  have hSI : S ≠ I := fun e => hSf (e ▸ hI)
  unfold Builtin.List.listExtendWith
  refine wpAny_bind (wpAny_typeOf (hT 0 _ hst) ?_)
  have h1 : Builtin.List.listSameRef (.ref S) (.ref I) = false := by simp [Builtin.List.listSameRef, hSI]
  rw [if_neg (by rw [h1]; decide)]
  refine wpAny_bind (W.self 0 _ _ _ hst ?_)
  refine wpAny_bind (wpAny_holding ?_)
  unfold Builtin.List.listLengthHint
  refine wpAny_bind (wpAny_specialOf (hT 0 _ hst) gv_nolen_lri ?_)
  show wpAny _ A.in1 (specialOf (Value.ref I) (Str.ofString "__length_hint__") >>= _) _ _ _
  refine wpAny_bind (wpAny_specialOf (hT 0 _ hst) gv_hint_lri ?_)
  generalize hid : ("list_reverseiterator.__length_hint__" : String) = id0
  wp_delta
  rw [show splitId id0 = some ("list_reverseiterator", "__length_hint__") from by subst hid; decide +kernel]
  subst hid
  refine wpAny_bind (wpAny_isInstance (b := true) (hT 0 _ hst) (by rw [isSubtype_type]; kernel_rfl) ?_)
  refine wpAny_pure ?_
  rw [if_neg (by decide)]
  refine wpAny_pure ⟨plainId_quiet F.plain_extend_loop _, codeAny_extend_loopS W hn _ hSf _ n 0 _ _ _ rfl (Nat.zero_le _) hst hS (ItemsOf.nil P) fun s' acc' c' hm hS' hacc => ?_⟩
  exact hR s' acc' c' hm hS' hacc
theorem gv_list_init_rev (W : WalksS prog w A.in1 I fp wr G n P St) (hT : ∀ i s, St i s → s.TypeIs (.ref I) "list_reverseiterator") (S : Addr) (hst : St 0 s) (hSf : S ∉ fp) (hI : I ∈ fp)
    (hS : s.heap.get? S = some { cls := .type "list", data := .seq #[] })
    (hR : ∀ s' acc' c', Moved (S :: wr) G s s' → s'.heap.get? S = some { cls := .type "list", dict := none, data := .seq acc' c', slots := #[] } → ItemsOf P acc' n → R (.ok (.ret .none)) s') (hn : n ≤ sizeLine := by size_fits) :
    wpAny (model prog w) A.in1 (Builtin.«list.__init__» ⟨[.ref S, .ref I], []⟩)
      (fun fin s' => match fin with | .done f => R (.ok f) s' | .again c' => c'.quiet = true ∧ codeAny (model prog w) A c' R s') (fun e s' => R (.error e) s') s := by
  show wpAny _ A.in1 (do let old ← Builtin.List.listItems (.ref S); Builtin.List.listUpdate (.ref S) (fun _ => #[]); letGo old.toList.reverse; Builtin.List.listExtendWith (.ref S) (.ref I) .none) _ _ s
  refine wpAny_bind ?_
  unfold Builtin.List.listItems
  refine wpAny_bind (wpAny_seqItems hS rfl (wpAny_pure ?_))
  show wpAny _ A.in1 (updateSeq S (fun _ => #[]) >>= fun _ => letGo (#[] : Array Value).toList.reverse >>= fun _ => Builtin.List.listExtendWith (.ref S) (.ref I) .none) _ _ s
  refine wpAny_bind (wpAny_updateSeq hS rfl ?_)
  have hS₂ := Heap.get?_update_self (Obj.mapSeq (fun _ => (#[] : Array Value))) hS rfl
  have oth : ∀ b o, b ≠ S → s.heap.get? b = some o → (s.heap.update S (Obj.mapSeq (fun _ => (#[] : Array Value)))).get? b = some o :=
    fun b o hb e => (Heap.get?_update_other _ _ (Ne.symm hb)).trans e
  refine wpAny_bind (wpAny_letGo ?_)
  refine gv_extend_rev (hn := hn) W hT S .none _ (W.frame 0 s _ s.toks hst (Nat.le_refl _) fun b hb o e => oth b o (fun h => hSf (h ▸ hb)) e) hSf hI hS₂ fun s' acc' c' hm hS' hacc => ?_
  exact hR s' acc' c' (Moved.trans W.gtrans ((Moved.refl W.grefl).then_heap (Nat.le_refl _) fun b o hb e => oth b o (fun h => hb (h ▸ List.mem_cons_self)) e) hm) hS' hacc
end
section
variable {prog : Program} {w : World} {A : Around} {E : Value → Shared → Prop} {s : Shared}
variable {I : Addr} {fp wr : List Addr} {G : Array GenState → Array GenState → Prop} {n : Nat} {P : Nat → Value → Prop} {St : Nat → Shared → Prop}
theorem gv_call_list_rev {Q : Value → Shared → Prop} (W : WalksS prog w A.in1.in1 I fp wr G n P St) (hT : ∀ i s, St i s → s.TypeIs (.ref I) "list_reverseiterator") (hst : St 0 s) (hfp : ∀ b ∈ fp, b < s.heap.objs.size) (hI : I ∈ fp)
    (hQ : ∀ s' acc' c', Moved (s.heap.objs.size :: wr) G { s with heap := s.heap.push { cls := .type "list", data := .seq #[] } } s' →
      s'.heap.get? s.heap.objs.size = some { cls := .type "list", dict := none, data := .seq acc' c', slots := #[] } → ItemsOf P acc' n → Q (.ref s.heap.objs.size) s') (hn : n ≤ sizeLine := by size_fits) :
    wpAny (model prog w) A (call (.type "list") [.ref I]) Q E s := by
  have hSf : s.heap.objs.size ∉ fp := fun hm => Nat.lt_irrefl _ (hfp _ hm)
  refine callType_codes (Q₁ := fun obj s₁ => obj = .ref s.heap.objs.size ∧ s₁ = { s with heap := s.heap.push { cls := .type "list", data := .seq #[] } }) F.called_list (F.typeCall_list_1 _) F.entry_list_init
    (code_list_new _ ⟨rfl, rfl⟩) fun obj s₁ h₁ => ?_
  obtain ⟨rfl, rfl⟩ := h₁
  have hS : (s.heap.push { cls := .type "list", data := .seq #[] }).get? s.heap.objs.size = some { cls := .type "list", data := .seq #[] } := Heap.get?_push_size _ rfl
  refine ⟨⟨_, hS, rfl⟩, F.args_list_init_2 _ _, gv_list_init_rev (hn := hn) W hT _ (W.frame 0 s _ s.toks hst (Nat.le_refl _) fun b _ o e => Heap.get?_push_of_some _ e) hSf hI hS fun s' acc' c' hm hS' hacc => ?_⟩
  exact ⟨rfl, hQ s' acc' c' hm hS' hacc⟩
end
/-- list(reversed(e)), e a list -/
noncomputable def tRev (te : TE) : TE := fun σ H Q => te σ H fun x H1 => ∃ a xs, x = .ref a ∧ H1 a = some (.lst xs) ∧ ∀ l, H1 l = none → Q (.ref l) (upd H1 l (.lst xs.reverse))
theorem rev_items {its : List Value} {acc : Array Value} (h : ItemsOf (fun i v => its.toArray[its.toArray.size - 1 - i]? = some v) acc its.toArray.size) : acc.toList = its.reverse := by
  obtain ⟨h1, h2⟩ := h
  have sz : its.toArray.size = its.length := by simp
  refine List.ext_getElem? fun j => ?_
  by_cases hj : j < acc.size
  · have e := h2 j acc[j] (Array.getElem?_eq_getElem hj)
    rw [Array.getElem?_toList, Array.getElem?_eq_getElem hj]
    rw [sz] at h1 e
    rw [List.getElem?_reverse (by omega)]
    rw [← e]
    simp
  · rw [Array.getElem?_toList, Array.getElem?_eq_none (by omega), List.getElem?_eq_none (by rw [List.length_reverse]; omega)]
theorem pe_listrev {X : Cx} {e : Expr} {te : TE} {p1 p2 pos pos2 : Pos} (hc : X.calm = true) (hgL : Gl X "list") (hmL : X.mg "list" = none) (hgR : Gl X "reversed") (hmR : X.mg "reversed" = none) (ha : PE X e te) (hs : noStar e = true := by rfl) :
    PE X (.Call (.Name "list" p1) [.Call (.Name "reversed" p2) [e] [] pos2] [] pos) (tRev te) := by
  intro pins s σ H Q I h
  refine wpAny_Call_Name_kw (ld_blt I hgL hmL boot_list ?_)
  refine PyProof.Rows.callWith_type1 ?_ rfl rfl
  rw [star_cons (show noStar (.Call (.Name "reversed" p2) [e] [] pos2) = true from rfl)]
  show wpAny _ _ (spliced ((false, eval (.Call (.Name "reversed" p2) [e] [] pos2) X.env) :: backTo pos (starEach [] X.env))) _ _ s
  refine Calls.spliced_cons (wpAny_Call_Name_kw (ld_blt I hgR hmR boot_reversed ?_))
  refine PyProof.Rows.callWith_type1 ?_ (star_cons hs) rfl
  rw [star_cons hs]
  show wpAny _ _ (spliced ((false, eval e X.env) :: backTo pos2 (starEach [] X.env))) _ _ s
  refine Calls.spliced_cons (thn (ha pins s σ H _ I h) fun u s1 zz => ?_)
  obtain ⟨x, H1, I1, r1, q1⟩ := zz
  obtain ⟨a, xs, ex, ha1, q⟩ := q1
  subst ex
  cases r1
  refine Calls.spliced_nil ?_
  obtain ⟨_, its, n, rv, hl, e1⟩ := I1.lstM ha1
  refine call_reversed_list (items := its.toArray) ⟨_, e1, rfl, n, rfl⟩ ?_
  refine Calls.spliced_nil ?_
  -- the iterator is there, untracked
  have hh : X.A.handled = none := I1.ok.hd hc
  have alt : a < s1.heap.objs.size := Heap.lt_size e1
  have kp : ∀ b o, s1.heap.get? b = some o → (s1.heap.push (revObj a ((its.toArray.size : Int) - 1))).get? b = some o := fun b o e => Heap.get?_push_of_some _ e
  have hit : (s1.heap.push (revObj a ((its.toArray.size : Int) - 1))).get? s1.heap.objs.size = some (revObj a ((its.toArray.size : Int) - 1)) := Heap.get?_push_size _ rfl
  have I2 : Inv X pins σ H1 { s1 with heap := s1.heap.push (revObj a ((its.toArray.size : Int) - 1)) } := I1.kept (t' := s1.toks) kp
  have W := gv_walks_rev (prog := X.prog) (w := X.w) (A := X.A.in1.in1) hh s1.heap.objs.size a (Nat.ne_of_lt alt) its.toArray
  have sz2 : (s1.heap.push (revObj a ((its.toArray.size : Int) - 1))).objs.size = s1.heap.objs.size + 1 := Heap.size_push ..
  refine gv_call_list_rev (s := { s1 with heap := s1.heap.push (revObj a ((its.toArray.size : Int) - 1)) }) W (fun i s st => st.2.1.typeIs) ⟨Nat.zero_le _, ⟨_, hit, rfl, by show Data.fields _ = Data.fields _; simp⟩, ⟨_, kp _ _ e1, rfl, n, rfl⟩⟩ (fun b hb => ?_) (by simp) (fun s' acc' c' hm hS' hacc => ?_) ?_
  · show b < (s1.heap.push (revObj a ((its.toArray.size : Int) - 1))).objs.size
    rw [sz2]
    rcases List.mem_cons.mp hb with z | z
    · rw [z]; exact Nat.lt_succ_self _
    · rw [List.mem_singleton.mp z]; exact Nat.lt_succ_of_lt alt
  · have hS : H1 (s1.heap.push (revObj a ((its.toArray.size : Int) - 1))).objs.size = none := I2.hok.fresh (Nat.le_refl _)
    have hn0 : H1 s1.heap.objs.size = none := I1.hok.fresh (Nat.le_refl _)
    have old : ∀ b o, b ≠ s1.heap.objs.size → (s1.heap.push (revObj a ((its.toArray.size : Int) - 1))).get? b = some o → s'.heap.get? b = some o := fun b o hb e =>
      hm.heap b o (fun z => by
        rcases List.mem_cons.mp z with z | z
        · exact absurd (Heap.lt_size e) (by rw [z]; exact Nat.lt_irrefl _)
        · exact hb (List.mem_singleton.mp z)) (Heap.get?_push_of_some _ e)
    have neS : ∀ b o, (s1.heap.push (revObj a ((its.toArray.size : Int) - 1))).get? b = some o → b ≠ (s1.heap.push (revObj a ((its.toArray.size : Int) - 1))).objs.size := fun b o e => Nat.ne_of_lt (Heap.lt_size e)
    have tr : ∀ b u, H1 b = some u → b ≠ (s1.heap.push (revObj a ((its.toArray.size : Int) - 1))).objs.size ∧ b ≠ s1.heap.objs.size := fun b u e => ⟨ne_of_none e hS, ne_of_none e hn0⟩
    have items := rev_items hacc
    have hok : HOk X.prog X.w (upd H1 (s1.heap.push (revObj a ((its.toArray.size : Int) - 1))).objs.size (.lst xs.reverse)) s'.heap := fun b u e => by
      by_cases hb : b = (s1.heap.push (revObj a ((its.toArray.size : Int) - 1))).objs.size
      · subst hb
        rw [upd_same] at e
        cases e
        refine ⟨by rw [List.length_reverse, hl]; have := (show its.length ≤ sizeLine from by rw [← hl]; exact (I1.lstM ha1).1); exact this, its.reverse, c', rv.reverse, ?_⟩
        rw [← items]
        exact hS'
      · rw [upd_ne hb] at e
        refine (I2.hok b u e).stay (fun c v hc' q => old c v ?_ q) (fun c z => by rw [upd_ne (tr c _ z).1]; exact z) fun c ys z => by rw [upd_ne (tr c _ z).1]; exact z
        rcases hc' with z | z
        · rw [z]; exact (tr b u e).2
        · exact (tr c _ z).2
    obtain ⟨hh', g', d', t', os'⟩ := s'
    have e1' : os' = s1.os := hm.os
    have e2' : s1.gens = g' := hm.gens
    subst e1'
    have J := I2.step (h' := hh') (H' := upd H1 (s1.heap.push (revObj a ((its.toArray.size : Int) - 1))).objs.size (.lst xs.reverse)) (ch := [s1.heap.objs.size]) (g' := g') (t' := t') (d' := d') (fun b hb => by
        rw [List.mem_singleton.mp hb]
        refine ⟨.inr I1.sz, Nat.ne_of_gt I1.lt, fun z c ec => ?_, fun p hp => ?_⟩
        · obtain ⟨v', hcell⟩ := I1.cell z c ec
          exact Nat.ne_of_lt hcell.lt
        · exact Nat.ne_of_lt (Heap.lt_size (I1.pin p hp).1)) (fun b o _ _ hc' e _ => old b o (fun z => hc' (by simp [z])) e) (fun b o _ _ hc' e _ => ⟨o.slots, old b o (fun z => hc' (by simp [z])) e⟩)
      (fun b o _ e n => by rw [upd_ne (neS b o e)]; exact n) (fun b o hc' e => ⟨o, old b o (fun z => hc' (by simp [z])) e⟩) (fun b ys z => by rw [upd_ne (tr b _ z).1]; exact z) (fun b o' ys z => by rw [upd_ne (tr b _ z).1]; exact z)
      (fun b ps z => ⟨#[], by rw [upd_ne (tr b _ z).1, z]; simp⟩) (fun m hm' => by
        obtain ⟨o, es, ep, ho, r⟩ := hm'
        exact ⟨o, es, ep, old _ o (Nat.ne_of_lt I1.lt) ho, r⟩) hok (by rw [← e2']; exact I1.bare)
    exact ⟨.ref _, _, J, rfl, q _ hS⟩
  · have := (I1.lstM ha1).1
    rw [List.size_toArray, ← hl]; exact this
namespace R
variable {X : Cx}
theorem pe_listrev {e : Expr} {te : TE} {p1 p2 pos pos2 : Pos} (hc : X.calm = true) (hgL : Gl X "list") (hmL : X.mg "list" = none) (hgR : Gl X "reversed") (hmR : X.mg "reversed" = none) (ha : QE X e te) (hs : noStar e = true := by rfl) :
    QE X (.Call (.Name "list" p1) [.Call (.Name "reversed" p2) [e] [] pos2] [] pos) (tRev te) := ⟨L2.pe_listrev hc hgL hmL hgR hmR ha.h hs⟩
end R
end L2
namespace L2
open PySem PySem.Spec PyProof.Rows
end L2
namespace L2
open PySem PySem.Spec PyProof.Rows
end L2


set_option Elab.async false
set_option linter.all false
set_option maxRecDepth 100000
/-! raise, try, except, isinstance: exceptions of own classes -/
namespace L2
open PySem PySem.Spec PyProof.Rows PySem.W

/-! ### an exception of an own class on its way -/


section
open Builtin Builtin.ObjectAttr Builtin.Getset_descriptor
variable {prog : Program} {w : World} {A : Around} {E : Value → Shared → Prop} {h : Heap} {g : Array GenState} {d : Drawn} {t : Nat} {os : OsState} {a C : Addr} {o : Obj} {K : Frag}


end

/-! ### isinstance of an exception -/

/-! ### calls where an exception is handled -/
/-! ### except D as n: D an own class; the suite returns -/
section
variable {M : Model} {A : Around} {E : Value → Shared → Prop} {h : Heap} {g : Array GenState} {d : Drawn} {t : Nat} {os : OsState} {a C D : Addr} {o oD : Obj} {K : Frag} {dD : Option Addr} {cD : ClassData} {sD : Array (Option Value)}
end


/-! ### the text's own class, by the written part -/

/-! ### defs that raise, defs that are called in a handler -/
section
variable {P : Program} {w : World} {K : PySem.W.Frag} {mg : Str → Option Value} {base : Heap}
end
namespace R
section
variable {X : Cx} {e : Expr} {es : List Expr} {te : TE} {t : TA} {pos p : Pos}
end
end R
end L2


set_option Elab.async false
set_option linter.all false
set_option maxRecDepth 100000
/-! an exception that passes through a def; raises in loops -/
namespace L2
open PySem PySem.Spec PyProof.Rows PySem.W
section
variable {P : Program} {w : World} {K : PySem.W.Frag} {mg : Str → Option Value} {base : Heap}
end
namespace R
end R
end L2


set_option Elab.async false
set_option linter.all false
set_option maxRecDepth 100000
/-! [elt for target in iter if test], anywhere -/
namespace L2
open PySem PySem.Spec PyProof.Rows
/-! ### the cells that a comprehension takes from around it -/
noncomputable def clOf (cells : List (Str × Addr)) : List (Str × NameKind) → List (Str × Addr) → List (Str × Addr)
  | [], acc => acc
  | (n, k) :: r, acc => if (k == .free) = true then clOf cells r ((n, (cells.lookup n).getD 0) :: acc) else clOf cells r acc
theorem clOf_run {env : Env} : ∀ (names : List (Str × NameKind)) (acc : List (Str × Addr)), (∀ y ∈ names, y.2 = .free → ∃ c, env.cells.lookup y.1 = some c) →
    (forIn names acc fun (x : Str × NameKind) (r : List (Str × Addr)) => (if (x.2 == .free) = true then do let a ← cellOf env x.1; pure (ForInStep.yield ((x.1, a) :: r)) else pure (ForInStep.yield r) : Sem (ForInStep (List (Str × Addr))))) = (pure (clOf env.cells names acc) : Sem _)
  | [], acc, _ => rfl
  | (n, k) :: r, acc, h => by
    have ih := fun acc => clOf_run (env := env) r acc fun y hy => h y (List.mem_cons_of_mem _ hy)
    rw [List.forIn_cons]
    cases hk : (k == NameKind.free) with
    | false =>
      have e1 : clOf env.cells ((n, k) :: r) acc = clOf env.cells r acc := by
        show (if (k == NameKind.free) = true then _ else _) = _
        rw [hk]; rfl
      rw [e1, ← ih acc]
      rfl
    | true =>
      have hk' : k = .free := by simpa using hk
      obtain ⟨c, hc⟩ := h (n, k) List.mem_cons_self hk'
      have e1 : clOf env.cells ((n, k) :: r) acc = clOf env.cells r ((n, c) :: acc) := by
        show (if (k == NameKind.free) = true then clOf env.cells r ((n, (env.cells.lookup n).getD 0) :: acc) else _) = _
        rw [hk, show env.cells.lookup n = some c from hc]; rfl
      rw [e1, ← ih]
      have e2 : cellOf env n = pure c := by
        unfold cellOf
        rw [show env.cells.lookup n = some c from hc]
      rw [show cellOf env (n, k).fst = pure c from e2]; rfl
theorem closure_of {scope : Scope} {env : Env} (h : ∀ y ∈ scope.names, y.2 = .free → ∃ c, env.cells.lookup y.1 = some c) : closureFor scope env = pure (clOf env.cells scope.names []) := by
  have q := clOf_run (env := env) scope.names [] h
  have e : closureFor scope env = Bind.bind (forIn scope.names [] fun (x : Str × NameKind) (r : List (Str × Addr)) => (if (x.2 == .free) = true then do let a ← cellOf env x.1; pure (ForInStep.yield ((x.1, a) :: r)) else pure (ForInStep.yield r) : Sem (ForInStep (List (Str × Addr))))) (fun r => pure r) := rfl
  rw [e, q]; rfl
theorem clOf_acc {cells : List (Str × Addr)} {z : Str} : ∀ (names : List (Str × NameKind)) (acc : List (Str × Addr)), (acc.lookup z).isSome = true → ((clOf cells names acc).lookup z).isSome = true
  | [], _, h => h
  | (n, k) :: r, acc, h => by
    unfold clOf
    split
    · refine clOf_acc r _ ?_
      rw [List.lookup_cons]
      cases (z == n)
      · exact h
      · rfl
    · exact clOf_acc r _ h
theorem clOf_has {cells : List (Str × Addr)} {z : Str} : ∀ (names : List (Str × NameKind)) (acc : List (Str × Addr)), (z, NameKind.free) ∈ names → ((clOf cells names acc).lookup z).isSome = true
  | [], _, h => nomatch h
  | (n, k) :: r, acc, h => by
    unfold clOf
    rcases List.mem_cons.mp h with e | h
    · cases e
      rw [if_pos (by rfl)]
      refine clOf_acc r _ ?_
      rw [List.lookup_cons, show (z == z) = true from by simp]; rfl
    · split
      · exact clOf_has r _ h
      · exact clOf_has r _ h
theorem clOf_sub {cells : List (Str × Addr)} {z : Str} {c : Addr} : ∀ (names : List (Str × NameKind)) (acc : List (Str × Addr)), (∀ y ∈ names, y.2 = .free → ∃ c, cells.lookup y.1 = some c) → (∀ z c, acc.lookup z = some c → cells.lookup z = some c) →
    (clOf cells names acc).lookup z = some c → cells.lookup z = some c
  | [], _, _, h, e => h _ _ e
  | (n, k) :: r, acc, hn, h, e => by
    unfold clOf at e
    split at e
    · rename_i hk
      have hk' : k = .free := by simpa using hk
      obtain ⟨c', hc⟩ := hn (n, k) List.mem_cons_self hk'
      refine clOf_sub r _ (fun y hy => hn y (List.mem_cons_of_mem _ hy)) (fun z1 c1 e9 => ?_) e
      rw [show cells.lookup n = some c' from hc] at e9
      rw [List.lookup_cons] at e9
      cases hz : (z1 == n) with
      | false => rw [hz] at e9; exact h _ _ e9
      | true =>
        rw [hz] at e9
        have hz' : z1 = n := by simpa using hz
        rw [hz', show cells.lookup n = some c' from hc]
        exact e9
    · exact clOf_sub r _ (fun y hy => hn y (List.mem_cons_of_mem _ hy)) h e
structure CompOk2 (X : Cx) (scope : Scope) (cl : List (Str × Addr)) (xs ns : List Str) (fr : List Nat) : Prop where
  clos : closureFor scope X.env = pure cl
  sub : ∀ z c, cl.lookup z = some c → X.env.cells.lookup z = some c
  kind : scope.kind = .function
  nocell : ∀ y ∈ scope.names, y.2 ≠ .cell
  names : ∀ y ∈ scope.names, y.2 = .local → scope.names.lookup y.1 = some .local
  has : ∀ z, ((relabel scope X.env).names.lookup z = some .cell ∨ (relabel scope X.env).names.lookup z = some .free) → ∃ c, cl.lookup z = some c
  out : ∀ (j : Nat) (z : Str), ns[j]? = some z → ∃ i, fr[j]? = some i ∧ X.N[i]? = some z ∧ X.env.scope.names.lookup z = some .cell ∧ (relabel scope X.env).names.lookup z = some .cell
  len : fr.length = ns.length
/-- what can be looked at: the scope around, the comprehension's, the names -/
noncomputable def compB (sc cs : List (Str × NameKind)) (N ns : List Str) (fr : List Nat) : Bool :=
  cs.all (fun y => y.2 != .cell) && cs.all (fun y => y.2 != .local || cs.lookup y.1 == some .local) && cs.all (fun y => y.2 != .free || sc.lookup y.1 == some .cell)
    && (fr.length == ns.length) && (List.range ns.length).all (fun j => match ns[j]?, fr[j]? with
      | some z, some i => N[i]? == some z && sc.lookup z == some .cell && cs.lookup z == some .free
      | _, _ => false)
theorem lookup_relabel_free {env : Env} (hk : env.scope.kind = .function) : ∀ {names : List (Str × NameKind)} {x : Str}, names.lookup x = some .free → env.kindOf x = some .cell →
    (names.map fun (n, k) => if (k == NameKind.free && env.scope.kind == .function && env.kindOf n == some .cell) then (n, NameKind.cell) else (n, k)).lookup x = some .cell
  | [], _, h, _ => by simp at h
  | (n, k) :: r, x, h, hc => by
    have ih := @lookup_relabel_free env hk r x
    show List.lookup x ((if (k == NameKind.free && env.scope.kind == .function && env.kindOf n == some .cell) = true then (n, NameKind.cell) else (n, k)) :: _) = _
    cases hx : x == n with
    | true =>
      have e : x = n := by simpa using hx
      simp only [List.lookup_cons, hx] at h
      cases h
      subst e
      rw [if_pos (by rw [hk, hc]; decide)]
      simp only [List.lookup_cons, hx]
    | false =>
      simp only [List.lookup_cons, hx] at h
      by_cases hc' : (k == NameKind.free && env.scope.kind == .function && env.kindOf n == some .cell) = true
      · rw [if_pos hc']; simp only [List.lookup_cons, hx]; exact ih h hc
      · rw [if_neg hc']; simp only [List.lookup_cons, hx]; exact ih h hc
theorem relabel_mem {env : Env} : ∀ {names : List (Str × NameKind)} {x : Str} {k : NameKind},
    (names.map fun (n, k) => if (k == NameKind.free && env.scope.kind == .function && env.kindOf n == some .cell) then (n, NameKind.cell) else (n, k)).lookup x = some k → (∀ y ∈ names, y.2 ≠ .cell) → (k = .cell ∨ k = .free) → (x, NameKind.free) ∈ names
  | [], _, _, h, _, _ => by simp at h
  | (n, k0) :: r, x, k, h, hn, hk => by
    have ih := @relabel_mem env r x k
    have h' : List.lookup x ((if (k0 == NameKind.free && env.scope.kind == .function && env.kindOf n == some .cell) = true then (n, NameKind.cell) else (n, k0)) :: r.map fun (n, k) => if (k == NameKind.free && env.scope.kind == .function && env.kindOf n == some .cell) then (n, NameKind.cell) else (n, k)) = some k := h
    cases hx : x == n with
    | false =>
      refine List.mem_cons_of_mem _ (ih ?_ (fun y hy => hn y (List.mem_cons_of_mem _ hy)) hk)
      by_cases hc' : (k0 == NameKind.free && env.scope.kind == .function && env.kindOf n == some .cell) = true
      · rw [if_pos hc'] at h'; simpa only [List.lookup_cons, hx] using h'
      · rw [if_neg hc'] at h'; simpa only [List.lookup_cons, hx] using h'
    | true =>
      have e : x = n := by simpa using hx
      subst e
      by_cases hc' : (k0 == NameKind.free && env.scope.kind == .function && env.kindOf x == some .cell) = true
      · have : k0 = .free := by
          rw [Bool.and_eq_true, Bool.and_eq_true] at hc'
          simpa using hc'.1.1
        rw [this]; exact List.mem_cons_self
      · rw [if_neg hc'] at h'
        simp only [List.lookup_cons, hx] at h'
        have : k0 = k := Option.some.inj h'
        subst this
        rcases hk with e | e
        · exact absurd e (hn (x, k0) List.mem_cons_self)
        · rw [e]; exact List.mem_cons_self
theorem CompOk2.of {X : Cx} {scope sc : Scope} {N xs ns : List Str} {fr : List Nat} (hsc : X.env.scope = sc) (hN : X.N = N) (hcl : ∃ n, X.env.cells = cellsFrom n X.env.scope.names []) (hk : X.env.scope.kind = .function) (kind : scope.kind = .function)
    (h : compB sc.names scope.names N ns fr = true) : CompOk2 X scope (clOf X.env.cells scope.names []) xs ns fr := by
  subst hsc hN
  unfold compB at h
  rw [Bool.and_eq_true, Bool.and_eq_true, Bool.and_eq_true, Bool.and_eq_true] at h
  obtain ⟨⟨⟨⟨h1, h2⟩, h3⟩, h4⟩, h5⟩ := h
  have n1 : ∀ y ∈ scope.names, y.2 ≠ .cell := fun y hy e => by
    have := List.all_eq_true.mp h1 y hy
    rw [e] at this; cases this
  have n2 : ∀ y ∈ scope.names, y.2 = .local → scope.names.lookup y.1 = some .local := fun y hy e => by
    have := List.all_eq_true.mp h2 y hy
    rw [e] at this
    simpa using this
  have n3 : ∀ y ∈ scope.names, y.2 = .free → X.env.scope.names.lookup y.1 = some .cell := fun y hy e => by
    have := List.all_eq_true.mp h3 y hy
    rw [e] at this
    simpa using this
  have n4 : ∀ y ∈ scope.names, y.2 = .free → ∃ c, X.env.cells.lookup y.1 = some c := fun y hy e => by
    obtain ⟨n, hn⟩ := hcl
    rw [hn]
    exact cell_has (n3 y hy e)
  refine ⟨closure_of n4, fun z c e => clOf_sub _ [] n4 (fun z c e => by cases e) e, kind, n1, n2, fun z hz => ?_, fun j z e => ?_, by simpa using h4⟩
  · refine Option.isSome_iff_exists.mp (clOf_has _ [] ?_)
    rcases hz with q | q
    · exact relabel_mem q n1 (.inl rfl)
    · exact relabel_mem q n1 (.inr rfl)
  · have hj : j < ns.length := (List.getElem?_eq_some_iff.mp e).1
    have := List.all_eq_true.mp h5 j (List.mem_range.mpr hj)
    rw [e] at this
    have h4' : fr.length = ns.length := by simpa using h4
    have hj' : j < fr.length := by rw [h4']; exact hj
    rw [List.getElem?_eq_getElem hj'] at this
    have this' : (X.N[fr[j]]? == some z && X.env.scope.names.lookup z == some .cell && scope.names.lookup z == some .free) = true := this
    rw [Bool.and_eq_true, Bool.and_eq_true] at this'
    obtain ⟨⟨a1, a2⟩, a3⟩ := this'
    have a2' : X.env.scope.names.lookup z = some .cell := by simpa using a2
    exact ⟨fr[j], List.getElem?_eq_getElem hj', by simpa using a1, a2', lookup_relabel_free hk (by simpa using a3) a2'⟩
/-! ### the tests of a comprehension -/
noncomputable def PF (X : Cx) (ifs : List Expr) (t : TT) : Prop :=
  ∀ (pins : List (Addr × Obj)) (s : Shared) (σ : St) (H : Hp) (Q : Bool → Hp → Prop), Inv X pins σ H s → t σ H Q →
    wpAny (model X.prog X.w) X.A (forIn ifs true fun c r => if r = true then do let ok ← isTrue c X.env (eval c X.env); pure (ForInStep.yield ok) else pure (ForInStep.yield r)) (TP X pins σ Q) X.xe s
noncomputable def fNil : TT := fun _ H Q => Q true H
theorem pf_nil {X : Cx} : PF X [] fNil := fun pins s σ H Q I h => wpAny_tests_nil ⟨H, I, h⟩
theorem pf_one {X : Cx} {c : Expr} {t : TT} (h : PT X c t) : PF X [c] t := fun pins s σ H Q I hw => wpAny_tests_one (h pins s σ H Q I hw)
section
variable {prog : Program} {w : World} {A : Around} {R : Result → Shared → Prop} {s : Shared}
theorem comp_loop2 {elt target iter : Expr} {ifs : List Expr} {scope : Scope} {pos : Pos} {it acc : Value} {env : Env} (I : Nat → Shared → Prop)
    (turn : ∀ n s, I n s → wpAny (model prog w) A (pyNext it) (fun r s₁ => match r with
      | none => R (.ok .next) s₁
      | some v => wpAny (model prog w) A (letOwnedTupleGo target it v) (fun _ s₁' => wpAny (model prog w) A (assign target env v) (fun _ s₂ =>
          wpAny (model prog w) A (forIn ifs true fun c r => if r = true then do let ok ← isTrue c env (eval c env); pure (ForInStep.yield ok) else pure (ForInStep.yield r)) (fun ok s₂' => if ok = true then wpAny (model prog w) A (eval elt env) (fun x s₃ =>
            wpAny (model prog w) A (call (.builtin "list.append") [acc, x]) (fun _ s₄ => ∃ m, m < n ∧ I m s₄) (notedBy (model prog w) A env fun e s' => R (.error e) s') s₃) (notedBy (model prog w) A env fun e s' => R (.error e) s') s₂'
            else ∃ m, m < n ∧ I m s₂') (notedBy (model prog w) A env fun e s' => R (.error e) s') s₂)
          (notedBy (model prog w) A env fun e s' => R (.error e) s') s₁') (notedBy (model prog w) A env fun e s' => R (.error e) s') s₁) (notedBy (model prog w) A env fun e s' => R (.error e) s') s)
    (n : Nat) (h : I n s) : codeAny (model prog w) A (.compLoop (.ListComp elt [⟨target, iter, ifs, 0⟩] scope pos) 0 it acc env) R s := by
  refine codeAny_loop rfl I (fun n s hI => ?_) n h
  show wpAny _ A ((compTurn (.ListComp elt [⟨target, iter, ifs, 0⟩] scope pos) 0 it acc env).onRaise (fun x => do noteFrame x env; theTreesLotGoes x)) _ _ s
  refine wpAny_noted ?_
  rw [compTurn_list]
  refine wpAny_bind (wpAny_standAt (wpAny_bind (wpAny_mono (turn n s hI) (fun r s₁ h₁ => ?_) fun _ _ h' => h')))
  cases r with
  | none => exact wpAny_pure h₁
  | some v =>
    refine wpAny_bind (wpAny_mono h₁ (fun _ s₀ h₀' => ?_) fun _ _ h' => h')
    refine wpAny_bind (wpAny_mono h₀' (fun _ s₂ h₂ => ?_) fun _ _ h' => h')
    refine wpAny_bind (wpAny_mono h₂ (fun okb s₃ h₃ => ?_) fun _ _ h' => h')
    cases okb with
    | false => exact wpAny_pure ⟨rfl, h₃⟩
    | true => exact wpAny_bind (wpAny_bind (wpAny_mono h₃ (fun x s₄ h₄ => wpAny_bind (wpAny_mono h₄ (fun _ s₅ h₅ => wpAny_pure (wpAny_pure ⟨rfl, h₅⟩)) fun _ _ h' => h')) fun _ _ h' => h'))
end
/-- the end of a comprehension's reading: J the iterator; Pv k: behind k turns -/
noncomputable def CompGoal (J : It) (nx : Nat) (g : TG) (fr : List Nat) (tt : TT) (te : TE) (σ : St) (Q : VK) (H1 : Hp) (l : Addr) : Prop :=
  ∃ W : Nat → Nat → Hp → Prop, (∃ m, W 0 m (upd H1 l (.lst []))) ∧ ∀ k m H, W k m H →
    (J.stop k H ∧ Q (.ref l) H) ∨ (J.go k H ∧ ∀ v H', J.yld k H v H' → ∀ os : St, os.length = nx → g v (os ++ inner σ fr) H' fun σ2 H2 => (∃ os' : St, os'.length = nx ∧ σ2 = os' ++ inner σ fr) ∧ tt σ2 H2 fun b H3 =>
      if b = true then te σ2 H3 fun y H4 => ∃ zs m', H4 l = some (.lst zs) ∧ zs.length < sizeLine ∧ m' < m ∧ W (k + 1) m' (upd H4 l (.lst (zs ++ [y]))) else ∃ m', m' < m ∧ W (k + 1) m' H3)
/-- nx: how many names the target has; fr: where the names that it takes from around stand there -/
noncomputable def tCompE (wi : TI) (nx : Nat) (fr : List Nat) (g : TG) (tt : TT) (te : TE) : TE := fun σ H Q => wi σ H fun J H1 => ∀ l, H1 l = none → CompGoal J nx g fr tt te σ Q H1 l
theorem comp_all {X : Cx} {pins : List (Addr × Obj)} {σ : St} {H : Hp} {s : Shared} {tg iter elt : Expr} {ifs : List Expr} {scope : Scope} {pos pos' : Pos} {cl : List (Str × Addr)} {xs ns : List Str} {fr : List Nat} {wi : TI} {g : TG} {tt : TT} {te : TE}
    {use : Option (Value → Sem Unit)} {Qv : Value → Shared → Prop} {R : VK}
    (hc : X.calm = true) (ok : CompOk2 X scope cl xs ns fr) (hI : PI X tg iter wi) (hg : ∀ C s₂ H2 fp, PG (cxComp X scope cl (xs ++ ns) C s₂ H2 fp) tg g) (hf : ∀ C s₂ H2 fp, PF (cxComp X scope cl (xs ++ ns) C s₂ H2 fp) ifs tt)
    (he : ∀ C s₂ H2 fp, PE (cxComp X scope cl (xs ++ ns) C s₂ H2 fp) elt te) (hs : ∀ x, foldedSetIterable iter X.env x = pure x)
    (I : Inv X pins σ H s) (h : tCompE wi xs.length fr g tt te σ H R)
    (fin : ∀ (C l : Addr) (m : Str → Option Value) (s4 : Shared) (Hk : Hp), Inv X pins σ Hk s4 → s4.heap.Ns C m → Hk C = none → C ≠ X.env.locals → (∀ z c, X.env.cells.lookup z = some c → c ≠ C) → X.s₀.heap.objs.size ≤ C → (∀ p ∈ X.pn ++ pins, p.1 ≠ C) →
      R (.ref l) Hk → compPost (model X.prog X.w) X.A X.xe use Qv (.ref l) C (.ok .next) s4) :
    wpAny (model X.prog X.w) X.A (comprehension (.ListComp elt [⟨tg, iter, ifs, 0⟩] scope pos) scope X.env pos' (newList []) false (eval iter X.env) use) Qv X.xe s := by
  refine wpAny_comprehension_free (use := use) rfl hs ok.clos ok.kind ok.names ?_
  refine thn (hI pins s σ H _ I h) fun v s1 h1 => thn h1 fun itv s2 h2 => ?_
  obtain ⟨it, fp, tn, J, H2, rfl, I2, T, st2, f2, rd⟩ := h2
  refine wpAny_newObj_type (wpAny_newFunctionEnv ok.nocell (by intro y hy; simp at hy) (fun h₁ hns₁ hsb₁ => ?_) ok.kind)
  dsimp only at hns₁ hsb₁ ⊢
  generalize hG : s2.heap.push { cls := .type "list", dict := none, data := .seq ([] : List Value).toArray } = G at hns₁ hsb₁ ⊢
  have hC : G.objs.size = s2.heap.objs.size + 1 := by rw [← hG, Heap.size_push]
  have below : ∀ b, b < s2.heap.objs.size → b ≠ G.objs.size ∧ b ≠ s2.heap.objs.size := fun b hb => ⟨by rw [hC]; exact Nat.ne_of_lt (Nat.lt_succ_of_lt hb), Nat.ne_of_lt hb⟩
  have old : ∀ b o, s2.heap.get? b = some o → h₁.get? b = some o := fun b o e => hsb₁.extBut b o (below b (Heap.lt_size e)).1 (Heap.get?_push_of_some _ (hG ▸ Heap.get?_push_of_some _ e))
  have hacc : h₁.get? s2.heap.objs.size = some { cls := .type "list", data := .seq ([] : List Value).toArray } :=
    hsb₁.extBut _ _ (by rw [hC]; exact Nat.ne_of_lt (Nat.lt_succ_self _)) (Heap.get?_push_of_some _ (hG ▸ Heap.get?_push_size _ rfl))
  have lfree : H2 s2.heap.objs.size = none := I2.hok.fresh (Nat.le_refl _)
  have fplt : ∀ b ∈ fp, b < s2.heap.objs.size := fun b hb => by
    obtain ⟨o, e, _⟩ := T.obj 0 _ st2 b hb
    exact Heap.lt_size e
  have stk : ∀ b ∈ frs X.stack, b ∈ X.env.locals :: X.fs := I2.stkSub
  have clc : ∀ z c, cl.lookup z = some c → c < s2.heap.objs.size := fun z c e => by
    obtain ⟨v, q⟩ := I2.cell z c (ok.sub z c e)
    exact q.lt
  have okC : (cxComp X scope cl (xs ++ ns) G.objs.size s2 H2 fp).Ok := by
    refine ⟨I2.ok.mod, ok.kind, I2.ok.glob, I2.ok.blt, ?_, fun a b c h1 h2 => I2.ok.inj a b c (ok.sub a c h1) (ok.sub b c h2), fun z hz => ok.has z hz, fun z c hf => ?_, fun _ => I2.ok.hd hc, I2.ok.frames, .inl rfl, fun b hb => ⟨(below b (fplt b hb)).1, fun z c e => ?_⟩, I2.bs, Nat.le_trans I2.ok.bsz I2.sz, fun b o e hb => ?_, fun b hb => ?_, I2.stack, I2.stkFree⟩
    · show s2.heap.objs.size ≤ G.objs.size
      rw [hC]; exact Nat.le_succ _
    · exact absurd (show false = true from hf) Bool.false_ne_true
    · exact (f2 b hb).2.2.2.2.1 z c (ok.sub z c e)
    · rcases (f2 b hb).2.2.2.1 with z | z
      · exact I2.ok.noex b o e z
      · exact absurd (Nat.lt_of_lt_of_le (Heap.lt_size e) (Nat.le_trans I2.ok.bsz z)) (Nat.lt_irrefl _)
    · intro z
      rcases List.mem_cons.mp (stk b z) with q | q
      · exact (f2 b hb).2.1 q
      · exact (f2 b hb).2.2.1 q
  have fpC : ∀ {H' : Hp}, (∀ b ∈ fp, H' b = none) → ∀ b ∈ fp, FpOk (cxComp X scope cl (xs ++ ns) G.objs.size s2 H2 fp) [] H' b := fun hn b hb =>
    ⟨hn b hb, (below b (fplt b hb)).1, okC.exfs b hb, .inl hb, fun z c e => (f2 b hb).2.2.2.2.1 z c (ok.sub z c e), fun p hp => absurd (show p ∈ ([] : List (Addr × Obj)) from hp) (by simp)⟩
  have I4 : Inv (cxComp X scope cl (xs ++ ns) G.objs.size s2 H2 fp) [] (List.replicate xs.length none ++ inner σ fr) (upd H2 s2.heap.objs.size (.lst [])) { s2 with heap := h₁, toks := s2.toks + ([] : List (Str × Value)).length } := by
    refine ⟨okC, rfl, I2.bare, Un.laid old (Nat.le_refl _) lfree, ⟨_, hns₁, fun j z u e1 e2 e3 => ?_⟩, fun z c e => ?_, ?_, fun z c e => ?_, fun p hp => absurd (show p ∈ ([] : List (Addr × Obj)) from hp) (by simp), I2.hok.laid old (Nat.le_refl _) ⟨Nat.zero_le _, [], 0, .nil, hacc⟩, ?_⟩
    · by_cases hj : j < xs.length
      · rw [List.getElem?_append_left (by rw [List.length_replicate]; exact hj), List.getElem?_replicate, if_pos hj] at e2
        have e2' : (none : Option V) = some u := Option.some.inj e2
        cases e2'
      · have hj' : xs.length ≤ j := Nat.not_lt.mp hj
        rw [List.getElem?_append_right (by rw [List.length_replicate]; exact hj'), List.length_replicate] at e2
        have e1' : ns[j - xs.length]? = some z := by
          have e1'' : (xs ++ ns)[j]? = some z := e1
          rw [List.getElem?_append_right hj'] at e1''; exact e1''
        obtain ⟨i', q1, q2, q3, q4⟩ := ok.out _ z e1'
        have e3' : σ[i']? = some (some u) := by
          unfold inner at e2
          rw [List.getElem?_map, q1] at e2
          have e4 : (σ[i']?).join = some u := Option.some.inj e2
          cases q : σ[i']? with
          | none => rw [q] at e4; cases e4
          | some o => rw [q] at e4; cases o with
            | none => cases e4
            | some o => cases e4; rfl
        obtain ⟨m, hn, hl⟩ := I2.loc
        obtain ⟨val, r, l⟩ := hl i' z u q2 e3' (.inr (.inl q3))
        refine ⟨val, r, .inr ⟨.inl q4, ?_⟩⟩
        obtain ⟨c', hc'⟩ := ok.has z (.inl q4)
        rcases l with ⟨k1, _⟩ | ⟨_, c, hcc, hcell⟩
        · have k1' : X.env.scope.names.lookup z = some .local := k1
          rw [q3] at k1'; cases k1'
        · rw [ok.sub z c' hc'] at hcc
          cases hcc
          obtain ⟨ob, ho, hd⟩ := hcell
          exact ⟨c', hc', ob, old _ _ ho, hd⟩
    · obtain ⟨v', ob, ho, hd⟩ := I2.cell z c (ok.sub z c e)
      exact ⟨v', ob, old _ _ ho, hd⟩
    · show upd H2 s2.heap.objs.size (.lst []) G.objs.size = none
      rw [upd_ne (by rw [hC]; exact Nat.ne_of_gt (Nat.lt_succ_self _))]
      exact I2.hok.fresh (by rw [hC]; exact Nat.le_succ _)
    · rw [upd_ne (Nat.ne_of_lt (clc z c e))]
      exact I2.freeC z c (ok.sub z c e)
    · show (List.replicate xs.length none ++ inner σ fr).length = (xs ++ ns).length
      unfold inner
      rw [List.length_append, List.length_append, List.length_map, ok.len, List.length_replicate]
  obtain ⟨W, ⟨m0, w0⟩, turns⟩ := rd _ lfree
  have loop : codeAny (model X.prog X.w) X.A (.compLoop (.ListComp elt [⟨tg, iter, ifs, 0⟩] scope pos) 0 (.ref it) (.ref s2.heap.objs.size) (compEnvC scope cl G.objs.size X.env))
      (compPost (model X.prog X.w) X.A X.xe use Qv (.ref s2.heap.objs.size) G.objs.size) { s2 with heap := h₁, toks := s2.toks + ([] : List (Str × Value)).length } := by
    refine comp_loop2 (fun n s' => ∃ k Hk σk, Inv (cxComp X scope cl (xs ++ ns) G.objs.size s2 H2 fp) [] σk Hk s' ∧ (∃ os : St, os.length = xs.length ∧ σk = os ++ inner σ fr) ∧ tn k s'.heap ∧ (∀ b ∈ fp, Hk b = none) ∧ W k n Hk) ?_ m0
      ⟨0, _, _, I4, ⟨_, List.length_replicate, rfl⟩, T.keep _ _ _ st2 fun b _ o e => old b o e, fun b hb => by rw [upd_ne (below b (fplt b hb)).2]; exact (f2 b hb).1, w0⟩
    rintro n s3 ⟨k, Hk, σk, I3, ⟨os, hol, hσ⟩, st3, fr3, w3⟩
    subst hσ
    rcases turns k n Hk w3 with ⟨stop, qn⟩ | ⟨go, step⟩
    · refine thn (T.done (cxComp X scope cl (xs ++ ns) G.objs.size s2 H2 fp) rfl rfl rfl rfl k [] s3 _ Hk _ I3 (fpC fr3) st3 stop) fun r s4 zz => ?_
      obtain ⟨hr, I5⟩ := zz
      subst hr
      have J5 : Inv X pins σ Hk s4 := I2.call' I5.os I5.base I5.hok I5.bare fun b hb => ⟨(f2 b hb).2.2.2.1, (f2 b hb).2.1, (f2 b hb).2.2.2.2.1, (f2 b hb).2.2.2.2.2⟩
      obtain ⟨mC, hnC, _⟩ := I5.loc
      have neL : G.objs.size ≠ X.env.locals := Nat.ne_of_gt (Nat.lt_trans I2.lt (by rw [hC]; exact Nat.lt_succ_self _))
      have neCell : ∀ z c, X.env.cells.lookup z = some c → c ≠ G.objs.size := fun z c e q => by
        obtain ⟨v', hcell⟩ := I2.cell z c e
        have := hcell.lt
        rw [q, hC] at this
        exact absurd this (Nat.not_lt.mpr (Nat.le_succ _))
      exact fin G.objs.size s2.heap.objs.size mC s4 Hk J5 hnC I5.free neL neCell (Nat.le_trans I2.sz (by rw [hC]; exact Nat.le_succ _)) (fun p hp q => by
        have := Heap.lt_size (I2.pin p hp).1
        rw [q, hC] at this
        exact absurd this (Nat.not_lt.mpr (Nat.le_succ _))) qn
    · refine thn (T.item (cxComp X scope cl (xs ++ ns) G.objs.size s2 H2 fp) rfl rfl rfl rfl k [] s3 _ Hk _ I3 (fpC fr3) st3 go) fun r s4 zz => ?_
      obtain ⟨u, hr, h4⟩ := zz
      subst hr
      refine thn h4 fun _ s5 zz => ?_
      obtain ⟨val, H5, I5, r5, y5, st5, fr5⟩ := zz
      have I5' := I5.pinned (fpC fr5) (T.obj _ _ st5)
      refine wpAny_mono (hg _ _ _ _ _ s5 _ H5 val u _ I5' r5 (step val H5 y5 os hol)) (fun _ s6 zz => ?_) fun _ _ z => z.elim
      obtain ⟨σ6, H6, I6, ⟨os6, hol6, hσ6⟩, q6⟩ := zz
      subst hσ6
      have back : ∀ {H8 : Hp} {s8 : Shared} {m' : Nat}, Inv (cxComp X scope cl (xs ++ ns) G.objs.size s2 H2 fp) ([] ++ pinsAt fp s5.heap) (os6 ++ inner σ fr) H8 s8 → m' < n → W (k + 1) m' H8 →
          ∃ m, m < n ∧ ∃ k Hk σk, Inv (cxComp X scope cl (xs ++ ns) G.objs.size s2 H2 fp) [] σk Hk s8 ∧ (∃ os : St, os.length = xs.length ∧ σk = os ++ inner σ fr) ∧ tn k s8.heap ∧ (∀ b ∈ fp, Hk b = none) ∧ W k m Hk := fun {H8 s8 m'} I8 hm w8 => by
        refine ⟨m', hm, k + 1, _, _, I8.unpinned, ⟨os6, hol6, rfl⟩, T.keep _ _ _ st5 fun b hb o e => (I8.pin (b, o) (List.mem_append_right _ (List.mem_append_right _ (mem_pinsAt hb e)))).1, fun b hb => ?_, w8⟩
        obtain ⟨ob, e, d⟩ := T.obj _ _ st5 b hb
        exact (I8.pin (b, ob) (List.mem_append_right _ (List.mem_append_right _ (mem_pinsAt hb e)))).2.1
      refine wpAny_mono (hf _ _ _ _ _ s6 _ H6 _ I6 q6) (fun b s6' zz => ?_) fun _ _ z => z.elim
      obtain ⟨H6', I6', q6'⟩ := zz
      cases b with
      | false =>
        rw [if_neg (by decide)] at q6' ⊢
        obtain ⟨m', hm, w7⟩ := q6'
        exact back I6' hm w7
      | true =>
        rw [if_pos rfl] at q6' ⊢
        refine wpAny_mono (he _ _ _ _ _ s6' _ H6' _ I6' q6') (fun yv s7 zz => ?_) fun _ _ z => z.elim
        obtain ⟨yy, H7, I7, r7, zs, m', hz, hl, hm, w7⟩ := zz
        refine wpAny_mono (mt_append (X := cxComp X scope cl (xs ++ ns) G.objs.size s2 H2 fp) _ s7 _ H7 (.ref s2.heap.objs.size) [yy] (.ref s2.heap.objs.size) [yv] (fun _ H8 => H8 = upd H7 s2.heap.objs.size (.lst (zs ++ [yy]))) I7 rfl (.cons r7 .nil) ⟨_, zs, yy, rfl, rfl, hz, hl, rfl⟩) (fun _ s8 zz => ?_) fun _ _ z => z.elim
        obtain ⟨_, H8, I8, _, e8⟩ := zz
        subst e8
        exact back I8 hm w7
  exact codeAny_compStart_list loop (T.self _ 0 _ _ _ (T.keep _ _ _ st2 fun b _ o e => old b o e) loop)
theorem pe_comp {X : Cx} {tg iter elt : Expr} {ifs : List Expr} {scope : Scope} {pos : Pos} {cl : List (Str × Addr)} {xs ns : List Str} {fr : List Nat} {wi : TI} {g : TG} {tt : TT} {te : TE}
    (hc : X.calm = true) (ok : CompOk2 X scope cl xs ns fr) (hI : PI X tg iter wi) (hg : ∀ C s₂ H2 fp, PG (cxComp X scope cl (xs ++ ns) C s₂ H2 fp) tg g) (hf : ∀ C s₂ H2 fp, PF (cxComp X scope cl (xs ++ ns) C s₂ H2 fp) ifs tt)
    (he : ∀ C s₂ H2 fp, PE (cxComp X scope cl (xs ++ ns) C s₂ H2 fp) elt te) (hs : ∀ x, foldedSetIterable iter X.env x = pure x := by intro _; rfl) :
    PE X (.ListComp elt [⟨tg, iter, ifs, 0⟩] scope pos) (tCompE wi xs.length fr g tt te) := by
  intro pins s σ H Q I h
  rw [eval_ListComp]
  refine comp_all (use := none) hc ok hI hg hf he hs I h fun C l m s4 Hk J5 hn hC neL neCell sz hp q => ?_
  exact ⟨m, hn, fun h' sb => ⟨.ref l, Hk, J5.turned (t' := s4.toks) (it := C) (fun b o hb e => sb.extBut b o hb e) hC neL (.inr sz) neCell hp, rfl, q⟩⟩
theorem ps_compE {X : Cx} {i : Nat} {y : Str} {py spos : Pos} {tg iter elt : Expr} {ifs : List Expr} {scope : Scope} {pos : Pos} {cl : List (Str × Addr)} {xs ns : List Str} {fr : List Nat} {wi : TI} {g : TG} {tt : TT} {te : TE}
    (hc : X.calm = true) (ok : CompOk2 X scope cl xs ns fr) (hN : X.N.Nodup) (hi : X.N[i]? = some y) (hy : Loc X.env.scope y) (hfn : X.fn y = true ∨ X.env.scope.names.lookup y = some .local)
    (hsw : swapsWith (.ListComp elt [⟨tg, iter, ifs, 0⟩] scope pos) (some (.Name y py)) spos.line X.env = pure true)
    (hI : PI X tg iter wi) (hg : ∀ C s₂ H2 fp, PG (cxComp X scope cl (xs ++ ns) C s₂ H2 fp) tg g) (hf : ∀ C s₂ H2 fp, PF (cxComp X scope cl (xs ++ ns) C s₂ H2 fp) ifs tt)
    (he : ∀ C s₂ H2 fp, PE (cxComp X scope cl (xs ++ ns) C s₂ H2 fp) elt te) (hs : ∀ x, foldedSetIterable iter X.env x = pure x := by intro _; rfl) :
    PS X (.Assign [.Name y py] (.ListComp elt [⟨tg, iter, ifs, 0⟩] scope pos) spos) (tAsg (tCompE wi xs.length fr g tt te) (gName i)) := by
  intro pins s σ H D I h
  rw [exec_Assign_Name_used _ _ _ _ hsw]
  refine wpAny_bind (wpAny_standAt (wpAny_bind ?_))
  show wpAny _ X.A (do let _ ← comprehension (.ListComp elt [⟨tg, iter, ifs, 0⟩] scope pos) scope X.env _ (newList []) false (eval iter X.env) (some (assign (.Name y py) X.env))) _ _ s
  refine wpAny_bind (wpAny_mono (comp_all (use := some (assign (.Name y py) X.env)) (Qv := fun _ s' => SP X pins D .next s') hc ok hI hg hf he hs I h fun C l m s4 Hk J5 hn hC neL neCell sz hp q => ?_) (fun _ s' hq => wpAny_pure (wpAny_pure hq)) fun _ _ e => e)
  show wpAny _ X.A (assign (.Name y py) X.env (.ref l)) _ _ s4
  refine wpAny_assign_Name (store_ok2 J5 hN hi hy (v := .ref l) rfl (fun s5 I6 sb => ?_) hfn)
  obtain ⟨aa, hsb, haa⟩ := sb
  have aC : C ≠ aa := by
    rcases haa with q | q
    · rw [q]; exact neL
    · exact fun z => neCell _ _ q z.symm
  refine ⟨m, ?_, fun h' sb' => ⟨_, _, I6.turned (t' := s5.toks) (it := C) (fun b o hb e => sb'.extBut b o hb e) hC neL (.inr sz) neCell hp, q⟩⟩
  obtain ⟨oC, es, ep, ho, r⟩ := hn
  exact ⟨oC, es, ep, hsb.extBut _ _ aC ho, r⟩
end L2


set_option Elab.async false
set_option linter.all false
set_option maxRecDepth 100000
/-! sum, all, max of lists; bit_length -/
namespace L2
open PySem PySem.Spec PyProof.Rows
section
variable {X : Cx}
theorem vals_at : ∀ {xs : List V} {us : List Value} {i : Nat} {u : Value}, Vals xs us → us[i]? = some u → ∃ x, xs[i]? = some x ∧ RelV x u
  | [], _, _, _, .nil, e => by simp at e
  | x :: xs, _, 0, u, .cons r rr, e => ⟨x, rfl, by cases e; exact r⟩
  | x :: xs, _, i + 1, u, .cons r rr, e => by
    obtain ⟨y, hy, ry⟩ := vals_at (xs := xs) (i := i) rr (by simpa using e)
    exact ⟨y, by simpa using hy, ry⟩
theorem preSum_take (ns : List Int) : ∀ k, k ≤ ns.length → preSum (fun i => ns.getD i 0) k = (ns.take k).sum
  | 0, _ => rfl
  | k + 1, h => by
    have ih := preSum_take ns k (by omega)
    have hk : k < ns.length := by omega
    show preSum (fun i => ns.getD i 0) k + ns.getD k 0 = _
    rw [ih, List.take_succ, List.getElem?_eq_getElem hk, List.sum_append, List.getD_eq_getElem?_getD, List.getElem?_eq_getElem hk]
    show (ns.take k).sum + ns[k] = (ns.take k).sum + (ns[k] + 0)
    rw [Int.add_zero]
theorem ints_at {ns : List Int} {its : List Value} {i : Nat} {v : Value} (r : Vals (ns.map V.int) its) (e : its.toArray[i]? = some v) : ∃ t, v = .int (ns.getD i 0) t := by
  have e' : its[i]? = some v := by simpa using e
  obtain ⟨x, hx, rx⟩ := vals_at r e'
  rw [List.getElem?_map] at hx
  obtain ⟨n, hn, rfl⟩ := Option.map_eq_some_iff.mp hx
  obtain ⟨t, rfl⟩ := rx
  refine ⟨t, ?_⟩
  rw [List.getD_eq_getElem?_getD, hn]; rfl
theorem call_sumL (hc : X.calm = true) : CallR X (.builtin "sum") (fun xs H Q => ∃ (p : Addr) (ns : List Int), xs = [.ref p] ∧ SqL X.K H p (ns.map V.int) ∧ Q (.int ns.sum) H) := by
  intro pins s σ H xs us Q I r h
  obtain ⟨p, ns, rfl, hq, q⟩ := h
  obtain ⟨u, rfl, rx⟩ := vals1 r
  cases rx
  obtain ⟨its, r', pl, hz⟩ := I.list hq
  have hl := r'.length
  rw [List.length_map] at hl
  have hlt : p < s.heap.objs.size := by obtain ⟨_, e, _⟩ := pl.isList; exact Heap.lt_size e
  refine call_sum_walkG (wpAny_pyIter_list pl.isList ?_)
  refine ⟨_, _, _, _, _, _, fun i => ns.getD i 0, rfl, Walks.list (A := X.A.in1) (I.ok.hd hc) _ p (Nat.ne_of_lt hlt) its.toArray, ⟨⟨_, Heap.get?_push_size _ rfl, rfl, rfl⟩, pl.isList.push _⟩, ?_, fun i v e => ints_at r' e, fun h' tk t' hk => ?_⟩
  · intro b hb
    show b < (s.heap.push _).objs.size
    rw [Heap.size_push]
    rcases List.mem_cons.mp hb with rfl | hb
    · exact Nat.lt_succ_self _
    · rw [List.mem_singleton.mp hb]; exact Nat.lt_succ_of_lt hlt
  · refine ⟨.int ns.sum, H, I.kept (old_kept hk), ⟨t', ?_⟩, q⟩
    rw [List.size_toArray, ← hl, preSum_take ns _ (Nat.le_refl _), List.take_length]
theorem call_allL (hc : X.calm = true) : CallR X (.builtin "all") (fun xs H Q => ∃ (p : Addr) (bs : List Bool), xs = [.ref p] ∧ SqL X.K H p (bs.map V.bl) ∧ Q (.bl (bs.all id)) H) := by
  intro pins s σ H xs us Q I r h
  obtain ⟨p, bs, rfl, hq, q⟩ := h
  obtain ⟨u, rfl, rx⟩ := vals1 r
  cases rx
  obtain ⟨its, r', pl, hz⟩ := I.list hq
  have hl := r'.length
  rw [List.length_map] at hl
  have hlt : p < s.heap.objs.size := by obtain ⟨_, e, _⟩ := pl.isList; exact Heap.lt_size e
  refine call_all_walk (wpAny_pyIter_list pl.isList ?_)
  refine ⟨_, _, _, _, _, _, fun i => bs.getD i true, rfl, Walks.list (A := X.A.in1) (I.ok.hd hc) _ p (Nat.ne_of_lt hlt) its.toArray, ⟨⟨_, Heap.get?_push_size _ rfl, rfl, rfl⟩, pl.isList.push _⟩, fun i v s Q E e hQ => ?_, fun h' tk hk => ?_⟩
  · have e' : its[i]? = some v := by simpa using e
    obtain ⟨x, hx, rx⟩ := vals_at r' e'
    rw [List.getElem?_map] at hx
    obtain ⟨n, hn, rfl⟩ := Option.map_eq_some_iff.mp hx
    have rx' : v = .bool n := rx
    subst rx'
    refine wpAny_truthy_bool ?_
    have hb : bs.getD i true = n := by rw [List.getD_eq_getElem?_getD, hn]; rfl
    have hQ' : Q (bs.getD i true) s := hQ
    rw [hb] at hQ'
    exact hQ'
  · refine ⟨.bl (bs.all id), H, I.kept (old_kept hk), ?_, q⟩
    have e : ((List.range its.toArray.size).all fun i => bs.getD i true) = bs.all id := by
      rw [List.size_toArray, ← hl, Bool.eq_iff_iff, List.all_eq_true, List.all_eq_true]
      constructor
      · intro h x hx
        obtain ⟨i, hi, rfl⟩ := List.mem_iff_getElem.mp hx
        have := h i (List.mem_range.mpr hi)
        rw [List.getD_eq_getElem?_getD, List.getElem?_eq_getElem hi] at this
        exact this
      · intro h i hi
        have hi' := List.mem_range.mp hi
        rw [List.getD_eq_getElem?_getD, List.getElem?_eq_getElem hi']
        exact h _ (List.getElem_mem hi')
    rw [e]; rfl
/-- the greatest of some numbers -/
noncomputable def IsMax (ns : List Int) (m : Int) : Prop := m ∈ ns ∧ ∀ x ∈ ns, x ≤ m
theorem argBest_le (bt : Nat → Nat → Bool) : ∀ k, argBest bt k ≤ k
  | 0 => Nat.le_refl _
  | k + 1 => by
    unfold argBest
    split
    · exact Nat.le_refl _
    · exact Nat.le_succ_of_le (argBest_le bt k)
theorem argBest_max (val : Nat → Int) : ∀ k j, j ≤ k → val j ≤ val (argBest (fun i j => decide (val i > val j)) k)
  | 0, j, h => by
    have : j = 0 := by omega
    subst this; exact Int.le_refl _
  | k + 1, j, h => by
    have ih := argBest_max val k
    unfold argBest
    by_cases hj : j = k + 1
    · subst hj
      split
      · exact Int.le_refl _
      · rename_i hb
        have hb' : ¬ val (k + 1) > val (argBest (fun i j => decide (val i > val j)) k) := by simpa using hb
        omega
    · have hjk := ih j (by omega)
      split
      · rename_i hb
        have hb' : val (k + 1) > val (argBest (fun i j => decide (val i > val j)) k) := by simpa using hb
        omega
      · exact hjk
theorem best_isMax {ns : List Int} (h : 0 < ns.length) : IsMax ns (ns.getD (argBest (fun i j => decide (ns.getD i 0 > ns.getD j 0)) (ns.length - 1)) 0) := by
  have hle := argBest_le (fun i j => decide (ns.getD i 0 > ns.getD j 0)) (ns.length - 1)
  have hlt : argBest (fun i j => decide (ns.getD i 0 > ns.getD j 0)) (ns.length - 1) < ns.length := by omega
  refine ⟨?_, fun x hx => ?_⟩
  · rw [List.getD_eq_getElem?_getD, List.getElem?_eq_getElem hlt]
    exact List.getElem_mem hlt
  · obtain ⟨i, hi, rfl⟩ := List.mem_iff_getElem.mp hx
    have := argBest_max (fun i => ns.getD i 0) (ns.length - 1) i (by omega)
    have e : ns.getD i 0 = ns[i] := by rw [List.getD_eq_getElem?_getD, List.getElem?_eq_getElem hi]; rfl
    rw [e] at this
    exact this
theorem mt_bits : MtR X "int.bit_length" (fun x xs H Q => ∃ i, x = .int i ∧ xs = [] ∧ Q (.int (Builtin.Int.intBits i)) H) := by
  intro pins s σ H x xs v us Q I rx r h
  obtain ⟨i, rfl, rfl, q⟩ := h
  obtain ⟨t, rfl⟩ := rx
  cases r
  exact call_int_bit_length ⟨.int (Builtin.Int.intBits i), H, I.tok _, ⟨_, rfl⟩, q⟩
noncomputable def tBits (to : TE) : TE := fun σ H Q => to σ H fun x H1 => ∃ i, x = .int i ∧ Q (.int (Builtin.Int.intBits i)) H1
theorem pe_bits {o : Expr} {to : TE} {apos cpos : Pos} (ho : PE X o to) (hbase : attributeBase o "bit_length" X.env (eval o X.env) = eval o X.env := by rfl) (hline : (apos.endLine == cpos.line) = true := by rfl) :
    PE X (.Call (.Attribute o "bit_length" apos) [] [] cpos) (tBits to) := by
  intro pins s σ H Q I h
  refine wpAny_Call_method0_late hbase hline (thn (ho pins s σ H _ I h) fun v s1 zz => ?_)
  obtain ⟨x, H1, I1, r1, i, e, q1⟩ := zz
  subst e
  obtain ⟨h1, h2⟩ := tyV_is I1 r1 (show tyV X.K "int" (.int i) H1 from rfl)
  exact ⟨"int", "int.bit_length", PySem.F.plainAttrs_int, PySem.F.slot_int_bit_length, PySem.F.type_int_bit_length, h1, h2, Calls.callWith_builtin rfl (PySem.evalArgs_none (mt_bits pins s1 σ H1 (.int i) [] v [] Q I1 r1 .nil ⟨i, rfl, rfl, q1⟩))⟩
end
/-! ### shut -/
structure QC (X : Cx) (ifs : List Expr) (t : TT) : Prop where h : PF X ifs t
structure QGs (X : Cx) (ts : List Expr) (t : TGs) : Prop where h : PGs X ts t
namespace R
section
variable {X : Cx} {e o : Expr} {te to : TE} {pos : Pos}
theorem pf_nil : QC X [] fNil := ⟨L2.pf_nil⟩
theorem pf_one {c : Expr} {t : TT} (h : QT X c t) : QC X [c] t := ⟨L2.pf_one h.h⟩
theorem pe_bits {apos cpos : Pos} (ho : QE X o to) (hbase : attributeBase o "bit_length" X.env (eval o X.env) = eval o X.env := by rfl) (hline : (apos.endLine == cpos.line) = true := by rfl) :
    QE X (.Call (.Attribute o "bit_length" apos) [] [] cpos) (tBits to) := ⟨L2.pe_bits ho.h hbase hline⟩
theorem ixL (K : PySem.W.Frag) (h : X.K = K := by rfl) : IxR X (rIxL K) := by subst h; exact ix_list
theorem ixT (K : PySem.W.Frag) (h : X.K = K := by rfl) : IxR X (rIxT K) := by subst h; exact ix_tup
theorem pgs_nil : QGs X [] gNil := ⟨L2.pgs_nil⟩
theorem pgs_cons {es : List Expr} {t : TG} {u : TGs} (h1 : QG X e t) (h2 : QGs X es u) (hs : (assignEach (e :: es) X.env).map (·.2) = assign e X.env :: (assignEach es X.env).map (·.2) := by rfl) : QGs X (e :: es) (gCons t u) := ⟨L2.pgs_cons h1.h h2.h hs⟩
theorem pg_tup {es : List Expr} {k : Nat} {t : TGs} (K : PySem.W.Frag) (n : Nat) (hc : X.calm = true) (h : QGs X es t) (hK : X.K = K := by rfl) (hn : (assignEach es X.env).length = n := by rfl) (hst : (assignEach es X.env).findIdx? (·.1) = none := by rfl) : QG X (.Tuple es k pos) (gTup K n t) := by
  subst hK; exact ⟨L2.pg_tup hc h.h hn hst⟩
theorem ps_asg {tg : Expr} {g : TG} (he : QE X e te) (hg : QG X tg g) (hs : swapsWithSole [tg] e pos.line X.env = pure false := by rfl) (hw : swappedStores [tg] e X.env = pure none := by rfl)
    (h1 : (assignEach [tg] X.env).map (·.2) = [assign tg X.env] := by rfl) : QS X (.Assign [tg] e pos) (tAsg te g) := ⟨L2.ps_asg he.h hg.h hs hw h1⟩
/-- sc, N: the def's scope and names; xs: the target's names; ns: those that are taken from around, at fr there -/
theorem pe_comp {tg iter elt : Expr} {ifs : List Expr} {scope : Scope} {wi : TI} {g : TG} {tt : TT} (sc : Scope) (N xs ns : List Str) (fr : List Nat) 
    (hc : X.calm = true) (hsc : X.env.scope = sc) (hN : X.N = N) (hcl : ∃ n, X.env.cells = cellsFrom n X.env.scope.names []) (hk : X.env.scope.kind = .function) (kind : scope.kind = .function) (hB : compB sc.names scope.names N ns fr = true)
    (hI : QI X tg iter wi) (hg : ∀ C s₂ H2 fp, QG (cxComp X scope (clOf X.env.cells scope.names []) (xs ++ ns) C s₂ H2 fp) tg g) (hf : ∀ C s₂ H2 fp, QC (cxComp X scope (clOf X.env.cells scope.names []) (xs ++ ns) C s₂ H2 fp) ifs tt)
    (he : ∀ C s₂ H2 fp, QE (cxComp X scope (clOf X.env.cells scope.names []) (xs ++ ns) C s₂ H2 fp) elt te) (hs : ∀ x, foldedSetIterable iter X.env x = pure x := by intro _; rfl) :
    QE X (.ListComp elt [⟨tg, iter, ifs, 0⟩] scope pos) (tCompE wi xs.length fr g tt te) :=
  ⟨L2.pe_comp hc (CompOk2.of hsc hN hcl hk kind hB) hI.h (fun C s H f => (hg C s H f).h) (fun C s H f => (hf C s H f).h) (fun C s H f => (he C s H f).h) hs⟩
theorem ps_compE {i : Nat} {y : Str} {py spos : Pos} {tg iter elt : Expr} {ifs : List Expr} {scope : Scope} {wi : TI} {g : TG} {tt : TT} (sc : Scope) (N xs ns : List Str) (fr : List Nat) (hnd : X.N.Nodup) (hi : X.N[i]? = some y) (hy : Loc X.env.scope y) (hfn : X.fn y = true)
    (hsw : swapsWith (.ListComp elt [⟨tg, iter, ifs, 0⟩] scope pos) (some (.Name y py)) spos.line X.env = pure true)
    (hc : X.calm = true) (hsc : X.env.scope = sc) (hN : X.N = N) (hcl : ∃ n, X.env.cells = cellsFrom n X.env.scope.names []) (hk : X.env.scope.kind = .function) (kind : scope.kind = .function) (hB : compB sc.names scope.names N ns fr = true)
    (hI : QI X tg iter wi) (hg : ∀ C s₂ H2 fp, QG (cxComp X scope (clOf X.env.cells scope.names []) (xs ++ ns) C s₂ H2 fp) tg g) (hf : ∀ C s₂ H2 fp, QC (cxComp X scope (clOf X.env.cells scope.names []) (xs ++ ns) C s₂ H2 fp) ifs tt)
    (he : ∀ C s₂ H2 fp, QE (cxComp X scope (clOf X.env.cells scope.names []) (xs ++ ns) C s₂ H2 fp) elt te) (hs : ∀ x, foldedSetIterable iter X.env x = pure x := by intro _; rfl) :
    QS X (.Assign [.Name y py] (.ListComp elt [⟨tg, iter, ifs, 0⟩] scope pos) spos) (tAsg (tCompE wi xs.length fr g tt te) (gName i)) :=
  ⟨L2.ps_compE hc (CompOk2.of hsc hN hcl hk kind hB) hnd hi hy (.inl hfn) hsw hI.h (fun C s H f => (hg C s H f).h) (fun C s H f => (hf C s H f).h) (fun C s H f => (he C s H f).h) hs⟩
end
end R
/-! ### the forms of a comprehension that one uses: one name, walked over a list that stays or over a range -/
section
variable {K : PySem.W.Frag} {fr : List Nat} {tt : TT} {te : TE} {σ : St} {Q : VK} {H1 : Hp} {l : Addr}
/-- one turn with the name bound to v -/
noncomputable def Turn1 (fr : List Nat) (tt : TT) (te : TE) (σ : St) (l : Addr) (v : V) (H : Hp) (N : Hp → Prop) : Prop :=
  ∀ (K1 : V → Hp → Prop) (K0 : Hp → Prop), (∀ y H4 zs, H4 l = some (.lst zs) → zs.length < sizeLine → N (upd H4 l (.lst (zs ++ [y]))) → K1 y H4) → (∀ H3, N H3 → K0 H3) →
    tt (some v :: inner σ fr) H fun b H3 => if b = true then te (some v :: inner σ fr) H3 K1 else K0 H3
theorem comp_by1 {J : It} (n : Nat) (Pv : Nat → Hp → Prop) (h0 : Pv 0 (upd H1 l (.lst []))) (hgo : ∀ k H, k < n → Pv k H → J.go k H) (hstop : ∀ H, Pv n H → J.stop n H)
    (hs : ∀ k H v H', k < n → Pv k H → J.yld k H v H' → Turn1 fr tt te σ l v H' (Pv (k + 1))) (hd : ∀ H, Pv n H → Q (.ref l) H) : CompGoal J 1 (gName 0) fr tt te σ Q H1 l := by
  refine ⟨fun k m H => m = n - k ∧ k ≤ n ∧ Pv k H, ⟨n, by simp, Nat.zero_le _, h0⟩, ?_⟩
  rintro k m H ⟨rfl, hk, p⟩
  by_cases hlt : k < n
  · refine .inr ⟨hgo k H hlt p, fun v H' hy os ho => ?_⟩
    obtain ⟨o, rfl⟩ := List.length_eq_one_iff.mp ho
    exact ⟨⟨[some v], rfl, rfl⟩, hs k H v H' hlt p hy _ _ (fun y H4 zs h1 h2 h3 => ⟨zs, n - (k + 1), h1, h2, by omega, rfl, hlt, h3⟩) fun H3 h3 => ⟨n - (k + 1), by omega, rfl, hlt, h3⟩⟩
  · have e : k = n := by omega
    subst e
    exact .inl ⟨hstop H p, hd H p⟩
theorem comp_rng1 {lo : Int} {n : Nat} (Pv : Nat → Hp → Prop) (h0 : Pv 0 (upd H1 l (.lst [])))
    (hs : ∀ k H, k < n → Pv k H → Turn1 fr tt te σ l (.int (lo + k)) H (Pv (k + 1))) (hd : ∀ H, Pv n H → Q (.ref l) H) : CompGoal (Itr lo n) 1 (gName 0) fr tt te σ Q H1 l :=
  comp_by1 n Pv h0 (fun _ _ h _ => h) (fun _ _ => Nat.le_refl _) (fun k H v H' hk p hy => by obtain ⟨rfl, rfl⟩ := hy; exact hs k _ hk p) hd
theorem comp_lst1 {a : Addr} {xs : List V} (Pv : Nat → Hp → Prop) (h0 : Pv 0 (upd H1 l (.lst []))) (hl : ∀ k H, k ≤ xs.length → Pv k H → SqL K H a xs)
    (hs : ∀ k x H, xs[k]? = some x → Pv k H → Turn1 fr tt te σ l x H (Pv (k + 1))) (hd : ∀ H, Pv xs.length H → Q (.ref l) H) : CompGoal (Itl K a) 1 (gName 0) fr tt te σ Q H1 l :=
  comp_by1 xs.length Pv h0 (fun k H h p => ⟨xs, xs[k], hl k H (Nat.le_of_lt h) p, by simp [h]⟩) (fun H p => ⟨xs, hl _ H (Nat.le_refl _) p, Nat.le_refl _⟩)
    (fun k H v H' hk p hy => by obtain ⟨rfl, y⟩ := hy; exact hs k v _ (y xs (hl k _ (Nat.le_of_lt hk) p)) p) hd
/-- two names, bound to the two parts of tuples -/
noncomputable def Turn2 (fr : List Nat) (tt : TT) (te : TE) (σ : St) (l : Addr) (v u : V) (H : Hp) (N : Hp → Prop) : Prop :=
  ∀ (K1 : V → Hp → Prop) (K0 : Hp → Prop), (∀ y H4 zs, H4 l = some (.lst zs) → zs.length < sizeLine → N (upd H4 l (.lst (zs ++ [y]))) → K1 y H4) → (∀ H3, N H3 → K0 H3) →
    tt (some v :: some u :: inner σ fr) H fun b H3 => if b = true then te (some v :: some u :: inner σ fr) H3 K1 else K0 H3
theorem comp_by2 {J : It} (n : Nat) (Pv : Nat → Hp → Prop) (h0 : Pv 0 (upd H1 l (.lst []))) (hgo : ∀ k H, k < n → Pv k H → J.go k H) (hstop : ∀ H, Pv n H → J.stop n H)
    (hs : ∀ k H v H', k < n → Pv k H → J.yld k H v H' → ∃ p x y, v = .ref p ∧ SqT K H' p [x, y] ∧ Turn2 fr tt te σ l x y H' (Pv (k + 1))) (hd : ∀ H, Pv n H → Q (.ref l) H) : CompGoal J 2 (gTup K 2 (gCons (gName 0) (gCons (gName 1) gNil))) fr tt te σ Q H1 l := by
  refine ⟨fun k m H => m = n - k ∧ k ≤ n ∧ Pv k H, ⟨n, by simp, Nat.zero_le _, h0⟩, ?_⟩
  rintro k m H ⟨rfl, hk, p⟩
  by_cases hlt : k < n
  · refine .inr ⟨hgo k H hlt p, fun v H' hy os ho => ?_⟩
    obtain ⟨o, o', rfl⟩ : ∃ a b, os = [a, b] := by
      cases os with
      | nil => cases ho
      | cons a t =>
        obtain ⟨b, rfl⟩ := List.length_eq_one_iff.mp (Nat.succ.inj ho)
        exact ⟨a, b, rfl⟩
    obtain ⟨p', x, y, rfl, hq, ht⟩ := hs k H v H' hlt p hy
    exact ⟨p', [x, y], rfl, hq, rfl, x, [y], rfl, y, [], rfl, rfl, ⟨[some x, some y], rfl, rfl⟩, ht _ _ (fun y H4 zs h1 h2 h3 => ⟨zs, n - (k + 1), h1, h2, by omega, rfl, hlt, h3⟩) fun H3 h3 => ⟨n - (k + 1), by omega, rfl, hlt, h3⟩⟩
  · have e : k = n := by omega
    subst e
    exact .inl ⟨hstop H p, hd H p⟩
end
end L2


set_option Elab.async false
set_option linter.all false
set_option maxRecDepth 100000
/-! bundles: whole numbers below 64, as Nat -/
namespace L2
open PySem PySem.Spec PyProof.Rows
theorem Same.upd {H H' : Hp} {l : Addr} (s : Same H H') (h : H l = none) (o : HO) : Same H (upd H' l o) := fun b u q => by rw [upd_ne (ne_of_none q h)]; exact s b u q
/-! ### bits -/
theorem and_nat (a b : Nat) : Builtin.bitAnd (a : Int) b = ((a &&& b : Nat) : Int) := by
  unfold Builtin.bitAnd
  rw [show decide ((0 : Int) ≤ (a : Int)) = true from by simp, show decide ((0 : Int) ≤ (b : Int)) = true from by simp]
  show (((a : Int).toNat &&& (b : Int).toNat : Nat) : Int) = _
  rw [Int.toNat_natCast, Int.toNat_natCast]
theorem or_nat (a b : Nat) : Builtin.bitOr (a : Int) b = ((a ||| b : Nat) : Int) := by
  unfold Builtin.bitOr Builtin.bitAnd
  have h1 : decide ((0 : Int) ≤ Builtin.bitNot (a : Int)) = false := by unfold Builtin.bitNot; simp; omega
  have h2 : decide ((0 : Int) ≤ Builtin.bitNot (b : Int)) = false := by unfold Builtin.bitNot; simp; omega
  rw [h1, h2]
  show Builtin.bitNot (Builtin.bitNot (((Builtin.bitNot (Builtin.bitNot (a : Int))).toNat ||| (Builtin.bitNot (Builtin.bitNot (b : Int))).toNat : Nat) : Int)) = _
  have e : ∀ x : Int, Builtin.bitNot (Builtin.bitNot x) = x := fun x => by unfold Builtin.bitNot; omega
  rw [e, e, e, Int.toNat_natCast, Int.toNat_natCast]
theorem shl_nat (k : Nat) : (1 : Int) * 2 ^ (k : Int).toNat = ((2 ^ k : Nat) : Int) := by
  rw [Int.toNat_natCast, Int.one_mul, Int.natCast_pow]; rfl
theorem bits_nat (b : Nat) : Builtin.Int.intBits (b : Int) = if b = 0 then 0 else b.log2 + 1 := by
  unfold Builtin.Int.intBits
  by_cases h : b = 0
  · subst h; rfl
  · rw [if_neg h, if_neg (by simpa using h), Int.natAbs_natCast]
theorem bits64 {b : Nat} (h : b < 64) : Builtin.Int.intBits (b : Int) ≤ 6 := by
  rw [bits_nat]
  split
  · omega
  · rename_i h0
    have := (Nat.log2_lt h0 (k := 6)).mpr h
    omega
/-- the things of a bundle -/
noncomputable def things (b : Nat) : List Nat := (List.range 6).filter b.testBit
theorem things_comp : ∀ b < 64, (List.range (if b = 0 then 0 else b.log2 + 1)).filter (fun k => decide (b &&& 2 ^ k = 2 ^ k)) = things b := by decide +kernel
theorem things_len (b : Nat) : (things b).length ≤ 6 := by
  have := List.length_filter_le (b.testBit) (List.range 6)
  rw [List.length_range] at this
  exact this
theorem int_eq_nat {a b : Nat} : decide (V.int (a : Int) = V.int (b : Int)) = decide (a = b) := by
  by_cases h : a = b
  · subst h; simp
  · rw [decide_eq_false h, decide_eq_false]
    intro z
    exact h (Int.ofNat.inj (V.int.inj z))
/-! ### comprehensions whose turns only lay new things on the heap -/
section
variable {K : PySem.W.Frag} {fr : List Nat} {tt : TT} {te : TE} {σ : St} {Q : VK} {H1 : Hp} {l : Addr}
theorem comp_rng_map {lo : Int} {n : Nat} (p : Nat → Bool) (f : Nat → V) (hn : n ≤ 100) (hl : H1 l = none)
    (ht : ∀ k H, k < n → Same H1 H → ∀ C, (∀ H', Same H H' → C (p k) H') → tt (some (.int (lo + k)) :: inner σ fr) H C)
    (he : ∀ k H, k < n → p k = true → Same H1 H → ∀ C, (∀ H', Same H H' → C (f k) H') → te (some (.int (lo + k)) :: inner σ fr) H C)
    (hd : ∀ H, Same H1 H → H l = some (.lst (((List.range n).filter p).map f)) → Q (.ref l) H) : CompGoal (Itr lo n) 1 (gName 0) fr tt te σ Q H1 l := by
  refine comp_rng1 (fun k H => Same H1 H ∧ H l = some (.lst (((List.range k).filter p).map f))) ⟨same_new hl _, upd_same⟩ ?_ fun H ⟨s, e⟩ => hd H s e
  rintro k H hk ⟨s, e⟩ K1 K0 h1 h0
  refine ht k H hk s _ fun H' s' => ?_
  have e' : (List.range (k + 1)).filter p = (List.range k).filter p ++ (if p k = true then [k] else []) := by
    rw [List.range_succ, List.filter_append]
    cases hp : p k <;> simp [hp]
  cases hp : p k with
  | false =>
    rw [if_neg (by decide)]
    refine h0 _ ⟨s.trans s', ?_⟩
    rw [e', hp, if_neg (by decide), List.append_nil]
    exact s' _ _ e
  | true =>
    rw [if_pos rfl]
    refine he k H' hk hp (s.trans s') _ fun H'' s'' => ?_
    refine h1 _ _ _ (s'' _ _ (s' _ _ e)) ?_ ⟨((s.trans s').trans s'').upd hl _, ?_⟩
    · rw [List.length_map]
      have := List.length_filter_le p (List.range k)
      rw [List.length_range] at this
      exact small1000 (by omega)
    · rw [upd_same, e', hp, if_pos rfl, List.map_append]; rfl
theorem comp_lst_map {α : Type} {a : Addr} (emb : α → V) (xs : List α) (p : α → Bool) (f : α → V) (hS : SqL K H1 a (xs.map emb)) (hn : xs.length ≤ 100) (hl : H1 l = none)
    (ht : ∀ x ∈ xs, ∀ H, Same H1 H → ∀ C, (∀ H', Same H H' → C (p x) H') → tt (some (emb x) :: inner σ fr) H C)
    (he : ∀ x ∈ xs, p x = true → ∀ H, Same H1 H → ∀ C, (∀ H', Same H H' → C (f x) H') → te (some (emb x) :: inner σ fr) H C)
    (hd : ∀ H, Same H1 H → H l = some (.lst ((xs.filter p).map f)) → Q (.ref l) H) : CompGoal (Itl K a) 1 (gName 0) fr tt te σ Q H1 l := by
  refine comp_lst1 (xs := xs.map emb) (fun k H => Same H1 H ∧ H l = some (.lst (((xs.take k).filter p).map f))) ⟨same_new hl _, upd_same⟩ (fun k H _ ⟨s, _⟩ => s.seq hS) ?_ fun H ⟨s, e⟩ => hd H s (by rw [List.length_map, List.take_length] at e; exact e)
  rintro k v H hv ⟨s, e⟩ K1 K0 h1 h0
  rw [List.getElem?_map] at hv
  obtain ⟨x, hx, rfl⟩ := Option.map_eq_some_iff.mp hv
  have hm : x ∈ xs := List.mem_of_getElem? hx
  refine ht x hm H s _ fun H' s' => ?_
  have e' : (xs.take (k + 1)).filter p = (xs.take k).filter p ++ (if p x = true then [x] else []) := by
    rw [List.take_succ, hx, List.filter_append]
    cases hp : p x <;> simp [hp]
  cases hp : p x with
  | false =>
    rw [if_neg (by decide)]
    refine h0 _ ⟨s.trans s', ?_⟩
    rw [e', hp, if_neg (by decide), List.append_nil]
    exact s' _ _ e
  | true =>
    rw [if_pos rfl]
    refine he x hm hp H' (s.trans s') _ fun H'' s'' => ?_
    refine h1 _ _ _ (s'' _ _ (s' _ _ e)) ?_ ⟨((s.trans s').trans s'').upd hl _, ?_⟩
    · rw [List.length_map]
      have h1 := List.length_filter_le p (xs.take k)
      have h2 := List.length_take_le' k xs
      exact small1000 (by omega)
    · rw [upd_same, e', hp, if_pos rfl, List.map_append]; rfl
end
theorem at_nat {α : Type} {xs : List α} {k : Nat} {x : α} (h : xs[k]? = some x) : atI xs (k : Int) = some x := atI_nat h
end L2
namespace L2
open PySem PySem.Spec PyProof.Rows
/-! ### == and != of two lists of whole numbers -/
noncomputable def rEqI (K : PySem.W.Frag) (neg : Bool) : R2 := fun x y H Q => ∃ (a b : Addr) (ns ms : List Int), x = .ref a ∧ y = .ref b ∧ SqL K H a (ns.map V.int) ∧ SqL K H b (ms.map V.int) ∧ Q (.bl (if neg then !decide (ns = ms) else decide (ns = ms))) H
theorem ints_all {ns ms : List Int} (h : ns.length = ms.length) : ((List.range ns.length).all fun j => ns.getD j 0 == ms.getD j 0) = decide (ns = ms) := by
  rw [Bool.eq_iff_iff, List.all_eq_true, decide_eq_true_iff]
  constructor
  · intro q
    refine List.ext_getElem? fun i => ?_
    by_cases hi : i < ns.length
    · have := q i (List.mem_range.mpr hi)
      have e : ns.getD i 0 = ms.getD i 0 := by simpa using this
      rw [List.getD_eq_getElem?_getD, List.getD_eq_getElem?_getD, List.getElem?_eq_getElem hi, List.getElem?_eq_getElem (by rw [← h]; exact hi)] at e
      rw [List.getElem?_eq_getElem hi, List.getElem?_eq_getElem (by rw [← h]; exact hi)]
      exact congrArg some e
    · rw [List.getElem?_eq_none (by omega), List.getElem?_eq_none (by omega)]
  · intro e j _
    rw [e]; simp
theorem eqAt_ints {A : Around} {s : Shared} {ns ms : List Int} {us vs : List Value} (r1 : Vals (ns.map V.int) us) (r2 : Vals (ms.map V.int) vs) (j : Nat) (h1 : j < us.toArray.size) (h2 : j < vs.toArray.size) : SeqAt.EqAt A s us.toArray[j] vs.toArray[j] (ns.getD j 0 == ms.getD j 0) := by
  obtain ⟨t, e1⟩ := ints_at r1 (Array.getElem?_eq_getElem h1)
  obtain ⟨t', e2⟩ := ints_at r2 (Array.getElem?_eq_getElem h2)
  rw [e1, e2]
  exact SeqAt.EqAt.int_int _ _ _ _
theorem op_eqI {X : Cx} (hu : X.A.units < cLine) : OpR X (compareOp .Eq) (rEqI X.K false) := by
  intro pins s σ H x y v u Q I rx ry h
  obtain ⟨a, b, ns, ms, rfl, rfl, ha, hb, q⟩ := h
  cases rx; cases ry
  obtain ⟨its, r1, p1, _⟩ := I.list ha
  obtain ⟨its2, r2, p2, _⟩ := I.list hb
  have l1 := r1.length
  have l2 := r2.length
  rw [List.length_map] at l1 l2
  by_cases hl : ns.length = ms.length
  · refine SeqAt.eq_listAt p1.isList p2.isList (by rw [List.size_toArray, List.size_toArray]; omega) hu (fun j h1 h2 => eqAt_ints r1 r2 j h1 h2) ?_
    refine ⟨_, H, I, ?_, q⟩
    show Value.bool _ = Value.bool (decide (ns = ms))
    rw [List.size_toArray, ← l1, ints_all hl]
  · refine SeqAt.eq_list_lengthsAt p1.isList p2.isList (by rw [List.size_toArray, List.size_toArray]; simp; omega) hu ?_
    refine ⟨_, H, I, ?_, q⟩
    show Value.bool false = Value.bool (decide (ns = ms))
    rw [decide_eq_false fun e => hl (by rw [e])]
end L2
namespace L2
open PySem PySem.Spec PyProof.Rows
section
variable {X : Cx}
theorem op_andN : OpR X (binaryOp .BitAnd) (fun x y H Q => ∃ a b : Nat, x = .int a ∧ y = .int b ∧ Q (.int ((a &&& b : Nat) : Int)) H) := by
  intro pins s σ H x y v u Q I rx ry ⟨a, b, e1, e2, q⟩
  exact op_and pins s σ H x y v u Q I rx ry ⟨_, _, e1, e2, by show Q (.int (Builtin.bitAnd a b)) H; rw [and_nat]; exact q⟩
theorem op_orN : OpR X (binaryOp .BitOr) (fun x y H Q => ∃ a b : Nat, x = .int a ∧ y = .int b ∧ Q (.int ((a ||| b : Nat) : Int)) H) := by
  intro pins s σ H x y v u Q I rx ry ⟨a, b, e1, e2, q⟩
  exact op_or pins s σ H x y v u Q I rx ry ⟨_, _, e1, e2, by show Q (.int (Builtin.bitOr a b)) H; rw [or_nat]; exact q⟩
theorem op_shlN : OpR X (binaryOp .LShift) (fun x y H Q => ∃ k : Nat, x = .int 1 ∧ y = .int k ∧ k ≤ 1000 ∧ Q (.int ((2 ^ k : Nat) : Int)) H) := by
  intro pins s σ H x y v u Q I rx ry ⟨k, e1, e2, hk, q⟩
  exact op_shl pins s σ H x y v u Q I rx ry ⟨1, k, e1, e2, ⟨by omega, by omega, by decide⟩, by show Q (.int ((1 : Int) * 2 ^ (k : Int).toNat)) H; rw [shl_nat]; exact q⟩
theorem op_shrN : OpR X (binaryOp .RShift) (fun x y H Q => ∃ a k : Nat, x = .int a ∧ y = .int k ∧ Q (.int ((a / 2 ^ k : Nat) : Int)) H) := by
  intro pins s σ H x y v u Q I rx ry ⟨a, k, e1, e2, q⟩
  refine op_shr pins s σ H x y v u Q I rx ry ⟨a, k, e1, e2, by show (0 : Int) ≤ (k : Int); omega, ?_⟩
  show Q (.int ((a : Int) / 2 ^ (k : Int).toNat)) H
  rw [Int.toNat_natCast]
  have e : ((a / 2 ^ k : Nat) : Int) = (a : Int) / 2 ^ k := by rw [Int.natCast_ediv, Int.natCast_pow]; rfl
  rw [← e]; exact q
end
end L2
namespace L2
open PySem PySem.Spec PyProof.Rows
/-- the answer by an equation -/
theorem opE {X : Cx} {f : Value → Value → Sem Value} {C : Int → Int → Prop} {g : Int → Int → V} (h : OpR X f (rI C g)) : OpR X f (fun x y H Q => ∃ i j r, x = .int i ∧ y = .int j ∧ C i j ∧ g i j = r ∧ Q r H) := by
  intro pins s σ H x y v u Q I rx ry ⟨i, j, r, e1, e2, hc, e3, q⟩
  subst e3
  exact h pins s σ H x y v u Q I rx ry ⟨i, j, e1, e2, hc, q⟩
theorem opE0 {X : Cx} {f : Value → Value → Sem Value} {g : Int → Int → V} (h : OpR X f (rI0 g)) : OpR X f (fun x y H Q => ∃ i j r, x = .int i ∧ y = .int j ∧ g i j = r ∧ Q r H) := by
  intro pins s σ H x y v u Q I rx ry ⟨i, j, r, e1, e2, e3, q⟩
  subst e3
  exact h pins s σ H x y v u Q I rx ry ⟨i, j, e1, e2, q⟩
end L2


set_option Elab.async false
set_option linter.all false
set_option maxRecDepth 100000
/-! for a, b in zip(xs, ys) -/
namespace L2
open PySem PySem.Spec PyProof.Rows
section
variable {X : Cx} {pins : List (Addr × Obj)} {σ : St} {H : Hp} {s : Shared} {h' : Heap}
theorem Inv.turnedL {t' : Nat} {ch : List Addr} (I : Inv X pins σ H s) (k : ∀ b o, b ∉ ch → s.heap.get? b = some o → h'.get? b = some o) (hf : ∀ b ∈ ch, FpOk X pins H b) : Inv X pins σ H { s with heap := h', toks := t' } := by
  have nit : ∀ b u, H b = some u → b ∉ ch := fun b u e z => by have := (hf b z).1; rw [e] at this; cases this
  refine I.step (g' := s.gens) (d' := s.drawn) (ch := ch) (fun b hb => ?_) (fun b o _ _ hc e _ => k b o hc e) (fun b o _ _ hc e _ => ⟨o.slots, k b o hc e⟩) (fun _ _ _ _ n => n)
    (fun b o hc e => ⟨o, k b o hc e⟩) (fun _ _ e => e) (fun _ _ _ e => e) (fun b ps e => ⟨#[], by rw [e]; simp⟩) (fun m hm => ?_) (fun b u e => ?_) I.bare
  · obtain ⟨f0, f1, f2, f3, f4, f5⟩ := hf b hb
    exact ⟨f3, f1, f4, f5⟩
  · obtain ⟨o, es, ep, ho, r⟩ := hm
    exact ⟨o, es, ep, k _ o (fun z => (hf _ z).2.1 rfl) ho, r⟩
  · refine (I.hok b u e).stay (fun c v hc q => k c v ?_ q) (fun _ q => q) fun _ _ q => q
    rcases hc with z | z
    · rw [z]; exact nit b u e
    · exact nit c _ z
end
noncomputable def Itz (K : PySem.W.Frag) (a b : Addr) : It :=
  ⟨fun i H => ∃ xs x ys y, SqL K H a xs ∧ xs[i]? = some x ∧ SqL K H b ys ∧ ys[i]? = some y,
   fun i H v H' => ∃ p x y, v = .ref p ∧ H p = none ∧ H' = upd H p (.tup [x, y]) ∧ (∀ xs, SqL K H a xs → xs[i]? = some x) ∧ (∀ ys, SqL K H b ys → ys[i]? = some y),
   fun i H => ∃ xs ys, SqL K H a xs ∧ SqL K H b ys ∧ (xs.length ≤ i ∨ ys.length ≤ i)⟩
theorem turn_zip {P : Program} {w : World} {K : PySem.W.Frag} {es : List Expr} {kk : Nat} {pos : Pos} (a b z TI TO i1 i2 : Addr) (D : ZipApart z TI TO i1 i2 a b) :
    Turn P w K (.Tuple es kk pos) (Itz K a b) [z, TI, TO, i1, i2] z (fun i h => IsZip h z TI TO .none ∧ IsPair h TI (.ref i1) (.ref i2) ∧ (∃ u v, IsPair h TO u v) ∧ h.IsListIter i1 a i ∧ h.IsListIter i2 b i) where
  mem := by simp
  obj := fun i h st c hc => by
    obtain ⟨hz, hTI, ⟨u, v, hTO⟩, ⟨o1, e1, c1, d1⟩, ⟨o2, e2, c2, d2⟩⟩ := st
    simp only [List.mem_cons, List.not_mem_nil, or_false] at hc
    rcases hc with rfl | rfl | rfl | rfl | rfl
    · exact ⟨_, hz, fun v x => by cases x⟩
    · exact ⟨_, hTI, fun v x => by cases x⟩
    · exact ⟨_, hTO, fun v x => by cases x⟩
    · exact ⟨_, e1, fun v x => by rw [d1] at x; cases x⟩
    · exact ⟨_, e2, fun v x => by rw [d2] at x; cases x⟩
  keep := fun i h h' st k => by
    obtain ⟨hz, hTI, ⟨u, v, hTO⟩, h1, h2⟩ := st
    exact ⟨k z (by simp) _ hz, k TI (by simp) _ hTI, ⟨u, v, k TO (by simp) _ hTO⟩, h1.at fun o e => k i1 (by simp) o e, h2.at fun o e => k i2 (by simp) o e⟩
  item := by
    intro X hP hw hK hc i pins s σ H E I hf st hg
    subst hP hw hK
    obtain ⟨hz, hTI, ⟨u, v, hTO⟩, h1, h2⟩ := st
    obtain ⟨xs, x, ys, y, hq1, hx, hq2, hy⟩ := hg
    obtain ⟨its, rv, p, hz1⟩ := I.list hq1
    obtain ⟨its2, rv2, p2, hz2⟩ := I.list hq2
    obtain ⟨ux, hux, rux⟩ := rv.get hx
    obtain ⟨uy, huy, ruy⟩ := rv2.get hy
    refine wpAny_pyNext_zip_item D hz hTI hTO h1 h2 p.isList p2.isList (x := ux) (y := uy) (by simpa using hux) (by simpa using huy) fun h' a1 a2 a3 a4 a5 a6 hk => ?_
    have lt : ∀ {c o}, s.heap.get? c = some o → c < s.heap.objs.size := fun e => Heap.lt_size e
    have ltz : ∀ c ∈ [z, TI, TO, i1, i2], c < s.heap.objs.size := by
      intro c hc
      simp only [List.mem_cons, List.not_mem_nil, or_false] at hc
      rcases hc with rfl | rfl | rfl | rfl | rfl
      · exact lt hz
      · exact lt hTI
      · exact lt hTO
      · obtain ⟨_, e, _⟩ := h1; exact lt e
      · obtain ⟨_, e, _⟩ := h2; exact lt e
    -- the tuple is laid, then the iterator's objects turn
    have I1 : Inv X pins σ (upd H s.heap.objs.size (.tup [x, y])) { s with heap := s.heap.push { cls := .type "tuple", data := .seq #[ux, uy] }, toks := s.toks } := by
      refine I.laid (fun c o e => Heap.get?_push_of_some _ e) (Nat.le_refl _) ⟨by show 2 ≤ sizeLine; decide, [ux, uy], .cons rux (.cons ruy .nil), ?_⟩
      exact ⟨_, Heap.get?_push_size _ rfl, rfl, _, rfl⟩
    have hfr : ∀ c ∈ [z, TI, TO, i1, i2], upd H s.heap.objs.size (.tup [x, y]) c = none := fun c hc => by
      rw [upd_ne (Nat.ne_of_lt (ltz c hc))]; exact (hf c hc).1
    have hf1 : ∀ c ∈ [z, TI, TO, i1, i2], FpOk X pins (upd H s.heap.objs.size (.tup [x, y])) c := fun c hc => ⟨hfr c hc, (hf c hc).2⟩
    have kk : ∀ c o, c ∉ [z, TI, TO, i1, i2] → (s.heap.push { cls := .type "tuple", data := .seq #[ux, uy] }).get? c = some o → h'.get? c = some o := fun c o hc e => by
      rcases Heap.get?_push_cases e with ⟨e9, e8⟩ | e'
      · subst e9 e8; exact a5
      · exact hk c o (fun x => hc (by simp [x])) (fun x => hc (by simp [x])) (fun x => hc (by simp [x])) (fun x => hc (by simp [x])) e'
    have I2 : Inv X pins σ (upd H s.heap.objs.size (.tup [x, y])) { s with heap := h' } := by
      have z := Inv.turnedL (t' := s.toks) I1 kk hf1
      exact z
    refine ⟨_, rfl, wpAny_letOwnedTupleGo_zip (s := { s with heap := h' }) a1 fun h'' hz'' hs'' => ?_⟩
    have I3 : Inv X pins σ (upd H s.heap.objs.size (.tup [x, y])) { s with heap := h'' } :=
      by
      have z := Inv.turnedL (h' := h'') (t' := s.toks) (ch := [z]) I2 (fun c o hc e => hs''.extBut c o (fun q => hc (by simp [q])) e) (fun c hc => hf1 c (by simp at hc; simp [hc]))
      exact z
    refine ⟨.ref s.heap.objs.size, _, I3, rfl, ⟨_, x, y, rfl, I.hok.fresh (Nat.le_refl _), rfl, fun zs hzs => by rw [I.list_inj hzs hq1]; exact hx, fun zs hzs => by rw [I.list_inj hzs hq2]; exact hy⟩, ?_, hfr⟩
    have hTI' : IsPair h' TI (.ref i1) (.ref i2) := hk _ _ D.TIz D.TITO D.TIi1 D.TIi2 hTI
    exact ⟨hz'', hs''.extBut _ _ D.TIz hTI', ⟨_, _, hs''.extBut _ _ D.TOz a2⟩, a3.extBut hs''.extBut D.i1z, a4.extBut hs''.extBut D.i2z⟩
  done := by
    intro X hP hw hK hc i pins s σ H E I hf st hg
    subst hP hw hK
    obtain ⟨hz, hTI, ⟨u, v, hTO⟩, h1, h2⟩ := st
    obtain ⟨xs, ys, hq1, hq2, hend⟩ := hg
    obtain ⟨its, rv, p, hz1⟩ := I.list hq1
    obtain ⟨its2, rv2, p2, hz2⟩ := I.list hq2
    have l1 := rv.length
    have l2 := rv2.length
    refine wpAny_pyNext_zip_end (I.ok.hd hc) D hz hTI hTO h1 h2 p.isList p2.isList ?_ fun h' hk => ⟨rfl, ?_⟩
    · rcases hend with q | q
      · exact .inl (by simp; omega)
      · exact .inr (by simp; omega)
    · exact I.turnedL (t' := s.toks) (ch := [z, TI, TO, i1, i2]) (fun c o hc e => hk c o (fun x => hc (by simp [x])) (fun x => hc (by simp [x])) (fun x => hc (by simp [x])) (fun x => hc (by simp [x])) e) hf
  self := fun _ _ _ _ _ st h => wpAny_pyIter_zip st.1 h
noncomputable def iZip (K : PySem.W.Frag) (ta : TA) : TI := fun σ H R => ta σ H fun vs H1 => ∃ a b, vs = [.ref a, .ref b] ∧ (∃ xs, SqL K H1 a xs) ∧ (∃ ys, SqL K H1 b ys) ∧ R (Itz K a b) H1
theorem pi_zip {X : Cx} {es : List Expr} {kk : Nat} {tp : Pos} {a b : Expr} {ta : TA} {p pos : Pos} (hg : Gl X "zip") (hm : X.mg "zip" = none) (ha : PA X [a, b] ta) (hs : noStar a = true) (hs2 : noStar b = true) :
    PI X (.Tuple es kk tp) (.Call (.Name "zip" p) [a, b] [] pos) (iZip X.K ta) := by
  intro pins s σ H R I h
  refine Call_ (ld_blt I hg hm boot_zip (PyProof.Rows.callWith_type1 (thn (ha pos pins s σ H _ I h) fun us s1 zz => ?_) (by rw [star_cons hs, star_cons hs2]) (by rw [star_cons hs2]; rfl)))
  obtain ⟨vs, H1, I1, r1, q1⟩ := zz
  obtain ⟨l1, l2, e, ⟨xs, hq1⟩, ⟨ys, hq2⟩, q⟩ := q1
  subst e
  obtain ⟨u, u', rfl, ru, ru'⟩ := vals2 r1
  cases ru; cases ru'
  obtain ⟨its, rv, p1, _⟩ := I1.list hq1
  obtain ⟨its2, rv2, p2, _⟩ := I1.list hq2
  have lt1 : l1 < s1.heap.objs.size := by obtain ⟨_, e, _⟩ := p1.isList; exact Heap.lt_size e
  have lt2 : l2 < s1.heap.objs.size := by obtain ⟨_, e, _⟩ := p2.isList; exact Heap.lt_size e
  refine call_zip_2 p1.isList p2.isList fun h' hz hTI hTO hi1 hi2 hsz hk => ?_
  refine wpAny_pyIter_zip hz ?_
  refine ⟨s1.heap.objs.size + 4, _, _, _, H1, rfl, I1.kept (t' := s1.toks) hk, turn_zip l1 l2 _ _ _ _ _ (zipApart_new lt1 lt2), ⟨hz, hTI, ⟨_, _, hTO⟩, hi1, hi2⟩, fun c hc => ?_, q⟩
  have hge : s1.heap.objs.size ≤ c := by
    simp only [List.mem_cons, List.not_mem_nil, or_false] at hc
    rcases hc with rfl | rfl | rfl | rfl | rfl
    · exact Nat.le_add_right _ _
    · exact Nat.le_add_right _ _
    · exact Nat.le_add_right _ _
    · exact Nat.le_refl _
    · exact Nat.le_add_right _ _
  exact I1.fpOk hge (I1.hok.fresh hge)
namespace R
theorem pi_zip {X : Cx} {es : List Expr} {kk : Nat} {tp : Pos} {a b : Expr} {ta : TA} {p pos : Pos} (hg : Gl X "zip") (hm : X.mg "zip" = none) (ha : QA X [a, b] ta) (hs : noStar a = true := by rfl) (hs2 : noStar b = true := by rfl) :
    QI X (.Tuple es kk tp) (.Call (.Name "zip" p) [a, b] [] pos) (iZip X.K ta) := ⟨L2.pi_zip hg hm ha.h hs hs2⟩
end R
/-! ### the forms one uses -/
theorem comp_zip2 {K : PySem.W.Frag} {fr : List Nat} {tt : TT} {te : TE} {σ : St} {Q : VK} {H1 : Hp} {l : Addr} {a b : Addr} {xs ys : List V} (hlen : xs.length = ys.length) (Pv : Nat → Hp → Prop) (h0 : Pv 0 (upd H1 l (.lst []))) (hl : ∀ k H, k ≤ xs.length → Pv k H → SqL K H a xs ∧ SqL K H b ys)
    (hs : ∀ k x y p H, xs[k]? = some x → ys[k]? = some y → Pv k H → H p = none → Turn2 fr tt te σ l x y (upd H p (.tup [x, y])) (Pv (k + 1))) (hd : ∀ H, Pv xs.length H → Q (.ref l) H) :
    CompGoal (Itz K a b) 2 (gTup K 2 (gCons (gName 0) (gCons (gName 1) gNil))) fr tt te σ Q H1 l :=
  comp_by2 xs.length Pv h0 (fun k H h p => ⟨xs, xs[k], ys, ys[k], (hl k H (Nat.le_of_lt h) p).1, by simp [h], (hl k H (Nat.le_of_lt h) p).2, by simp [hlen ▸ h]⟩) (fun H p => ⟨xs, ys, (hl _ H (Nat.le_refl _) p).1, (hl _ H (Nat.le_refl _) p).2, .inl (Nat.le_refl _)⟩)
    (fun k H v H' hk p hy => by
      obtain ⟨q, x, y, rfl, hn, rfl, h1, h2⟩ := hy
      exact ⟨q, x, y, rfl, SqT.of upd_same, hs k x y q H (h1 _ (hl k H (Nat.le_of_lt hk) p).1) (h2 _ (hl k H (Nat.le_of_lt hk) p).2) p hn⟩) hd
end L2


set_option Elab.async false
set_option linter.all false
set_option maxRecDepth 100000
/-! max(xs, default=d) -/
namespace L2
open PySem PySem.Spec PyProof.Rows
section
variable {prog : Program} {w : World} {A : Around} {R : Result → Shared → Prop} {I : Addr} {fp wr : List Addr} {n : Nat} {P : Nat → Value → Prop} {St' : Nat → Heap → Prop} {kw : List (Str × Value)}
theorem gv_mx (W : Walks prog w A.in1 I fp wr n P St') (bt : Nat → Nat → Bool) (cmp : CmpOf prog w A.in1 .Gt P bt) {S : Addr} (nf : S ∉ fp) :
    ∀ (k j : Nat) (s : Shared) (vb : Value) (c : Nat), (j + 1) + k = n → St' (j + 1) s.heap → P (argBest bt j) vb → s.heap.get? S = some { cls := .type "list", dict := none, data := .seq #[vb, vb] c, slots := #[] } →
      (∀ v h' tk, P (argBest bt (n - 1)) v → (∀ b o, b ∉ wr → b ≠ S → s.heap.get? b = some o → h'.get? b = some o) → R (.ok (.ret v)) { s with heap := h', toks := tk }) →
      codeAny (model prog w) A (.builtin "max.loop" ⟨[.ref I, .none, .ref S], kw⟩) R s := by
  have nw : S ∉ wr := fun z => nf (W.sub _ z)
  have nm : (toString "max" ++ toString ".loop" : String) = "max.loop" := by decide
  intro k
  induction k with
  | zero =>
    intro j s vb c e0 st pb hS hR
    have e1 : n = j + 1 := by omega
    subst e1
    refine codeAny_builtin F.entry_max_loop ?_; rw [Around.under_plainId F.plain_max_loop _]; show wpAny _ A.in1 (seqItems? (.ref S) >>= _) _ _ s; refine wpAny_bind (wpAny_seqItems hS rfl ?_); show wpAny _ A.in1 (tryCatch (pyNext (.ref I)) _ >>= _) _ _ s
    refine wpAny_bind (wpAny_tryCatch (W.done s _ _ st fun g tk keep => ?_))
    show wpAny _ A.in1 (updateSeq S (fun _ => #[]) >>= _) _ _ _
    refine wpAny_bind (wpAny_updateSeq (keep S _ nw hS) rfl (wpAny_bind (wpAny_letGo (wpAny_pure (hR vb _ tk pb fun b o q1 q2 e => ?_)))))
    exact (Heap.get?_update_other _ _ (Ne.symm q2)).trans (keep b o q1 e)
  | succ k ih =>
    intro j s vb c e0 st pb hS hR
    refine codeAny_builtin F.entry_max_loop ?_; rw [Around.under_plainId F.plain_max_loop _]; show wpAny _ A.in1 (seqItems? (.ref S) >>= _) _ _ s; refine wpAny_bind (wpAny_seqItems hS rfl ?_); show wpAny _ A.in1 (tryCatch (pyNext (.ref I)) _ >>= _) _ _ s
    refine wpAny_bind (wpAny_tryCatch (W.item (j + 1) s _ _ (by omega) st fun v g tk pv st2 keep => ?_))
    have hS2 := keep S _ nw hS
    show wpAny _ A.in1 (tryCatch (holding [v, v] (richCompare .Gt v vb >>= _)) _ >>= _) _ _ _
    refine wpAny_bind (wpAny_tryCatch (wpAny_holding (wpAny_bind (cmp (j + 1) (argBest bt j) v vb _ _ _ pv pb (wpAny_bind (wpAny_holding (wpAny_truthy_bool (wpAny_bind (wpAny_letGo (wpAny_pure ?_)))))))))) 
    have ea : argBest bt (j + 1) = if bt (j + 1) (argBest bt j) = true then j + 1 else argBest bt j := rfl
    by_cases hb : bt (j + 1) (argBest bt j) = true
    · rw [if_pos hb] at ea ⊢
      refine wpAny_bind (wpAny_updateSeq hS2 rfl (wpAny_bind (wpAny_letGo ?_)))
      rw [nm]
      refine wpAny_pure ⟨plainId_quiet F.plain_max_loop _, ih (j + 1) _ v _ (by omega) (W.frame _ _ _ st2 fun b q o e => ?_) (by rw [ea]; exact pv) (Heap.get?_update_self _ hS2 rfl) fun v' g' tk' pv' keep' => ?_⟩
      · exact (Heap.get?_update_other _ _ (fun z : S = b => nf (z ▸ q))).trans e
      · exact hR v' g' tk' pv' fun b o q1 q2 e => keep' b o q1 q2 ((Heap.get?_update_other _ _ (Ne.symm q2)).trans (keep b o q1 e))
    · rw [if_neg hb] at ea ⊢
      refine wpAny_bind (wpAny_letGo ?_)
      rw [nm]
      refine wpAny_pure ⟨plainId_quiet F.plain_max_loop _, ih (j + 1) _ vb c (by omega) st2 (by rw [ea]; exact pb) hS2 fun v' g' tk' pv' keep' => ?_⟩
      exact hR v' g' tk' pv' fun b o q1 q2 e => keep' b o q1 q2 (keep b o q1 e)
theorem gv_mx0 {d : Value} (W : Walks prog w A.in1 I fp wr n P St') (bt : Nat → Nat → Bool) (cmp : CmpOf prog w A.in1 .Gt P bt) {S : Addr} (nf : S ∉ fp) {s : Shared} {c : Nat} (st : St' 0 s.heap) (hS : s.heap.get? S = some { cls := .type "list", dict := none, data := .seq #[] c, slots := #[] })
    (hR : ∀ v h' tk, (n = 0 ∧ v = d ∨ 0 < n ∧ P (argBest bt (n - 1)) v) → (∀ b o, b ∉ wr → b ≠ S → s.heap.get? b = some o → h'.get? b = some o) → R (.ok (.ret v)) { s with heap := h', toks := tk }) :
    codeAny (model prog w) A (.builtin "max.loop" ⟨[.ref I, .none, .ref S], [(Str.ofString "default", d)]⟩) R s := by
  have nw : S ∉ wr := fun z => nf (W.sub _ z)
  have nm : (toString "max" ++ toString ".loop" : String) = "max.loop" := by decide
  refine codeAny_builtin F.entry_max_loop ?_; rw [Around.under_plainId F.plain_max_loop _]; show wpAny _ A.in1 (seqItems? (.ref S) >>= _) _ _ s; refine wpAny_bind (wpAny_seqItems hS rfl ?_); show wpAny _ A.in1 (tryCatch (pyNext (.ref I)) _ >>= _) _ _ s
  rcases Nat.eq_zero_or_pos n with e0 | e0
  · refine wpAny_bind (wpAny_tryCatch (W.done s _ _ (by rw [e0]; exact st) fun g tk keep => ?_))
    refine wpAny_bind (wpAny_rule (wpAny_pure ?_))
    exact hR d g tk (.inl ⟨e0, rfl⟩) fun b o q1 _ e => keep b o q1 e
  · refine wpAny_bind (wpAny_tryCatch (W.item 0 s _ _ e0 st fun v g tk pv st2 keep => ?_))
    have hS2 := keep S _ nw hS
    show wpAny _ A.in1 (updateSeq S (fun _ => #[v, v]) >>= _) _ _ _
    refine wpAny_bind (wpAny_updateSeq hS2 rfl ?_)
    rw [nm]
    refine wpAny_pure ⟨plainId_quiet F.plain_max_loop _, gv_mx W bt cmp nf (n - 1) 0 _ v _ (by omega) (W.frame _ _ _ st2 fun b q o e => ?_) pv (Heap.get?_update_self _ hS2 rfl) fun v' g' tk' pv' keep' => ?_⟩
    · exact (Heap.get?_update_other _ _ (fun z : S = b => nf (z ▸ q))).trans e
    · exact hR v' g' tk' (.inr ⟨e0, pv'⟩) fun b o q1 q2 e => keep' b o q1 q2 ((Heap.get?_update_other _ _ (Ne.symm q2)).trans (keep b o q1 e))
end
theorem gv_max_args (a v : Value) : argsOk "max" ⟨[a], [(Str.ofString "default", v)]⟩ := by unfold argsOk; kernel_rfl
section
variable {X : Cx}
theorem gv_maxD {pins : List (Addr × Obj)} {s : Shared} {σ : St} {H : Hp} {Q : VK} {p : Addr} {ns : List Int} {d : Int} {t : Tok} (hc : X.calm = true) (J : Inv X pins σ H s) (hq : SqL X.K H p (ns.map V.int)) (q0 : ns = [] → Q (.int d) H) (q1 : ∀ m, IsMax ns m → Q (.int m) H) :
    wpAny (model X.prog X.w) X.A (call (.builtin "max") [.ref p] [(Str.ofString "default", .int d t)]) (EP X pins σ Q) X.xe s := by
  obtain ⟨its, r', pl, hz⟩ := J.list hq
  have hl := r'.length
  rw [List.length_map] at hl
  have hlt : p < s.heap.objs.size := by obtain ⟨_, e, _⟩ := pl.isList; exact Heap.lt_size e
  have nm : (toString "max" ++ toString ".loop" : String) = "max.loop" := by decide
  refine kmk_tree PySem.F.kind_max PySem.F.plain_max PySem.F.entry_max (gv_max_args _ _) ?_
  show wpAny _ X.A.in1 (Builtin.Builtins.bindParams "max" ["key", "default"] 0 ⟨[], [(Str.ofString "default", .int d t)]⟩ >>= _) _ _ s
  refine wpAny_bind (wpAny_of_eq (show Builtin.Builtins.bindParams "max" ["key", "default"] 0 ⟨[], [(Str.ofString "default", .int d t)]⟩ = pure [none, some (.int d t)] from rfl) (wpAny_bind (wpAny_pure ?_)))
  refine wpAny_bind (wpAny_pyIter_list pl.isList (wpAny_bind (wpAny_newObj_type ?_)))
  rw [nm]
  have hI : p ≠ s.heap.objs.size := Nat.ne_of_lt hlt
  have hsz : (s.heap.push { cls := .type "list_iterator", data := .fields #[.ref p, .int 0 0] }).objs.size = s.heap.objs.size + 1 := Heap.size_push ..
  refine wpAny_pure ⟨plainId_quiet F.plain_max_loop _, gv_mx0 (Walks.list (A := X.A.in1) (J.ok.hd hc) s.heap.objs.size p hI its.toArray) _ (CmpOf.ints_gt (fun i => ns.getD i 0) (fun i v e => ints_at r' e)) ?_ ?_ (Heap.get?_push_size _ rfl) ?_⟩
  · intro z
    rw [hsz] at z
    rcases List.mem_cons.mp z with z | z
    · exact absurd z (Nat.ne_of_gt (Nat.lt_succ_self _))
    · have z' := List.mem_singleton.mp z
      exact absurd z'.symm (Nat.ne_of_lt (Nat.lt_succ_of_lt hlt))
  · exact ⟨⟨_, Heap.get?_push_of_some _ (Heap.get?_push_size _ rfl), rfl, rfl⟩, (pl.isList.push _).push _⟩
  · intro v g tk hv keep
    have J' : Inv X pins σ H { s with heap := g, toks := tk } := by
      refine J.kept fun b o e => keep b o (fun z => ?_) (fun z => ?_) (Heap.get?_push_of_some _ (Heap.get?_push_of_some _ e))
      · rw [List.mem_singleton.mp z] at e; exact absurd (Heap.lt_size e) (Nat.lt_irrefl _)
      · rw [z, hsz] at e; exact absurd (Nat.lt_of_succ_lt (Heap.lt_size e)) (Nat.lt_irrefl _)
    rcases hv with ⟨e0, rfl⟩ | ⟨e0, hv⟩
    · rw [List.size_toArray] at e0
      exact ⟨.int d, H, J', ⟨t, rfl⟩, q0 (List.length_eq_zero_iff.mp (by omega))⟩
    · obtain ⟨t', rfl⟩ := ints_at r' hv
      rw [List.size_toArray] at e0
      refine ⟨.int _, H, J', ⟨t', rfl⟩, q1 _ ?_⟩
      rw [List.size_toArray, ← hl]
      exact best_isMax (by omega)
noncomputable def tMaxD (K : PySem.W.Frag) (te td : TE) : TE := fun σ H Q => te σ H fun x H1 => td σ H1 fun y H2 => ∃ (p : Addr) (ns : List Int) (d : Int), x = .ref p ∧ y = .int d ∧ SqL K H2 p (ns.map V.int) ∧ (ns = [] → Q (.int d) H2) ∧ ∀ m, IsMax ns m → Q (.int m) H2
theorem pe_maxD {e d : Expr} {te td : TE} {p kpos pos : Pos} (hc : X.calm = true) (hg : Gl X "max") (hm : X.mg "max" = none) (ha : PE X e te) (hd : PE X d td) (hs : noStar e = true) :
    PE X (.Call (.Name "max" p) [e] [⟨some "default", d, kpos⟩] pos) (tMaxD X.K te td) := by
  intro pins s σ H Q I h
  refine wpAny_Call_Name_kw (ld_blt I hg hm boot_max ?_)
  refine callWith_kw (thn ((pa_c ha pa_nil hs) pos pins s σ H (fun vs H1 => match vs with
    | [x] => td σ H1 fun y H2 => ∃ (p : Addr) (ns : List Int) (d : Int), x = .ref p ∧ y = .int d ∧ SqL X.K H2 p (ns.map V.int) ∧ (ns = [] → Q (.int d) H2) ∧ ∀ m, IsMax ns m → Q (.int m) H2
    | _ => False) I h) fun us s1 zz => ?_) (by rw [star_cons hs]; rfl) (by rw [star_cons hs]; rfl) rfl rfl
  obtain ⟨vs, H1, I1, r1, q1⟩ := zz
  match vs, q1 with
  | [x], q1 =>
    obtain ⟨u, rfl, ru⟩ := vals1 r1
    refine kws_cons (thn (hd pins s1 σ H1 _ I1 q1) fun v s2 zz => kws_nil ?_)
    obtain ⟨y, H2, I2, r2, p2, ns, dd, e1, e2, hq, q0, qm⟩ := zz
    subst e1 e2
    cases ru
    obtain ⟨t, rfl⟩ := r2
    exact gv_maxD hc I2 hq q0 qm
end
namespace R
theorem pe_maxD {X : Cx} (K : PySem.W.Frag) {e d : Expr} {te td : TE} {p kpos pos : Pos} (hc : X.calm = true) (hg : Gl X "max") (hm : X.mg "max" = none) (ha : QE X e te) (hd : QE X d td) (hs : noStar e = true := by rfl) (hK : X.K = K := by rfl) :
    QE X (.Call (.Name "max" p) [e] [⟨some "default", d, kpos⟩] pos) (tMaxD K te td) := by subst hK; exact ⟨L2.pe_maxD hc hg hm ha.h hd.h hs⟩
end R
end L2


set_option Elab.async false
set_option linter.all false
set_option maxRecDepth 100000
/-! bundles within bundles; what offers tell -/
namespace L2
/-! ### parts -/
/-! ### worths and offers -/
/-- the greatest number of a list, 0 of none -/
noncomputable def top (ns : List Int) : Int := ns.foldl max 0
theorem top_ge (ns : List Int) : ∀ a : Int, a ≤ ns.foldl max a ∧ ∀ x ∈ ns, x ≤ ns.foldl max a := by
  induction ns with
  | nil => intro a; exact ⟨Int.le_refl _, fun x h => by cases h⟩
  | cons y ns ih =>
    intro a
    obtain ⟨h1, h2⟩ := ih (max a y)
    refine ⟨Int.le_trans (Int.le_max_left a y) h1, fun x hx => ?_⟩
    rcases List.mem_cons.mp hx with e | hx
    · rw [e]; exact Int.le_trans (Int.le_max_right a y) h1
    · exact h2 x hx
theorem top_mem (ns : List Int) : ∀ a : Int, ns.foldl max a = a ∨ ns.foldl max a ∈ ns := by
  induction ns with
  | nil => intro a; exact .inl rfl
  | cons y ns ih =>
    intro a
    show ns.foldl max (max a y) = a ∨ ns.foldl max (max a y) ∈ y :: ns
    rcases ih (max a y) with h | h
    · rw [h]
      rcases Int.le_total a y with q | q
      · rw [Int.max_eq_right q]; exact .inr List.mem_cons_self
      · rw [Int.max_eq_left q]; exact .inl rfl
    · exact .inr (List.mem_cons_of_mem _ h)
theorem top_isMax {ns : List Int} {m : Int} (h0 : ∀ x ∈ ns, 0 ≤ x) (h : IsMax ns m) : m = top ns := by
  have h1 := (top_ge ns 0).2 m h.1
  rcases top_mem ns 0 with e | e
  · have := h0 m h.1
    unfold top; omega
  · have := h.2 _ e
    unfold top; omega
end L2


set_option Elab.async false
set_option linter.all false
set_option maxRecDepth 100000
/-! a def with one default value, whatever it is -/
namespace L2
open PySem PySem.Spec PyProof.Rows
section
variable {P : Program} {w : World} {K : PySem.W.Frag} {mg : Str → Option Value} {base : Heap}
end
end L2


set_option Elab.async false
set_option linter.all false
set_option maxRecDepth 100000
/-! tuples of two whole numbers and lists of them: !=, ==; list.clear, pop(i), insert; a < b < c -/
namespace L2
open PySem PySem.Spec PyProof.Rows
section
variable {X : Cx}
end
/-! ### shut -/
namespace R
section
variable {X : Cx} {e e2 o a b c : Expr} {to ta tb tc : TE} {t : TA} {pos apos cpos : Pos}
theorem pe_clear (ho : QE X o to) (hbase : attributeBase o "clear" X.env (eval o X.env) = eval o X.env := by rfl) (hline : (apos.endLine == cpos.line) = true := by rfl) :
    QE X (.Call (.Attribute o "clear" apos) [] [] cpos) (tBM0 X.K "list" rClear to) := ⟨pe_bm0 PySem.F.plainAttrs_list PySem.F.slot_list_clear PySem.F.type_list_clear mt_clear ho.h hbase hline⟩
theorem pe_chain {op op' : CmpOp} {r r' : R2} (h1 : OpR X (compareOp op) r) (h2 : OpR X (compareOp op') r') (ha : QE X a ta) (hb : QE X b tb) (hc : QE X c tc)
    (hm : lastMarks [op, op'] [b, c] = false := by with_unfolding_all rfl) : QE X (.Compare a [op, op'] [b, c] pos) (tChain r r' ta tb tc) := ⟨L2.pe_chain h1 h2 ha.h hb.h hc.h hm⟩
theorem pt_chain {op op' : CmpOp} {r r' : R2} (h1 : OpR X (compareOp op) r) (h2 : OpR X (compareOp op') r') (ha : QE X a ta) (hb : QE X b tb) (hc : QE X c tc)
    (hm : lastMarks [op, op'] [b, c] = false := by with_unfolding_all rfl) : QT X (.Compare a [op, op'] [b, c] pos) (tTest (tChain r r' ta tb tc)) := ⟨L2.pt_chain h1 h2 ha.h hb.h hc.h hm⟩
end
end R
end L2


set_option Elab.async false
set_option linter.all false
set_option maxRecDepth 100000
/-! own classes: making, fields, methods chosen by the object's class, isinstance -/
namespace L2
open PySem PySem.Spec PyProof.Rows
noncomputable def clsBody (s : Stmt) : List Stmt := match s with
  | .ClassDef _ _ _ b _ _ _ _ _ _ _ => b
  | _ => []
/-- what is known of an own class: its name in the module, the names that are no attributes of it -/
structure Own (K : PySem.W.Frag) (mg : Str → Option Value) (x : Str) (C : Addr) (nos : List Str) : Prop where
  at_ : mg x = some (.ref C)
  cls : Cls K C
  makes : PySem.W.makesIn K C = true
  kp : PySem.W.keepIn K (.ref C) = true
  no : ∀ f ∈ nos, NoAttr K C f
  t1 : PySem.W.findIn K (.ref C) "__class__" = some (some (.builtin "object.__class__"))
  t2 : PySem.W.specialIn K (.builtin "object.__class__") "__get__" = some (some (.builtin "getset_descriptor.__get__"))
  t3 : PySem.W.takesIn K (.builtin "object.__class__") = some true
  t4 : PySem.W.mroIn K C (.type "object") = some true
theorem Own.ty {K : PySem.W.Frag} {mg : Str → Option Value} {x : Str} {C a dx : Addr} {nos : List Str} {H : Hp} {fs : List (Str × V)} (O : Own K mg x C nos) (e : H a = some (.ins C dx fs)) : TyOf K H (.ref a) (.ref C) := .ins e O.cls O.t1 O.t2 O.t3 O.t4
structure MethD (P : Program) (w : World) (K : PySem.W.Frag) (mg : Str → Option Value) (base : Heap) (k : Nat) (C : Addr) (m : Str) (ps : List Str) (sp : Sp) : Prop where
  ex : ∃ (f : Addr) (fd : FuncData), FnOk P w K mg base CX0 k f fd ps sp ∧ Binds K fd ps [] ∧ Meth K C m f ∧ Cls K C
structure MakeD (P : Program) (w : World) (K : PySem.W.Frag) (mg : Str → Option Value) (base : Heap) (k : Nat) (x : Str) (C : Addr) (ps : List Str) (sp : Sp) : Prop where
  ex : ∃ (f : Addr) (fd : FuncData), FnOk P w K mg base CX0 k f fd ps sp ∧ Binds K fd ps [] ∧ Mk K C f ∧ mg x = some (.ref C)
structure Make0 (K : PySem.W.Frag) (mg : Str → Option Value) (x : Str) (C : Addr) : Prop where
  makes : PySem.W.makesIn K C = true
  init : PySem.W.findIn K (.ref C) "__init__" = some (some (.builtin "object.__init__"))
  kp : PySem.W.keepIn K (.ref C) = true
  at_ : mg x = some (.ref C)
section
variable {X : Cx}
theorem run_make0 {pins : List (Addr × Obj)} {σ : St} {H : Hp} {s : Shared} {Q : VK} {C : Addr} {x : Str} (M : Make0 X.K X.mg x C) (I : Inv X pins σ H s)
    (h : ∀ a dx, H a = none → H dx = none → dx ≠ a → Q (.ref a) (upd (upd H dx (.own a)) a (.ins C dx []))) : wpAny (model X.prog X.w) X.A (call (.ref C) []) (EP X pins σ Q) X.xe s := by
  have hq := h (s.heap.objs.size + 1) s.heap.objs.size (I.hok.fresh (Nat.le_succ _)) (I.hok.fresh (Nat.le_refl _)) (Nat.ne_of_lt (Nat.lt_succ_self _))
  have I2 := Inv.made (C := C) I
  have Y := PySem.W.makes_of (M := model X.prog X.w) I.kIn M.makes
  have up : ∀ b o, s.heap.get? b = some o → ((s.heap.push PySem.W.emptyDict).push (PySem.W.instObj C s.heap.objs.size)).get? b = some o := fun b o e => Heap.get?_push_of_some _ (Heap.get?_push_of_some _ e)
  have hx : ((s.heap.push PySem.W.emptyDict).push (PySem.W.instObj C s.heap.objs.size)).get? (s.heap.objs.size + 1) = some (PySem.W.instObj C s.heap.objs.size) := by
    have z := Heap.get?_push_size (s.heap.push PySem.W.emptyDict) (o := PySem.W.instObj C s.heap.objs.size) rfl
    rwa [Heap.size_push] at z
  have t1 : PySem.W.Looks (model X.prog X.w) ((s.heap.push PySem.W.emptyDict).push (PySem.W.instObj C s.heap.objs.size)) (typeOf (.ref (s.heap.objs.size + 1))) (.ref C) := (PySem.W.Looks.ld hx).andThen .now
  have t2 : PySem.W.Looks (model X.prog X.w) ((s.heap.push PySem.W.emptyDict).push (PySem.W.instObj C s.heap.objs.size)) (isInstance (.ref (s.heap.objs.size + 1)) (.type "object")) true := t1.andThen (Y.top.keeps up)
  refine wpAny_call (make_map0 I.kIn M.makes M.init (fun self => PySem.W.Looks.of_pure (PySem.W.oi_bind self)) ?_)
  refine codeAny_call_builtin PySem.W.oi_plain PySem.W.entry_oi (@PySem.W.check_slot (model X.prog X.w) _ _ _ "object.__init__" "object" "__init__" (.ref (s.heap.objs.size + 1)) [] [] _ PySem.W.oi_kind PySem.W.oi_split t2 (PySem.W.oi_args (.ref (s.heap.objs.size + 1))) ?_)
  rw [PySem.W.oi_run]
  exact wpAny_pure (And.intro rfl ⟨V.ref (s.heap.objs.size + 1), _, I2, rfl, hq⟩)
noncomputable def tMake0 (C : Addr) : TE := fun _ H Q => ∀ a dx, H a = none → H dx = none → dx ≠ a → Q (.ref a) (upd (upd H dx (.own a)) a (.ins C dx []))
theorem pe_mk0 {x : Str} {C : Addr} {p pos : Pos} (M : Make0 X.K X.mg x C) (hg : Gl X x) (hdb : (x == ("__debug__" : Str)) = false := by decide) : PE X (.Call (.Name x p) [] [] pos) (tMake0 C) := by
  intro pins s σ H Q I h
  exact wpAny_Call_Name_kw (ld_glob I hg M.at_ (PySem.W.callWith_K0 I.kIn M.kp (run_make0 M I h)) hdb)
/-- o.m(..): T tells the promise of m by the object's class -/
noncomputable def tMethV (T : Addr → Sp → Prop) (m : Str) (ta : TE) (t : TA) : TE := fun σ H Q => ta σ H fun x H1 => ∃ (a C dx : Addr) (fs : List (Str × V)) (sp : Sp), x = .ref a ∧ H1 a = some (.ins C dx fs) ∧ fs.lookup m = none ∧ T C sp ∧ t σ H1 fun vs H2 => sp (x :: vs) H2 Q E0
theorem pe_methV {T : Addr → Sp → Prop} {m : Str} {o e : Expr} {es : List Expr} {ta : TE} {t : TA} {apos pos : Pos} {j : Nat} {pl : Sem Bool} (he : PE X o ta) (hT : ∀ C sp, T C sp → ∃ ps, MethD X.prog X.w X.K X.mg X.base j C m ps sp) (hr : Room j X.A) (ha : PA X (e :: es) t)
    (hst : starEach (e :: es) X.env = (false, eval e X.env) :: starEach es X.env) (hpl : (backTo pos (starEach es X.env)).any (·.1) = false)
    (ht : eval (.Call (.Attribute o m apos) (e :: es) [] pos) X.env = (do
      let ov ← eval o X.env
      standAt apos.atName
      let (f, first) ← holding [ov] (getMethod ov m pl)
      callWith pos f first (backTo pos (starEach (e :: es) X.env)) (backToKw pos (keywordEach [] X.env)))) :
    PE X (.Call (.Attribute o m apos) (e :: es) [] pos) (tMethV T m ta t) := by
  intro pins s σ H Q I h
  refine PySem.W.methodCall_KW (pl := pl) (thn (he pins s σ H _ I h) fun u s1 zz => ?_) ht
  obtain ⟨x, H1, I1, rx, a, C, dx, fs, sp, ex, ea, l, hC, q⟩ := zz
  subst ex
  obtain rfl : u = Value.ref a := rx
  obtain ⟨ps, D⟩ := hT C sp hC
  obtain ⟨f, fd, F, b, hm, c⟩ := D.ex
  refine getmeth_ok I1 ea c hm l (PySem.W.callWith_K (first := [.ref a]) (h₀ := X.base) I.ok.mod.kin hm.kp (thn (ha pos pins s1 σ H1 _ I1 q) fun us s2 ⟨vs, H2, I2, r, q2⟩ => ⟨I2.kIn, ?_⟩) hst hpl)
  have q3 : sp (V.ref a :: (vs ++ [])) H2 Q E0 := by rw [List.append_nil]; exact q2
  exact run_fn (us := .ref a :: us) (vs := .ref a :: vs) (dvs := []) F hr b .nil pass0 I2 (.cons rfl r) q3
theorem pe_methV0 {T : Addr → Sp → Prop} {m : Str} {o : Expr} {ta : TE} {apos pos : Pos} {j : Nat} {pl : Sem Bool} (he : PE X o ta) (hT : ∀ C sp, T C sp → ∃ ps, MethD X.prog X.w X.K X.mg X.base j C m ps sp) (hr : Room j X.A)
    (ht : eval (.Call (.Attribute o m apos) [] [] pos) X.env = (do
      let ov ← eval o X.env
      standAt apos.atName
      let (f, first) ← holding [ov] (getMethod ov m pl)
      callWith pos f first (backTo pos (starEach [] X.env)) (backToKw pos (keywordEach [] X.env)))) :
    PE X (.Call (.Attribute o m apos) [] [] pos) (tMethV T m ta tNil) := by
  intro pins s σ H Q I h
  refine PySem.W.methodCall_KW (pl := pl) (thn (he pins s σ H _ I h) fun u s1 zz => ?_) ht
  obtain ⟨x, H1, I1, rx, a, C, dx, fs, sp, ex, ea, l, hC, q⟩ := zz
  subst ex
  obtain rfl : u = Value.ref a := rx
  obtain ⟨ps, D⟩ := hT C sp hC
  obtain ⟨f, fd, F, b, hm, c⟩ := D.ex
  refine getmeth_ok I1 ea c hm l (PySem.W.callWith_K0 (first := [.ref a]) I1.kIn hm.kp ?_)
  exact run_fn (us := [.ref a]) (vs := [.ref a]) (dvs := []) F hr b .nil pass0 I1 (.cons rfl .nil) q
noncomputable def rIsOwn (K : PySem.W.Frag) (D : Addr) : List V → Hp → VK → Prop := fun xs H Q => ∃ x t b, xs = [x, .ref D] ∧ TyOf K H x t ∧ PySem.W.kitOne K t (.ref D) = some b ∧ Q (.bl b) H
theorem call_isOwn (D : Addr) : CallR X (.builtin "isinstance") (rIsOwn X.K D) := by
  intro pins s σ H xs us Q I r h
  obtain ⟨x, t, b, rfl, ty, e, q⟩ := h
  obtain ⟨u, u', rfl, ru, ru'⟩ := vals2 r
  cases ru'
  exact isinst_ok I ru ty e fun tk => ⟨.bl b, H, I.tok tk, rfl, q⟩
end
namespace R
section
variable {X : Cx} {e o value : Expr} {es : List Expr} {te to ta tv : TE} {t : TA} {pos p apos pos' : Pos}
theorem pe_fld (K : PySem.W.Frag) {f : Str} (he : QE X e ta) (hb : attributeBase e f X.env (eval e X.env) = eval e X.env := by rfl) (hK : X.K = K := by rfl) : QE X (.Attribute e f pos) (tFld K ta f) := by subst hK; exact ⟨L2.pe_fld he.h hb⟩
theorem ps_fld {f : Str} (ha : QE X o ta) (hv : QE X value tv) (hs : noComp value = true := by rfl) : QS X (.Assign [.Attribute o f pos'] value pos) (sFld X.K ta tv f) := ⟨L2.ps_fld ha.h hv.h (swaps_no hs)⟩
theorem pe_mk0 {x : Str} {C : Addr} (M : Make0 X.K X.mg x C) (hg : Gl X x) (hdb : (x == ("__debug__" : Str)) = false := by decide) : QE X (.Call (.Name x p) [] [] pos) (tMake0 C) := ⟨L2.pe_mk0 M hg hdb⟩
theorem pe_makeD {k j : Nat} {x : Str} {C : Addr} {ps : List Str} {sp : Sp} (D : MakeD X.prog X.w X.K X.mg X.base k x C ps sp) (hr : Room j X.A) (hj : k + 1 ≤ j) (hg : Gl X x) (ha : QA X (e :: es) t) (hs : (e :: es).all noStar = true := by rfl) (hdb : (x == ("__debug__" : Str)) = false := by decide) :
    QE X (.Call (.Name x p) (e :: es) [] pos) (tMake C sp [] E0 t) := by
  obtain ⟨f, fd, F, b, M, m⟩ := D.ex
  exact ⟨L2.pe_make M F (hr.mono hj) hg m b .nil pass0 ha.h hdb (star_cons (all_cons1 hs).1) (star_any (all_cons1 hs).2)⟩
theorem pe_methV {T : Addr → Sp → Prop} {m : Str} {k j : Nat} {pl : Sem Bool} (he : QE X o ta) (hT : ∀ C sp, T C sp → ∃ ps, MethD X.prog X.w X.K X.mg X.base k C m ps sp) (hr : Room j X.A) (hj : k ≤ j) (ha : QA X (e :: es) t) (hs : (e :: es).all noStar = true := by rfl)
    (ht : eval (.Call (.Attribute o m apos) (e :: es) [] pos) X.env = (do
      let ov ← eval o X.env
      standAt apos.atName
      let (f, first) ← holding [ov] (getMethod ov m pl)
      callWith pos f first (backTo pos (starEach (e :: es) X.env)) (backToKw pos (keywordEach [] X.env))) := by rfl) :
    QE X (.Call (.Attribute o m apos) (e :: es) [] pos) (tMethV T m ta t) := ⟨L2.pe_methV (pl := pl) he.h hT (hr.mono hj) ha.h (star_cons (all_cons1 hs).1) (star_any (all_cons1 hs).2) ht⟩
theorem pe_methV0 {T : Addr → Sp → Prop} {m : Str} {k j : Nat} {pl : Sem Bool} (he : QE X o ta) (hT : ∀ C sp, T C sp → ∃ ps, MethD X.prog X.w X.K X.mg X.base k C m ps sp) (hr : Room j X.A) (hj : k ≤ j)
    (ht : eval (.Call (.Attribute o m apos) [] [] pos) X.env = (do
      let ov ← eval o X.env
      standAt apos.atName
      let (f, first) ← holding [ov] (getMethod ov m pl)
      callWith pos f first (backTo pos (starEach [] X.env)) (backToKw pos (keywordEach [] X.env))) := by rfl) :
    QE X (.Call (.Attribute o m apos) [] [] pos) (tMethV T m ta tNil) := ⟨L2.pe_methV0 (pl := pl) he.h hT (hr.mono hj) ht⟩
theorem pe_isOwn {x : Str} {D : Addr} {p2 : Pos} (hg : Gl X "isinstance") (hm : X.mg "isinstance" = none) (hgT : Gl X x) (hmT : X.mg x = some (.ref D)) (ha : QE X e te) (hs : noStar e = true := by rfl) (hdb : (x == ("__debug__" : Str)) = false := by decide) :
    QE X (.Call (.Name "isinstance" p) [e, .Name x p2] [] pos) (tCB (rIsOwn X.K D) (tCons te (tCons (tC (.ref D)) tNil))) :=
  ⟨L2.pe_cB (call_isOwn D) hg hm boot_isinstance (L2.pa_c ha.h (L2.pa_c (L2.pe_glob hgT hmT rfl hdb) L2.pa_nil) hs) (by rw [List.all_cons, hs]; rfl)⟩
end
end R
end L2


set_option Elab.async false
set_option linter.all false
set_option maxRecDepth 100000
/-! trees of bids: depth, tally, what is spoken of -/
namespace L2
open PySem PySem.Spec PyProof.Rows
/-- bids without bids in them -/
inductive Form where
  | none
  | only (b : Nat) (m : Int)
  | some (k l : Nat) (m : Int)
  | most (k c : Nat) (m : Int)
inductive Tr where
  | leaf (f : Form)
  | node (any : Bool) (ts : List Tr)
noncomputable def spokenF : Form → Nat
  | .none => 0
  | .only b _ => b
  | .some k _ _ => k
  | .most k _ _ => k
mutual
noncomputable def depthT : Tr → Nat
  | .leaf _ => 1
  | .node _ ts => 1 + depthL ts
noncomputable def depthL : List Tr → Nat
  | [] => 0
  | t :: ts => max (depthT t) (depthL ts)
end
mutual
noncomputable def tallyT : Tr → Nat
  | .leaf _ => 1
  | .node _ ts => 1 + tallyL ts
noncomputable def tallyL : List Tr → Nat
  | [] => 0
  | t :: ts => tallyT t + tallyL ts
end
mutual
noncomputable def spokenT : Tr → Nat
  | .leaf f => spokenF f
  | .node _ ts => spokenL ts
noncomputable def spokenL : List Tr → Nat
  | [] => 0
  | t :: ts => spokenT t ||| spokenL ts
end
theorem depthL_top : ∀ ts : List Tr, ((depthL ts : Nat) : Int) = top (ts.map fun t => ((depthT t : Nat) : Int)) := by
  have key : ∀ (ts : List Tr) (a : Nat), (ts.map fun t => ((depthT t : Nat) : Int)).foldl max (a : Int) = ((max a (depthL ts) : Nat) : Int) := by
    intro ts
    induction ts with
    | nil => intro a; show (a : Int) = _; rw [show depthL [] = 0 from rfl, Nat.max_eq_left (Nat.zero_le _)]
    | cons t ts ih =>
      intro a
      show (ts.map fun t => ((depthT t : Nat) : Int)).foldl max (max (a : Int) ((depthT t : Nat) : Int)) = _
      have e : max (a : Int) ((depthT t : Nat) : Int) = ((max a (depthT t) : Nat) : Int) := by omega
      rw [e, ih]
      show _ = ((max a (max (depthT t) (depthL ts)) : Nat) : Int)
      omega
  intro ts
  have := key ts 0
  rw [Nat.max_eq_right (Nat.zero_le _)] at this
  exact this.symm
theorem tallyL_sum : ∀ ts : List Tr, ((tallyL ts : Nat) : Int) = (ts.map fun t => ((tallyT t : Nat) : Int)).sum
  | [] => rfl
  | t :: ts => by
    show ((tallyT t + tallyL ts : Nat) : Int) = _
    rw [List.map_cons, List.sum_cons, ← tallyL_sum ts]; omega
theorem depth_pos : ∀ t : Tr, 1 ≤ depthT t
  | .leaf _ => Nat.le_refl _
  | .node _ ts => by show 1 ≤ 1 + depthL ts; omega
theorem depth_mem {ts : List Tr} {t : Tr} (h : t ∈ ts) : depthT t ≤ depthL ts := by
  induction ts with
  | nil => cases h
  | cons x ts ih =>
    show depthT t ≤ max (depthT x) (depthL ts)
    rcases List.mem_cons.mp h with e | h
    · subst e; omega
    · have := ih h; omega
theorem depthL_append : ∀ (as bs : List Tr), depthL (as ++ bs) = max (depthL as) (depthL bs)
  | [], bs => by show depthL bs = max 0 (depthL bs); omega
  | a :: as, bs => by show max (depthT a) (depthL (as ++ bs)) = max (max (depthT a) (depthL as)) (depthL bs); rw [depthL_append as bs]; omega
theorem tallyL_append : ∀ (as bs : List Tr), tallyL (as ++ bs) = tallyL as + tallyL bs
  | [], bs => by show tallyL bs = 0 + tallyL bs; omega
  | a :: as, bs => by show tallyT a + tallyL (as ++ bs) = tallyT a + tallyL as + tallyL bs; rw [tallyL_append as bs]; omega
/-! ### lists side by side -/
noncomputable def All2 {α β : Type} (R : α → β → Prop) (xs : List α) (ys : List β) : Prop := xs.length = ys.length ∧ ∀ (i : Nat) (x : α) (y : β), xs[i]? = some x → ys[i]? = some y → R x y
section
variable {α β : Type} {R S : α → β → Prop} {xs xs' : List α} {ys ys' : List β}
theorem All2.nil : All2 R [] [] := ⟨rfl, fun i x y e => by simp at e⟩
theorem All2.imp (h : All2 R xs ys) (f : ∀ x y, y ∈ ys → R x y → S x y) : All2 S xs ys := ⟨h.1, fun i x y e1 e2 => f x y (List.mem_of_getElem? e2) (h.2 i x y e1 e2)⟩
theorem All2.append (h : All2 R xs ys) (g : All2 R xs' ys') : All2 R (xs ++ xs') (ys ++ ys') := by
  refine ⟨by rw [List.length_append, List.length_append, h.1, g.1], fun i x y e1 e2 => ?_⟩
  by_cases hi : i < xs.length
  · rw [List.getElem?_append_left hi] at e1
    rw [List.getElem?_append_left (by rw [← h.1]; exact hi)] at e2
    exact h.2 i x y e1 e2
  · rw [List.getElem?_append_right (by omega)] at e1
    rw [List.getElem?_append_right (by rw [← h.1]; omega), ← h.1] at e2
    exact g.2 _ x y e1 e2
theorem All2.one {x : α} {y : β} (h : R x y) : All2 R [x] [y] := ⟨rfl, fun i a b e1 e2 => by
  match i with
  | 0 => cases e1; cases e2; exact h
  | i + 1 => simp at e1⟩
theorem All2.snoc {x : α} {y : β} (h : All2 R xs ys) (g : R x y) : All2 R (xs ++ [x]) (ys ++ [y]) := h.append (.one g)
theorem All2.at {bs : List Addr} {R : Addr → β → Prop} (h : All2 R bs ys) {i : Nat} {v : V} (e : (bs.map V.ref)[i]? = some v) : ∃ b y, v = .ref b ∧ bs[i]? = some b ∧ ys[i]? = some y ∧ R b y := by
  rw [List.getElem?_map] at e
  obtain ⟨b, hb, rfl⟩ := Option.map_eq_some_iff.mp e
  have hi : i < bs.length := (List.getElem?_eq_some_iff.mp hb).1
  have hi' : i < ys.length := by rw [← h.1]; exact hi
  exact ⟨b, ys[i], rfl, hb, List.getElem?_eq_getElem hi', h.2 i b _ hb (List.getElem?_eq_getElem hi')⟩
end
theorem tally_len : ∀ ts : List Tr, ts.length ≤ tallyL ts
  | [] => Nat.le_refl _
  | t :: ts => by
    have h1 : 1 ≤ tallyT t := by cases t with | leaf f => exact Nat.le_refl _ | node a us => show 1 ≤ 1 + tallyL us; omega
    have h2 := tally_len ts
    show ts.length + 1 ≤ tallyT t + tallyL ts
    omega
theorem tally_mem {ts : List Tr} {t : Tr} (h : t ∈ ts) : tallyT t ≤ tallyL ts := by
  induction ts with
  | nil => cases h
  | cons x ts ih =>
    show tallyT t ≤ tallyT x + tallyL ts
    rcases List.mem_cons.mp h with e | h
    · subst e; omega
    · have := ih h; omega
theorem tallyL_take (ts : List Tr) (i : Nat) (t : Tr) (h : ts[i]? = some t) : tallyL (ts.take (i + 1)) = tallyL (ts.take i) + tallyT t := by
  rw [List.take_succ, h, tallyL_append]; show _ + (tallyT t + 0) = _; omega
end L2


set_option Elab.async false
set_option linter.all false
set_option maxRecDepth 100000
/-! what bids are worth, as functions of the bundle -/
namespace L2
open PySem PySem.Spec PyProof.Rows
structure AmtOk (m : Int) : Prop where
  lo : 0 ≤ m
  hi : m ≤ 10 ^ 9
noncomputable def FormOk : Form → Prop
  | .none => True
  | .only b m => 1 ≤ b ∧ b ≤ 63 ∧ AmtOk m
  | .some k l m => 1 ≤ k ∧ k ≤ 63 ∧ 1 ≤ l ∧ l ≤ 6 ∧ AmtOk m
  | .most k c m => 1 ≤ k ∧ k ≤ 63 ∧ 1 ≤ c ∧ c ≤ 6 ∧ AmtOk m
mutual
noncomputable def okT : Tr → Prop
  | .leaf f => FormOk f
  | .node _ ts => okL ts
noncomputable def okL : List Tr → Prop
  | [] => True
  | t :: ts => okT t ∧ okL ts
end
theorem okL_of : ∀ {ts : List Tr}, (∀ t ∈ ts, okT t) → okL ts
  | [], _ => by rw [okL]; trivial
  | t :: ts, h => by rw [okL]; exact ⟨h t (List.mem_cons_self ..), okL_of fun u hu => h u (List.mem_cons_of_mem _ hu)⟩
theorem okL_mem : ∀ {ts : List Tr}, okL ts → ∀ t ∈ ts, okT t
  | [], _, t, ht => by cases ht
  | u :: ts, h, t, ht => by
    rw [okL] at h
    rcases List.mem_cons.mp ht with e | ht
    · subst e; exact h.1
    · exact okL_mem h.2 t ht
theorem okT_node {any : Bool} {ts : List Tr} : okT (.node any ts) ↔ okL ts := by rw [okT]
theorem okT_leaf {f : Form} : okT (.leaf f) ↔ FormOk f := by rw [okT]
theorem All2.mem {α β : Type} {R : α → β → Prop} {xs : List α} {ys : List β} (h : All2 R xs ys) {y : β} (hy : y ∈ ys) : ∃ x, R x y := by
  obtain ⟨i, hi, rfl⟩ := List.mem_iff_getElem.mp hy
  have hi' : i < xs.length := by rw [h.1]; exact hi
  exact ⟨xs[i], h.2 i _ _ (List.getElem?_eq_getElem hi') (List.getElem?_eq_getElem hi)⟩
/-! ### tables -/
/-! ### the greatest, from nought on -/
end L2
namespace L2.R
open PySem PySem.Spec PyProof.Rows
variable {X : Cx} {e : Expr} {te : TE} {pos : Pos}
end L2.R


set_option Elab.async false
set_option linter.all false
set_option maxRecDepth 100000
/-! wishes of groups that are apart -/
namespace L2
open PySem PySem.Spec PyProof.Rows
/-! ### one wish in other words -/
end L2


set_option Elab.async false
set_option linter.all false
set_option maxRecDepth 100000
/-! a list taken apart: x, y = [.., ..] -/
namespace L2
open PySem PySem.Spec PyProof.Rows
section
variable {prog : Program} {w : World} {A : Around} {E : Value → Shared → Prop}
end
namespace R
end R
end L2


set_option Elab.async false
set_option linter.all false
set_option maxRecDepth 100000
/-! refusals: constructors that raise, a try that goes on, isinstance of a tuple of classes -/
namespace L2
open PySem PySem.Spec PyProof.Rows PySem.W
section
variable {P : Program} {w : World} {K : PySem.W.Frag} {mg : Str → Option Value} {base : Heap}
end
/-! ### isinstance of a tuple of own classes -/
/-! ### a try whose body raises nothing -/
namespace R
section
variable {X : Cx} {e : Expr} {es : List Expr} {te : TE} {t : TA} {pos p : Pos}
end
end R
end L2


set_option Elab.async false
set_option linter.all false
set_option maxRecDepth 100000
/-! an exception with a dict of its own, on its way -/
namespace L2
open PySem PySem.Spec PyProof.Rows PySem.W
section
variable {M : Model} {A : Around} {E : Value → Shared → Prop} {s : Shared} {B : Heap} {env : Env} {outer : List Env} {L e : Addr} {C : Value} {dx : Option Addr} {Q : Unit → Shared → Prop}
end
end L2


set_option Elab.async false
set_option linter.all false
set_option maxRecDepth 100000
/-! exceptions of own classes with __init__ and a field: raised, passed on -/
namespace L2
open PySem PySem.Spec PyProof.Rows PySem.W

/-! ### what an exception is while it is made -/

/-! ### C(..): the exception laid, then its __init__ -/
section
variable {prog : Program} {w : World} {A : Around} {E : Value → Shared → Prop} {h : Heap} {g : Array GenState} {d : Drawn} {t : Nat} {os : OsState} {K : Frag}
variable {nm q : Str} {C N : Addr} {bs bm bmB : List Value} {hdct : Bool} {sn : List Str} {sub : List Value} {ab : Bool} {col : Option Bool} {dd : Option Addr} {k0 k1 k2 k3 k5 : Option Value} {B newId initId : String}
end
end L2


set_option Elab.async false
set_option linter.all false
set_option maxRecDepth 100000
/-! raise C(v), C with __init__ -/
namespace L2
open PySem PySem.Spec PyProof.Rows PySem.W
end L2


set_option Elab.async false
set_option linter.all false
set_option maxRecDepth 100000
/-! an exception's __init__: the base's __init__, the field -/
namespace L2
open PySem PySem.Spec PyProof.Rows PySem.W
open Builtin Builtin.ObjectAttr
/-! ### D.__init__(self, text), D an own class without __init__ -/
section
variable {prog : Program} {w : World} {A : Around} {E : Value → Shared → Prop} {h : Heap} {g : Array GenState} {d : Drawn} {t : Nat} {os : OsState} {K : Frag} {C a : Addr}
/-! ### self.f = v -/
end
end L2


set_option Elab.async false
set_option linter.all false
set_option maxRecDepth 100000
/-! rules: D.__init__(self, ..), self.f = v in an exception's __init__; e.f; isinstance -/
namespace L2
open PySem PySem.Spec PyProof.Rows PySem.W
open Builtin Builtin.ObjectAttr
/-! ### a caught exception with a dict -/
section
variable {prog : Program} {w : World} {A : Around} {E : Value → Shared → Prop} {h : Heap} {g : Array GenState} {d : Drawn} {t : Nat} {os : OsState} {K : Frag} {C a dx : Addr} {f : Str} {v : Value}
end
end L2


set_option Elab.async false
set_option linter.all false
set_option maxRecDepth 100000
/-! code in a try: what may raise an exception of the class C, and the handlers -/
namespace L2
open PySem PySem.Spec PyProof.Rows PySem.W
section
variable {X : Cx} {D : Addr} {pos p apos : Pos} {e o : Expr} {es : List Expr} {ta : TE} {t : TA}
end
/-! ### the handlers -/
end L2


set_option Elab.async false
set_option linter.all false
set_option maxRecDepth 100000
/-! texts: order, slices -/
namespace L2
open PySem PySem.Spec PyProof.Rows PySem.W
/-- the text of these signs -/
noncomputable def tx (l : List Nat) : Str := ⟨l.toArray⟩
theorem tx_list (l : List Nat) : (tx l).cps.toList = l := by simp [tx]
theorem tx_len (l : List Nat) : (tx l).length = l.length := by simp [tx, Str.length]
theorem tx_inj {l m : List Nat} (h : tx l = tx m) : l = m := by rw [← tx_list l, h, tx_list]
theorem tx_of (x : Str) : x = tx x.cps.toList := by obtain ⟨a⟩ := x; simp [tx]
theorem tx_app (l m : List Nat) : tx l ++ tx m = tx (l ++ m) := by
  rw [tx_of (tx l ++ tx m)]
  congr 1
  show ((tx l).cps ++ (tx m).cps).toList = _
  rw [Array.toList_append, tx_list, tx_list]
theorem op_le_str {X : Cx} : OpR X (compareOp .LtE) (fun x y H Q => ∃ i j, x = .str i ∧ y = .str j ∧ Q (.bl (!decide (j.cps.toList < i.cps.toList))) H) := by
  rintro pins s σ H x y u v Q I rx ry ⟨i, j, rfl, rfl, q⟩
  obtain ⟨t, rfl⟩ := (show ∃ t, u = Value.str i t from rx)
  obtain ⟨t', rfl⟩ := (show ∃ t', v = Value.str j t' from ry)
  exact P.le_str ⟨.bl _, H, I, rfl, q⟩
/-- the signs from lo to hi -/
noncomputable def cutL (l : List Nat) (lo hi : Option Int) : List Nat := (l.drop (HT.sIx l.length 0 lo)).take (HT.sIx l.length l.length hi - HT.sIx l.length 0 lo)
theorem picked_eq (n : Nat) (lo hi : Option Int) : Builtin.Str.strSliceIndices lo hi 1 n = (List.range (HT.sIx n n hi - HT.sIx n 0 lo)).map (HT.sIx n 0 lo + ·) := by
  rw [← sliceRange_one]
  unfold Builtin.Str.strSliceIndices
  have c : ∀ (d : Nat) (o : Option Int), (match o with | none => (d : Int) | some i => if (1 : Int) > 0 then max 0 (min (if i < 0 then i + (n : Int) else i) (n : Int)) else max (-1) (min (if i < 0 then i + (n : Int) else i) ((n : Int) - 1))) = ((HT.sIx n d o : Nat) : Int) := fun d o => by
    cases o with
    | none => rfl
    | some i =>
      show (if (1 : Int) > 0 then _ else _) = _
      rw [if_pos (by decide)]
      unfold HT.sIx
      by_cases h : i < 0
      · simp only [h, if_true] <;> omega
      · simp only [h, if_false] <;> omega
  have c0 := c 0 lo
  have cn := c n hi
  dsimp only
  rw [if_pos (by decide), if_pos (by decide)]
  congr 1
theorem cutL_len (l : List Nat) (lo hi : Option Int) : (cutL l lo hi).length ≤ l.length := by
  unfold cutL
  rw [List.length_take, List.length_drop]; omega
noncomputable def rSlS : V → Option Int → Option Int → Hp → VK → Prop := fun x lo hi H Q => ∃ l, x = .str (tx l) ∧ l.length ≤ sizeLine ∧ Q (.str (tx (cutL l lo hi))) H
theorem sl_str {X : Cx} : SlR X rSlS := by
  intro pins s σ H x v vl vu lo hi sl Q I rx hs pl pu h
  obtain ⟨l, rfl, hz, q⟩ := h
  obtain ⟨t, rfl⟩ := (show ∃ t, v = Value.str (tx l) t from rx)
  have pt : ∀ {w o}, IsPart w o → ∃ p : Option (Int × Tok), w = partValue p ∧ p.map (·.1) = o := fun p => by
    cases p with
    | none => exact ⟨none, rfl, rfl⟩
    | int i t => exact ⟨some (i, t), rfl, rfl⟩
  obtain ⟨pl1, rfl, el⟩ := pt pl
  obtain ⟨pu1, rfl, eu⟩ := pt pu
  refine ⟨"str", _, F.slot_str_getitem.lookup, typeIs_str _ _ _, wpAny_getItem_str_slice (l := pl1) (u := pu1) (st := none) hs rfl ?_⟩
  have e : (slicePicked (tx l) pl1 pu1 none).filterMap ((tx l).cps[·]?) = cutL l lo hi := by
    unfold slicePicked
    rw [el, eu]
    show (Builtin.Str.strSliceIndices lo hi 1 (tx l).length).filterMap ((tx l).cps[·]?) = _
    rw [picked_eq, pick_run, tx_list, tx_len]
    rfl
  have e2 : (slicePicked (tx l) pl1 pu1 none).length = (cutL l lo hi).length := by
    have : slicePicked (tx l) pl1 pu1 none = (List.range (HT.sIx l.length l.length hi - HT.sIx l.length 0 lo)).map (HT.sIx l.length 0 lo + ·) := by
      unfold slicePicked
      rw [el, eu]
      show Builtin.Str.strSliceIndices lo hi 1 (tx l).length = _
      rw [picked_eq, tx_len]
    rw [this, List.length_map, List.length_range]
    unfold cutL
    rw [List.length_take, List.length_drop]
    have := HT.sIx_le l.length l.length (Nat.le_refl _) hi
    omega
  unfold sliceMade
  refine post_val_or_str ?_
  rw [e]
  have fin : (if (((none : Option (Int × Tok)).map (·.1)).getD 1 == 1 && (slicePicked (tx l) pl1 pu1 none).length == (tx l).length) = true then tx l else ⟨(cutL l lo hi).toArray⟩) = tx (cutL l lo hi) := by
    split
    · rename_i z
      rw [Bool.and_eq_true] at z
      have z2 := beq_iff_eq.mp z.2
      rw [e2, tx_len] at z2
      congr 1
      have a0 : HT.sIx l.length 0 lo = 0 ∨ l = [] := by
        unfold cutL at z2
        rw [List.length_take, List.length_drop] at z2
        have := HT.sIx_le l.length l.length (Nat.le_refl _) hi
        by_cases hl : l = []
        · exact .inr hl
        · have : 0 < l.length := List.length_pos_iff.mpr hl
          left; omega
      rcases a0 with a0 | a0
      · have : l.length ≤ HT.sIx l.length l.length hi := by
          unfold cutL at z2
          rw [a0, List.length_take, List.length_drop] at z2
          omega
        unfold cutL
        rw [a0, List.drop_zero, List.take_of_length_le (by omega)]
      · subst a0; unfold cutL; simp
    · rfl
  rw [fin]
  exact ⟨by rw [tx_len]; exact Nat.le_trans (cutL_len l lo hi) hz, fun t2 k => ⟨.str (tx (cutL l lo hi)), H, I.tok k, ⟨t2, rfl⟩, q⟩⟩
end L2


set_option Elab.async false
set_option linter.all false
set_option maxRecDepth 100000
/-! for i, x in enumerate(xs); for c in text -/
namespace L2
open PySem PySem.Spec PyProof.Rows PySem.W
noncomputable def Ite (K : PySem.W.Frag) (a : Addr) : It :=
  ⟨fun i H => ∃ xs x, SqL K H a xs ∧ xs[i]? = some x,
   fun i H v H' => ∃ p x, v = .ref p ∧ H p = none ∧ H' = upd H p (.tup [.int i, x]) ∧ ∀ xs, SqL K H a xs → xs[i]? = some x,
   fun i H => ∃ xs, SqL K H a xs ∧ xs.length ≤ i⟩
theorem turn_enum {P : Program} {w : World} {K : PySem.W.Frag} {es : List Expr} {kk : Nat} {pos : Pos} (a z i1 : Addr) (hne : z ≠ i1) :
    Turn P w K (.Tuple es kk pos) (Ite K a) [z, i1] z (fun i h => (∃ old, IsEnum h z i1 i old) ∧ h.IsListIter i1 a i) where
  mem := by simp
  obj := fun i h st c hc => by
    obtain ⟨⟨old, hz⟩, ⟨o1, e1, c1, d1⟩⟩ := st
    simp only [List.mem_cons, List.not_mem_nil, or_false] at hc
    rcases hc with rfl | rfl
    · exact ⟨_, hz, fun v x => by cases x⟩
    · exact ⟨_, e1, fun v x => by rw [d1] at x; cases x⟩
  keep := fun i h h' st k => by
    obtain ⟨⟨old, hz⟩, h1⟩ := st
    exact ⟨⟨old, k z (by simp) _ hz⟩, h1.at fun o e => k i1 (by simp) o e⟩
  item := by
    intro X hP hw hK hc i pins s σ H E I hf st hg
    subst hP hw hK
    obtain ⟨⟨old, hz⟩, h1⟩ := st
    obtain ⟨xs, x, hq1, hx⟩ := hg
    obtain ⟨its, rv, p, hz1⟩ := I.list hq1
    obtain ⟨ux, hux, rux⟩ := rv.get hx
    refine wpAny_pyNext_enum_item hz h1 p.isList (x := ux) (by simpa using hux) hne fun h' a1 a2 a3 a4 hk => ?_
    have ltz : ∀ c ∈ [z, i1], c < s.heap.objs.size := by
      intro c hc
      simp only [List.mem_cons, List.not_mem_nil, or_false] at hc
      rcases hc with rfl | rfl
      · exact Heap.lt_size hz
      · obtain ⟨_, e, _⟩ := h1; exact Heap.lt_size e
    have I1 : Inv X pins σ (upd H s.heap.objs.size (.tup [.int i, x])) { s with heap := s.heap.push { cls := .type "tuple", data := .seq #[.int i s.toks, ux] }, toks := s.toks + 1 } := by
      refine I.laid (fun c o e => Heap.get?_push_of_some _ e) (Nat.le_refl _) ⟨by show 2 ≤ sizeLine; decide, [.int i s.toks, ux], .cons ⟨_, rfl⟩ (.cons rux .nil), ?_⟩
      exact ⟨_, Heap.get?_push_size _ rfl, rfl, _, rfl⟩
    have hfr : ∀ c ∈ [z, i1], upd H s.heap.objs.size (.tup [.int i, x]) c = none := fun c hc => by
      rw [upd_ne (Nat.ne_of_lt (ltz c hc))]; exact (hf c hc).1
    have hf1 : ∀ c ∈ [z, i1], FpOk X pins (upd H s.heap.objs.size (.tup [.int i, x])) c := fun c hc => ⟨hfr c hc, (hf c hc).2⟩
    have kk : ∀ c o, c ∉ [z, i1] → (s.heap.push { cls := .type "tuple", data := .seq #[.int i s.toks, ux] }).get? c = some o → h'.get? c = some o := fun c o hc e => by
      rcases Heap.get?_push_cases e with ⟨e9, e8⟩ | e'
      · subst e9 e8; exact a3
      · exact hk c o (fun x => hc (by simp [x])) (fun x => hc (by simp [x])) e'
    have I2 : Inv X pins σ (upd H s.heap.objs.size (.tup [.int i, x])) { s with heap := h', toks := s.toks + 1 } := by
      have z := Inv.turnedL (t' := s.toks + 1) I1 kk hf1
      exact z
    refine ⟨_, rfl, wpAny_letOwnedTupleGo_enum (s := { s with heap := h', toks := s.toks + 1 }) a1 fun h'' hz'' hs'' => ?_⟩
    have I3 : Inv X pins σ (upd H s.heap.objs.size (.tup [.int i, x])) { s with heap := h'', toks := s.toks + 1 } := by
      have z := Inv.turnedL (h' := h'') (t' := s.toks + 1) (ch := [z]) I2 (fun c o hc e => hs''.extBut c o (fun q => hc (by simp [q])) e) (fun c hc => hf1 c (by simp at hc; simp [hc]))
      exact z
    refine ⟨.ref s.heap.objs.size, _, I3, rfl, ⟨_, x, rfl, I.hok.fresh (Nat.le_refl _), rfl, fun zs hzs => by rw [I.list_inj hzs hq1]; exact hx⟩, ?_, hfr⟩
    exact ⟨⟨_, by have := hz''; push_cast; exact this⟩, a2.extBut hs''.extBut (Ne.symm hne)⟩
  done := by
    intro X hP hw hK hc i pins s σ H E I hf st hg
    subst hP hw hK
    obtain ⟨⟨old, hz⟩, h1⟩ := st
    obtain ⟨xs, hq1, hend⟩ := hg
    obtain ⟨its, rv, p, hz1⟩ := I.list hq1
    have l1 := rv.length
    refine wpAny_pyNext_enum_end (I.ok.hd hc) hz h1 p.isList (by simp; omega) fun h' hk => ⟨rfl, ?_⟩
    exact I.turnedL (t' := s.toks) (ch := [z, i1]) (fun c o hc e => hk c o (fun x => hc (by simp [x])) e) hf
  self := fun _ _ _ _ _ st h => by
    obtain ⟨⟨old, hz⟩, _⟩ := st
    exact wpAny_pyIter_enum hz h
noncomputable def iEnum (K : PySem.W.Frag) (ta : TA) : TI := fun σ H R => ta σ H fun vs H1 => ∃ a, vs = [.ref a] ∧ (∃ xs, SqL K H1 a xs) ∧ R (Ite K a) H1
theorem pi_enum {X : Cx} {es : List Expr} {kk : Nat} {tp : Pos} {a : Expr} {ta : TA} {p pos : Pos} (hg : Gl X "enumerate") (hm : X.mg "enumerate" = none) (ha : PA X [a] ta) (hs : noStar a = true) :
    PI X (.Tuple es kk tp) (.Call (.Name "enumerate" p) [a] [] pos) (iEnum X.K ta) := by
  intro pins s σ H R I h
  refine Call_ (ld_blt I hg hm boot_enumerate (PyProof.Rows.callWith_type1 (thn (ha pos pins s σ H _ I h) fun us s1 zz => ?_) (by rw [star_cons hs]) rfl))
  obtain ⟨vs, H1, I1, r1, q1⟩ := zz
  obtain ⟨l1, e, ⟨xs, hq1⟩, q⟩ := q1
  subst e
  obtain ⟨u, rfl, ru⟩ := vals1 r1
  cases ru
  obtain ⟨its, rv, p1, _⟩ := I1.list hq1
  refine call_enumerate_list p1.isList fun h' hz hi1 hsz hk => ?_
  refine wpAny_pyIter_enum hz ?_
  refine ⟨s1.heap.objs.size + 1, _, _, _, H1, rfl, I1.kept (t' := s1.toks) hk, turn_enum l1 _ _ (Nat.succ_ne_self _), ⟨⟨_, hz⟩, hi1⟩, fun c hc => ?_, q⟩
  have hge : s1.heap.objs.size ≤ c := by
    simp only [List.mem_cons, List.not_mem_nil, or_false] at hc
    rcases hc with rfl | rfl
    · exact Nat.le_succ _
    · exact Nat.le_refl _
  exact I1.fpOk hge (I1.hok.fresh hge)
theorem for_enum {K : PySem.W.Frag} {a : Addr} {xs : List V} {g : TG} {tb : TS} {D : Ends} {σ : St} {H : Hp} (Pv : Nat → St → Hp → Prop) (h0 : Pv 0 σ H) (hl : ∀ i σ H, i ≤ xs.length → Pv i σ H → SqL K H a xs)
    (hs : ∀ (i : Nat) x p σ H, xs[i]? = some x → Pv i σ H → H p = none → g (.ref p) σ (upd H p (.tup [.int i, x])) fun σ2 H2 => tb { D with nx := Pv (i + 1), ct := Pv (i + 1), bk := D.nx } σ2 H2) (hd : ∀ σ H, Pv xs.length σ H → D.nx σ H) :
    ∃ W : Nat → Nat → St → Hp → Prop, (∃ m, W 0 m σ H) ∧ ∀ i m σ H, W i m σ H →
      ((Ite K a).stop i H ∧ D.nx σ H) ∨ ((Ite K a).go i H ∧ ∃ N : St → Hp → Prop, (∀ σ' H', N σ' H' → ∃ m', m' < m ∧ W (i + 1) m' σ' H') ∧ ∀ x H', (Ite K a).yld i H x H' → g x σ H' fun σ2 H2 => tb { D with nx := N, ct := N, bk := D.nx } σ2 H2) := by
  refine ⟨fun i m σ H => m = xs.length - i ∧ i ≤ xs.length ∧ Pv i σ H, ⟨xs.length, by simp, Nat.zero_le _, h0⟩, ?_⟩
  rintro i m σ H ⟨rfl, hi, p⟩
  have q := hl i σ H hi p
  by_cases hlt : i < xs.length
  · refine .inr ⟨⟨xs, xs[i], q, by simp [hlt]⟩, Pv (i + 1), fun σ' H' p' => ⟨xs.length - (i + 1), by omega, rfl, hlt, p'⟩, fun v H' y => ?_⟩
    obtain ⟨r, x, rfl, hn, rfl, h1⟩ := y
    exact hs i x r σ _ (h1 _ q) p hn
  · have e : i = xs.length := by omega
    subst e
    exact .inl ⟨⟨xs, q, Nat.le_refl _⟩, hd σ H p⟩
/-! ### the signs of a text, one by one -/
noncomputable def Its (l : List Nat) : It := ⟨fun i _ => i < l.length, fun i H v H' => H' = H ∧ ∃ c, l[i]? = some c ∧ v = .str (tx [c]), fun i _ => l.length ≤ i⟩
theorem turn_str {P : Program} {w : World} {K : PySem.W.Frag} {tg : Expr} (l : List Nat) (t : Tok) (it : Addr) : Turn P w K tg (Its l) [it] it (fun i h => h.IsStrIter it "str_ascii_iterator" (tx l) t i) where
  mem := by simp
  obj := fun i h st b hb => by
    have e : b = it := by simpa using hb
    subst e
    obtain ⟨o, e, c, d⟩ := st
    exact ⟨o, e, fun v z => by rw [d] at z; cases z⟩
  keep := fun i h h' st k => by
    obtain ⟨o, e, c, d⟩ := st
    exact ⟨o, k it (by simp) o e, c, d⟩
  item := by
    intro X hP hw hK hc i pins s σ H E I hf st hg
    subst hP hw hK
    have hg : i < l.length := hg
    obtain ⟨f0, f1, f2, f3, f4, f5⟩ := hf it (by simp)
    have hx : (tx l).cps[i]? = some l[i] := by rw [← Array.getElem?_toList, tx_list]; simp [hg]
    refine wpAny_pyNext_ascii_item st hx fun h' st' sb => ?_
    have I1 : Inv X pins σ H { s with heap := h', toks := s.toks + 1 } := I.turned (t' := s.toks + 1) (fun b o hb e => (sb.2 b hb).trans e) f0 f1 f3 f4 f5
    obtain ⟨o, e, c, d⟩ := id st'
    exact ⟨_, rfl, go_of (s := { s with heap := h', toks := s.toks + 1 }) e c d (by decide) ⟨.str (tx [l[i]]), H, I1, ⟨_, rfl⟩, ⟨rfl, l[i], by simp [hg], rfl⟩, st', fun b hb => (hf b hb).1⟩⟩
  done := by
    intro X hP hw hK hc i pins s σ H E I hf st hg
    subst hP hw hK
    have hg : l.length ≤ i := hg
    obtain ⟨f0, f1, f2, f3, f4, f5⟩ := hf it (by simp)
    have hx : (tx l).cps[i]? = none := by rw [← Array.getElem?_toList, tx_list]; simp [hg]
    exact wpAny_pyNext_ascii_end (I.ok.hd hc) st hx fun h' eb => ⟨rfl, I.turned (t' := s.toks) (fun b o hb e => eb b o hb e) f0 f1 f3 f4 f5⟩
  self := fun _ _ _ _ _ st h => wpAny_pyIter_striter_ascii st h
noncomputable def iStr (tl : TE) : TI := fun σ H R => tl σ H fun x H1 => ∃ l : List Nat, x = .str (tx l) ∧ l.all (· < 128) = true ∧ R (Its l) H1
theorem pi_str {X : Cx} {tg e : Expr} {tl : TE} (hl : PE X e tl) : PI X tg e (iStr tl) := by
  intro pins s σ H R I h
  refine thn (hl pins s σ H _ I h) fun v s1 zz => ?_
  obtain ⟨x, H1, I1, r1, l, e, ha, q⟩ := zz
  subst e
  obtain ⟨t, rfl⟩ := (show ∃ t, v = Value.str (tx l) t from r1)
  refine wpAny_pyIter_ascii (by rw [← Array.all_toList, tx_list]; exact ha) ?_
  refine ⟨s1.heap.objs.size, [s1.heap.objs.size], _, _, H1, rfl, I1.kept (t' := s1.toks) fun b o e => Heap.get?_push_of_some _ e, turn_str l t _, ⟨_, Heap.get?_push_size _ rfl, rfl, rfl⟩, fun b hb => ?_, q⟩
  have e : b = s1.heap.objs.size := by simpa using hb
  subst e
  exact I1.fpOk (Nat.le_refl _) (I1.hok.fresh (Nat.le_refl _))
end L2


set_option Elab.async false
set_option linter.all false
set_option maxRecDepth 100000
/-! list(d); ==, != of lists of texts; == of a thing with itself -/
namespace L2
open PySem PySem.Spec PyProof.Rows PySem.W
section
variable {X : Cx}
theorem vals_keys {P : Program} {w : World} {kvs : List (Key × V)} {vs : List (Key × Value)} (r : KV kvs vs) : ∀ (us : List Value), us.length = vs.length → (∀ (j : Nat) (v : Value), us[j]? = some v → ∃ (k : Key) (x : Value), vs[j]? = some (k, x) ∧ (mixKind P w).is k v = true) → Vals (kvs.map fun q => kV q.1) us := by
  induction r with
  | nil => intro us hl _; cases us with | nil => exact .nil | cons => cases hl
  | cons h t ih =>
    intro us hl hu
    cases us with
    | nil => cases hl
    | cons u us =>
      obtain ⟨k, x, e, hk⟩ := hu 0 u rfl
      simp only [List.getElem?_cons_zero, Option.some.injEq] at e
      refine .cons ?_ (ih us (by simpa using hl) fun j v hv => by simpa using hu (j + 1) v (by simpa using hv))
      rename_i p q _ _
      have e1 : p.1 = k := by rw [h.1, e]
      show RelV (kV p.1) u
      rw [e1]
      rcases keyIs_shape hk with ⟨i, t, rfl, rfl⟩ | ⟨i, t, rfl, rfl⟩
      · exact ⟨t, rfl⟩
      · exact ⟨t, rfl⟩
theorem call_list_dk (hc : X.calm = true) : CallR X (.type "list") (fun xs H Q => ∃ a kvs, xs = [.ref a] ∧ H a = some (.dK kvs) ∧ ∀ l, H l = none → Q (.ref l) (upd H l (.lst (kvs.map fun q => kV q.1)))) := by
  intro pins s σ H xs us Q I r h
  obtain ⟨a, kvs, rfl, ea, q⟩ := h
  obtain ⟨u, rfl, ru⟩ := vals1 r
  cases ru
  obtain ⟨z, lo, vs, rel, hd⟩ : ObjOk X.prog X.w H s.heap a (.dK kvs) := I.hok a _ ea
  obtain ⟨ep, hat⟩ := hd.dictAt
  have hlen : kvs.length = vs.length := Paired.length rel
  refine kdl_call (kdl_dict (knd := mixKind X.prog X.w) (kvs := vs) (ep := ep) lo) (I.ok.hd hc) hat (by rw [← hlen]; exact z) fun h' tk acc c hk hl hacc => ?_
  have va : Vals (kvs.map fun q => kV q.1) acc.toList := vals_keys (P := X.prog) (w := X.w) rel acc.toList (by rw [Array.length_toList]; exact hacc.1) fun j v e => hacc.2 j v (by rw [← Array.getElem?_toList]; exact e)
  exact ⟨.ref s.heap.objs.size, _, I.laid (t' := tk) (o := .lst (kvs.map fun q => kV q.1)) hk (Nat.le_refl _) ⟨by rw [List.length_map]; exact z, acc.toList, c, va, by rw [Array.toArray_toList]; exact hl⟩, rfl, q _ (I.hok.fresh (Nat.le_refl _))⟩
/-! ### lists of texts -/
noncomputable def rEqS (K : PySem.W.Frag) (neg : Bool) : R2 := fun x y H Q => ∃ (a b : Addr) (ns ms : List Str), x = .ref a ∧ y = .ref b ∧ SqL K H a (ns.map V.str) ∧ SqL K H b (ms.map V.str) ∧ Q (.bl (if neg then !decide (ns = ms) else decide (ns = ms))) H
theorem strs_all : ∀ {ns ms : List Str} {us ws : List Value} {A : Around} {s : Shared}, Vals (ns.map V.str) us → Vals (ms.map V.str) ws → ∀ j (h1 : j < us.toArray.size) (h2 : j < ws.toArray.size), SeqAt.EqAt A s us.toArray[j] ws.toArray[j] ((ns[j]?).any fun x => (ms[j]?).any fun y => x == y) := by
  intro ns ms us ws A s r1 r2 j h1 h2
  have g1 : j < us.length := by simpa using h1
  have g2 : j < ws.length := by simpa using h2
  have l1 := r1.length
  have l2 := r2.length
  rw [List.length_map] at l1 l2
  obtain ⟨x, hx, rx⟩ := vals_at r1 (List.getElem?_eq_getElem g1)
  obtain ⟨y, hy, ry⟩ := vals_at r2 (List.getElem?_eq_getElem g2)
  rw [List.getElem?_map] at hx hy
  obtain ⟨a, ha, rfl⟩ := Option.map_eq_some_iff.mp hx
  obtain ⟨b, hb, rfl⟩ := Option.map_eq_some_iff.mp hy
  rw [ha, hb]
  have := eqAt_V (A := A) (s := s) rx ry rfl rfl
  simpa [eqV] using this
theorem strs_same : ∀ {ns ms : List Str}, ns.length = ms.length → ((List.range ns.length).all fun j => (ns[j]?).any fun x => (ms[j]?).any fun y => x == y) = decide (ns = ms) := by
  intro ns ms hl
  by_cases h : ns = ms
  · subst h
    rw [decide_eq_true rfl, List.all_eq_true]
    intro j hj
    have hj : j < ns.length := List.mem_range.mp hj
    simp [hj]
  · rw [decide_eq_false h, ← Bool.not_eq_true]
    intro q
    refine h (List.ext_getElem? fun j => ?_)
    by_cases hj : j < ns.length
    · have z := List.all_eq_true.mp q j (List.mem_range.mpr hj)
      have hj2 : j < ms.length := hl ▸ hj
      simp only [List.getElem?_eq_getElem hj, List.getElem?_eq_getElem hj2, Option.any_some, beq_iff_eq] at z ⊢
      rw [z]
    · rw [List.getElem?_eq_none (by omega), List.getElem?_eq_none (by omega)]
theorem op_neS (hu : X.A.units < cLine) : OpR X (compareOp .NotEq) (rEqS X.K true) := by
  intro pins s σ H x y v u Q I rx ry h
  obtain ⟨a, b, ns, ms, rfl, rfl, ha, hb, q⟩ := h
  cases rx; cases ry
  obtain ⟨its, r1, p1, _⟩ := I.list ha
  obtain ⟨its2, r2, p2, _⟩ := I.list hb
  have l1 := r1.length
  have l2 := r2.length
  rw [List.length_map] at l1 l2
  by_cases hl : ns.length = ms.length
  · refine SeqAt.RcNeAt.lists p1.isList p2.isList (by rw [List.size_toArray, List.size_toArray]; omega) hu (fun j h1 h2 => strs_all r1 r2 j h1 h2) _ _ _ _ ?_
    refine ⟨_, H, I, ?_, q⟩
    show Value.bool _ = Value.bool (!decide (ns = ms))
    rw [List.size_toArray, ← l1, strs_same hl]
  · refine SeqAt.RcNeAt.lists_lengths p1.isList p2.isList (by rw [List.size_toArray, List.size_toArray]; simp; omega) hu _ _ _ _ ?_
    refine ⟨_, H, I, ?_, q⟩
    show Value.bool true = Value.bool (!decide (ns = ms))
    rw [decide_eq_false fun e => hl (by rw [e])]; rfl
/-! ### a thing and itself -/
end
end L2


set_option Elab.async false
set_option linter.all false
set_option maxRecDepth 100000
/-! the rules, shut -/
namespace L2
open PySem PySem.Spec PyProof.Rows PySem.W
section
variable {X : Cx}
theorem op_din (hu : X.A.units + 64 < cLine) : OpR X (compareOp .In) (fun y x H Q => ∃ a o, x = .ref a ∧ DGet H a y o ∧ Q (.bl o.isSome) H) := by
  intro pins s σ H y x v u Q I ry rx h
  obtain ⟨a, o, rfl, g, q⟩ := h
  cases rx
  exact d_in (by omega) I g ry fun s' I' => ⟨.bl _, H, I', rfl, q⟩
end
theorem few2 {e f : Expr} {env : Env} {cpos : Pos} (h : noStar e = true) (h2 : noStar f = true) : ((backTo cpos (starEach [e, f] env)).all (fun x => !x.1) && (backToKw cpos (keywordEach [] env)).all (fun x => x.1.isSome)
      && decide (([e, f] : List Expr).length + ([] : List Keyword).length + (if ([] : List Keyword).isEmpty then 0 else 1) < 30)) = true := by
  rw [star_cons h, star_cons h2]; rfl
section
variable {P : Program} {w : World} {K : PySem.W.Frag} {mg : Str → Option Value} {base : Heap}
end
namespace R
section
variable {X : Cx} {e o i f value : Expr} {es : List Expr} {te to ti tf tv : TE} {t : TA} {pos p apos pos' : Pos}
theorem pi_enum {tes : List Expr} {kk : Nat} {tp : Pos} (hg : Gl X "enumerate") (hm : X.mg "enumerate" = none) (ha : QA X [e] t) (hs : noStar e = true := by rfl) : QI X (.Tuple tes kk tp) (.Call (.Name "enumerate" p) [e] [] pos) (iEnum X.K t) := ⟨L2.pi_enum hg hm ha.h hs⟩
theorem pi_str {tg : Expr} (hl : QE X e te) : QI X tg e (iStr te) := ⟨L2.pi_str hl.h⟩
theorem ps_dput (hu : X.A.units + 64 < cLine) (ho : QE X o to) (hi : QE X i ti) (hv : QE X value tv) (hs : noComp value = true := by rfl) : QS X (.Assign [.Subscript o i pos'] value pos) (sDPut to ti tv) := ⟨L2.ps_dput (by omega) ho.h hi.h hv.h (swaps_no hs)⟩
theorem pe_dget2 {cpos : Pos} (hu : X.A.units + 64 < cLine) (ho : QE X o to) (he : QE X e te) (hf : QE X f tf) (hs : noStar e = true := by rfl) (hs2 : noStar f = true := by rfl) (hb : attributeBase o "get" X.env (eval o X.env) = eval o X.env := by rfl) (hl : (apos.endLine == cpos.line) = true := by rfl) :
    QE X (.Call (.Attribute o "get" apos) [e, f] [] cpos) (tDGet2 to te tf) := ⟨L2.pe_dget2 (by omega) ho.h he.h hf.h ⟨hb, few2 hs hs2, hl, by rw [star_cons hs, star_cons hs2]; rfl⟩⟩
end
end R
/-! ### comprehensions over a text -/
section
variable {l : Addr} {fr : List Nat} {tt : TT} {te : TE} {σ : St} {Q : VK} {H1 : Hp}
theorem comp_str_map (xs : List Nat) (p : Nat → Bool) (f : Nat → V) (hn : xs.length ≤ 100) (hl : H1 l = none)
    (ht : ∀ x ∈ xs, ∀ H, Same H1 H → ∀ C, (∀ H', Same H H' → C (p x) H') → tt (some (.str (tx [x])) :: inner σ fr) H C)
    (he : ∀ x ∈ xs, p x = true → ∀ H, Same H1 H → ∀ C, (∀ H', Same H H' → C (f x) H') → te (some (.str (tx [x])) :: inner σ fr) H C)
    (hd : ∀ H, Same H1 H → H l = some (.lst ((xs.filter p).map f)) → Q (.ref l) H) : CompGoal (Its xs) 1 (gName 0) fr tt te σ Q H1 l := by
  refine comp_by1 xs.length (fun k H => Same H1 H ∧ H l = some (.lst (((xs.take k).filter p).map f))) ⟨same_new hl _, upd_same⟩ (fun k H hk _ => hk) (fun H _ => Nat.le_refl _) ?_ fun H ⟨s, e⟩ => hd H s (by rw [List.take_length] at e; exact e)
  rintro k H v H' hk ⟨s, e⟩ ⟨rfl, c, hx, rfl⟩ K1 K0 h1 h0
  have hm : c ∈ xs := List.mem_of_getElem? hx
  have e' : (xs.take (k + 1)).filter p = (xs.take k).filter p ++ (if p c = true then [c] else []) := by
    rw [List.take_add_one, hx, List.filter_append]
    cases hp : p c <;> simp [hp]
  refine ht c hm _ s _ fun H2 s2 => ?_
  have eL : H2 l = some (.lst (((xs.take k).filter p).map f)) := s2 _ _ e
  cases hp : p c with
  | false =>
    rw [if_neg (by decide)]
    refine h0 H2 ⟨s.trans s2, ?_⟩
    rw [e', hp]; simpa using eL
  | true =>
    rw [if_pos rfl]
    refine he c hm hp H2 (s.trans s2) _ fun H3 s3 => ?_
    have e3 : H3 l = some (.lst (((xs.take k).filter p).map f)) := s3 _ _ eL
    refine h1 _ H3 _ e3 ?_ ⟨?_, ?_⟩
    · rw [List.length_map, sizeLine_eq]
      have := List.length_filter_le p (xs.take k)
      rw [List.length_take] at this
      omega
    · exact ((s.trans s2).trans s3).upd hl _
    · rw [upd_same, e', hp]; simp
end
end L2


set_option Elab.async false
set_option linter.all false
set_option maxRecDepth 100000
/-! a text so many times -/
namespace L2
open PySem PySem.Spec PyProof.Rows PySem.W
end L2


set_option Elab.async false
set_option linter.all false
set_option maxRecDepth 100000
/-! texts put together: sep.join(list), f-strings with texts in them -/
namespace L2
open PySem PySem.Spec PyProof.Rows
theorem strs_are : ∀ {ns : List Str} {us : List Value}, Vals (ns.map V.str) us → ∃ l : List (Str × Tok), us = strValues l ∧ l.map (·.1) = ns
  | [], _, h => by
    cases h
    exact ⟨[], rfl, rfl⟩
  | n :: ns, _, h => by
    cases h with
    | cons r t =>
      obtain ⟨l, rfl, e⟩ := strs_are t
      obtain ⟨tk, rfl⟩ := r
      exact ⟨(n, tk) :: l, rfl, by rw [List.map_cons, e]⟩
noncomputable def tJoin (K : PySem.W.Frag) (to te : TE) : TE := fun σ H Q => to σ H fun x H1 => ∃ sep, x = .str sep ∧ te σ H1 fun y H2 => ∃ a ns, y = .ref a ∧ SqL K H2 a (ns.map V.str) ∧ JoinOk sep ns = true ∧ Q (.str (Txt.join sep ns)) H2
section
variable {X : Cx} {o e : Expr} {apos cpos pos : Pos} {to te : TE}
theorem pe_join (ho : PE X o to) (he : PE X e te) (m : M1 X o "join" apos e cpos) : PE X (.Call (.Attribute o "join" apos) [e] [] cpos) (tJoin X.K to te) := by
  intro pins s σ H Q I h
  refine wpAny_Call_method m.base m.few m.line PySem.F.plainAttrs_str PySem.F.slot_str_join PySem.F.type_str_join (thn (ho pins s σ H _ I h) fun u s1 zz => ?_)
  obtain ⟨x, H1, I1, rx, sep, ex, q1⟩ := zz
  subst ex
  obtain ⟨t, rfl⟩ := rx
  refine ⟨typeIs_str _ _ _, (fun _ e => nomatch e), ?_⟩
  rw [m.trees]
  refine Calls.callWith_builtin rfl (Calls.evalArgs_plain (Calls.spliced_cons (thn (he pins s1 σ H1 _ I1 q1) fun iv s2 ⟨y, H2, I2, ry, a, ns, ey, ha, hok, q2⟩ => Calls.spliced_nil ?_)))
  subst ey
  cases ry
  obtain ⟨its, r1, p1, _⟩ := I2.list ha
  obtain ⟨l, rfl, hl⟩ := strs_are r1
  exact SC.join p1.isList hl hok fun t' k => ⟨.str (Txt.join sep ns), H2, I2.tok _, ⟨_, rfl⟩, q2⟩
/-- a text inside an f-string -/
noncomputable def tFs (te : TE) : TE := fun σ H Q => te σ H fun x H1 => ∃ y : Str, x = .str y ∧ y.length ≤ sizeLine ∧ Q (.str y) H1
theorem pe_fs (he : PE X e te) : PE X (.FormattedValue e (-1) none pos) (tFs te) := by
  intro pins s σ H Q I q
  refine FormattedValue_plain (thn (he pins s σ H _ I q) fun v s1 ⟨x, H1, I1, r1, y, e, hz, q1⟩ => ?_)
  subst e
  obtain ⟨t, rfl⟩ := r1
  exact wpAny_formatField_str ⟨.str y, H1, I1, ⟨_, rfl⟩, q1⟩ ⟨.str y, H1, I1.tok _, ⟨_, rfl⟩, q1⟩ hz
end
namespace R
section
variable {X : Cx} {o e : Expr} {apos cpos pos : Pos} {to te : TE}
theorem pe_join (K : PySem.W.Frag) (ho : QE X o to) (he : QE X e te) (hK : X.K = K := by rfl) (hs : noStar e = true := by rfl) (hb : attributeBase o "join" X.env (eval o X.env) = eval o X.env := by rfl) (hl : (apos.endLine == cpos.line) = true := by rfl) :
    QE X (.Call (.Attribute o "join" apos) [e] [] cpos) (tJoin K to te) := by
  subst hK
  exact ⟨L2.pe_join ho.h he.h ⟨hb, few1 hs, hl, by rw [star_cons hs]; rfl⟩⟩
theorem pe_fs (he : QE X e te) : QE X (.FormattedValue e (-1) none pos) (tFs te) := ⟨L2.pe_fs he.h⟩
end
end R
end L2


set_option Elab.async false
set_option linter.all false
set_option maxRecDepth 100000
/-! texts of bids: what words tells -/
namespace L2
open PySem PySem.Spec PyProof.Rows
noncomputable def placeT (ns : List Str) (b : Nat) : Str := Txt.join (Str.ofString "+") ((things b).map fun k => ns.getD k Str.empty)
noncomputable def formT (ns : List Str) : Form → Str
  | .none => Str.ofString "nothing"
  | .only b m => placeT ns b ++ Str.ofString " for " ++ Str.ofString (toString m)
  | .some k l m => Str.ofString (toString ((l : Nat) : Int)) ++ Str.ofString " of " ++ placeT ns k ++ Str.ofString " for " ++ Str.ofString (toString m)
  | .most k c m => Str.ofString "up to " ++ Str.ofString (toString ((c : Nat) : Int)) ++ Str.ofString " of " ++ placeT ns k ++ Str.ofString " for " ++ Str.ofString (toString m) ++ Str.ofString " each"
noncomputable def headW (any : Bool) : Str := if any = true then Str.ofString "any(" else Str.ofString "one("
mutual
noncomputable def textT (ns : List Str) : Tr → Str
  | .leaf f => formT ns f
  | .node any ts => headW any ++ Txt.join (Str.ofString "; ") (textL ns ts) ++ Str.ofString ")"
noncomputable def textL (ns : List Str) : List Tr → List Str
  | [] => []
  | t :: ts => textT ns t :: textL ns ts
end
theorem textL_map (ns : List Str) : ∀ ts : List Tr, textL ns ts = ts.map (textT ns)
  | [] => by rw [textL]; rfl
  | t :: ts => by rw [textL, textL_map ns ts]; rfl
theorem textT_node (ns : List Str) (any : Bool) (ts : List Tr) : textT ns (.node any ts) = headW any ++ Txt.join (Str.ofString "; ") (ts.map (textT ns)) ++ Str.ofString ")" := by rw [textT, textL_map]
theorem textT_leaf (ns : List Str) (f : Form) : textT ns (.leaf f) = formT ns f := by rw [textT]
/-- names that are short -/
noncomputable def NsOk (ns : List Str) : Prop := ∀ x ∈ ns, x.length ≤ 20
theorem getD_short {ns : List Str} (h : NsOk ns) (k : Nat) : (ns.getD k Str.empty).length ≤ 20 := by
  rw [List.getD_eq_getElem?_getD]
  cases e : ns[k]? with
  | none => show Str.empty.length ≤ 20; decide
  | some x => exact h x (List.mem_of_getElem? e)
theorem join_len {sep : Str} {ts : List Str} {B N : Nat} (h : ∀ x ∈ ts, x.length ≤ B) (hn : ts.length ≤ N) : (ts.map (·.length)).sum + ts.length * sep.length ≤ N * (B + sep.length) := by
  have h1 : ∀ l : List Str, (∀ x ∈ l, x.length ≤ B) → (l.map (·.length)).sum ≤ l.length * B := by
    intro l
    induction l with
    | nil => intro _; simp
    | cons x l ih =>
      intro h
      have a := ih fun y hy => h y (List.mem_cons_of_mem _ hy)
      have b := h x (List.mem_cons_self ..)
      rw [List.map_cons, List.sum_cons, List.length_cons, Nat.succ_mul]
      omega
  have a := h1 ts h
  have b : ts.length * (B + sep.length) ≤ N * (B + sep.length) := Nat.mul_le_mul_right _ hn
  rw [Nat.mul_add] at b
  omega
theorem joinOk_of {sep : Str} {ts : List Str} (h : (ts.map (·.length)).sum + ts.length * sep.length ≤ 100000) : JoinOk sep ts = true ∧ (Txt.join sep ts).length ≤ (ts.map (·.length)).sum + ts.length * sep.length := by
  constructor
  · unfold JoinOk Builtin.Str.tooLong
    rw [StrLaws.joinTotal]
    have : ¬ ((ts.map (·.length)).sum + ts.length * sep.length > sizeLine) := by rw [sizeLine_eq]; omega
    simp [this]
  · unfold Txt.join
    rw [StrLaws.glued_eq_join]
    exact StrLaws.join_length_le sep ts
theorem place_fits {ns : List Str} (h : NsOk ns) (b : Nat) : JoinOk (Str.ofString "+") ((things b).map fun k => ns.getD k Str.empty) = true ∧ (placeT ns b).length ≤ 130 := by
  have e := join_len (sep := Str.ofString "+") (ts := (things b).map fun k => ns.getD k Str.empty) (B := 20) (N := 6) (fun x hx => by
    obtain ⟨k, _, rfl⟩ := List.mem_map.mp hx
    exact getD_short h k) (by rw [List.length_map]; exact things_len b)
  have e1 : (Str.ofString "+").length = 1 := rfl
  rw [e1] at e
  obtain ⟨a, c⟩ := joinOk_of (sep := Str.ofString "+") (ts := (things b).map fun k => ns.getD k Str.empty) (by rw [e1]; omega)
  refine ⟨a, ?_⟩
  unfold placeT
  rw [e1] at c
  omega
theorem int_len {m : Int} (h0 : 0 ≤ m) (h : m ≤ 10 ^ 9) : (Str.ofString (toString m)).length ≤ 11 := by
  rw [PySem.ofString_length]
  exact int_text_length_le10 (k := 10) (by decide) (by omega)
theorem int_log {m : Int} (h0 : 0 ≤ m) (h : m ≤ 10 ^ 9) : m.natAbs.log2 < 1920 := by
  by_cases z : m.natAbs = 0
  · rw [z]; decide
  · exact (Nat.log2_lt z).mpr (Nat.lt_of_lt_of_le (show m.natAbs < 2 ^ 31 by omega) (Nat.pow_le_pow_right (by decide) (by decide)))
theorem lens : (Str.ofString " for ").length = 5 ∧ (Str.ofString " of ").length = 4 ∧ (Str.ofString "up to ").length = 6 ∧ (Str.ofString " each").length = 5 ∧ (Str.ofString "nothing").length = 7 ∧ (Str.ofString ")").length = 1 ∧ (Str.ofString "; ").length = 2 ∧ (Str.ofString "any(").length = 4 ∧ (Str.ofString "one(").length = 4 := by decide
theorem form_len {ns : List Str} (h : NsOk ns) {f : Form} (ok : FormOk f) : (formT ns f).length ≤ 200 := by
  obtain ⟨l1, l2, l3, l4, l5, _⟩ := lens
  cases f with
  | none => show (Str.ofString "nothing").length ≤ 200; omega
  | only b m =>
    have a := (place_fits h b).2
    have c := int_len ok.2.2.lo ok.2.2.hi
    show (placeT ns b ++ Str.ofString " for " ++ Str.ofString (toString m)).length ≤ 200
    rw [strLen_append, strLen_append]; omega
  | some k l m =>
    have a := (place_fits h k).2
    have c := int_len ok.2.2.2.2.lo ok.2.2.2.2.hi
    have d := int_len (m := ((l : Nat) : Int)) (by omega) (by have := ok.2.2.2.1; omega)
    show (Str.ofString (toString ((l : Nat) : Int)) ++ Str.ofString " of " ++ placeT ns k ++ Str.ofString " for " ++ Str.ofString (toString m)).length ≤ 200
    rw [strLen_append, strLen_append, strLen_append, strLen_append]; omega
  | most k l m =>
    have a := (place_fits h k).2
    have c := int_len ok.2.2.2.2.lo ok.2.2.2.2.hi
    have d := int_len (m := ((l : Nat) : Int)) (by omega) (by have := ok.2.2.2.1; omega)
    show (Str.ofString "up to " ++ Str.ofString (toString ((l : Nat) : Int)) ++ Str.ofString " of " ++ placeT ns k ++ Str.ofString " for " ++ Str.ofString (toString m) ++ Str.ofString " each").length ≤ 200
    rw [strLen_append, strLen_append, strLen_append, strLen_append, strLen_append, strLen_append]; omega
theorem head_len (any : Bool) : (headW any).length = 4 := by cases any <;> rfl
mutual
theorem text_len {ns : List Str} (h : NsOk ns) : ∀ t : Tr, okT t → tallyT t ≤ 100 → (textT ns t).length + 2 ≤ 220 * tallyT t
  | .leaf f, ok, _ => by
    rw [textT_leaf]
    have := form_len h (okT_leaf.mp ok)
    show _ ≤ 220 * 1
    omega
  | .node any ts, ok, few => by
    have few' : 1 + tallyL ts ≤ 100 := few
    have ih := text_lens h ts (okL_mem (okT_node.mp ok)) (by omega)
    obtain ⟨_, _, _, _, _, l6, l7, _⟩ := lens
    rw [textT, strLen_append, strLen_append, head_len, l6]
    have hl : (textL ns ts).length = ts.length := by rw [textL_map, List.length_map]
    have e : ((textL ns ts).map (·.length)).sum + (textL ns ts).length * (Str.ofString "; ").length ≤ 220 * tallyL ts := by rw [l7]; exact ih
    have := (joinOk_of (sep := Str.ofString "; ") (ts := textL ns ts) (by omega)).2
    show _ ≤ 220 * (1 + tallyL ts)
    omega
theorem text_lens {ns : List Str} (h : NsOk ns) : ∀ ts : List Tr, (∀ t ∈ ts, okT t) → tallyL ts ≤ 100 → ((textL ns ts).map (·.length)).sum + (textL ns ts).length * 2 ≤ 220 * tallyL ts
  | [], _, _ => by rw [textL]; exact Nat.zero_le _
  | t :: ts, ok, few => by
    have few' : tallyT t + tallyL ts ≤ 100 := few
    have a := text_len h t (ok t (List.mem_cons_self ..)) (by omega)
    have b := text_lens h ts (fun u hu => ok u (List.mem_cons_of_mem _ hu)) (by omega)
    rw [textL, List.map_cons, List.sum_cons, List.length_cons, Nat.succ_mul]
    show _ ≤ 220 * (tallyT t + tallyL ts)
    omega
end
theorem texts_fit {ns : List Str} (h : NsOk ns) {ts : List Tr} (ok : ∀ t ∈ ts, okT t) (few : tallyL ts ≤ 100) : JoinOk (Str.ofString "; ") (ts.map (textT ns)) = true ∧ (Txt.join (Str.ofString "; ") (ts.map (textT ns))).length ≤ 22000 := by
  obtain ⟨_, _, _, _, _, l6, l7, _⟩ := lens
  have ih := text_lens h ts ok few
  rw [textL_map] at ih
  have e : ((ts.map (textT ns)).map (·.length)).sum + (ts.map (textT ns)).length * (Str.ofString "; ").length ≤ 22000 := by rw [l7]; omega
  obtain ⟨a, b⟩ := joinOk_of (sep := Str.ofString "; ") (ts := ts.map (textT ns)) (by omega)
  exact ⟨a, by omega⟩
/-! ### which things are spoken of -/
noncomputable def Sub (x m : Nat) : Prop := x ||| (2 ^ m - 1) = 2 ^ m - 1
theorem Sub.of_or {x y m : Nat} (h : Sub (x ||| y) m) : Sub x m ∧ Sub y m := by
  unfold Sub at *
  have key : ∀ i, (x.testBit i = true → (2 ^ m - 1).testBit i = true) ∧ (y.testBit i = true → (2 ^ m - 1).testBit i = true) := fun i => by
    have := congrArg (fun z => z.testBit i) h
    simp only [Nat.testBit_or] at this
    constructor <;> intro z
    · rw [z, Bool.true_or, Bool.true_or] at this; exact this.symm
    · rw [z, Bool.or_true, Bool.true_or] at this; exact this.symm
  constructor
  · refine Nat.eq_of_testBit_eq fun i => ?_
    rw [Nat.testBit_or]
    cases e : x.testBit i with
    | false => rfl
    | true => rw [(key i).1 e]; rfl
  · refine Nat.eq_of_testBit_eq fun i => ?_
    rw [Nat.testBit_or]
    cases e : y.testBit i with
    | false => rfl
    | true => rw [(key i).2 e]; rfl
theorem subM_things : ∀ m < 7, ∀ b < 64, b ||| (2 ^ m - 1) = 2 ^ m - 1 → ∀ k ∈ things b, k < m := by decide +kernel
theorem Sub.mem {m : Nat} : ∀ {ts : List Tr}, Sub (spokenL ts) m → ∀ t ∈ ts, Sub (spokenT t) m
  | [], _, t, ht => by cases ht
  | u :: ts, h, t, ht => by
    obtain ⟨a, b⟩ := Sub.of_or (show Sub (spokenT u ||| spokenL ts) m from h)
    rcases List.mem_cons.mp ht with rfl | ht
    · exact a
    · exact Sub.mem b t ht
end L2


set_option Elab.async false
set_option linter.all false
set_option maxRecDepth 100000
set_option maxHeartbeats 4000000
namespace My
open PySem PySem.Spec PyProof.Rows L2 GM
theorem lst0 {T : Type} {P : List T → Prop} {us : List T} (h : us.length = 0) (f : P []) : P us := by cases us with | nil => exact f | cons a us => cases h
theorem lst1 {T : Type} {P : List T → Prop} {us : List T} (h : us.length = 1) (f : ∀ a, P [a]) : P us := by cases us with | nil => cases h | cons a us => exact lst0 (P := fun l => P (a :: l)) (Nat.succ.inj h) (f a)
theorem lst2 {T : Type} {P : List T → Prop} {us : List T} (h : us.length = 2) (f : ∀ a b, P [a, b]) : P us := by cases us with | nil => cases h | cons a us => exact lst1 (P := fun l => P (a :: l)) (Nat.succ.inj h) (f a)
theorem lst3 {T : Type} {P : List T → Prop} {us : List T} (h : us.length = 3) (f : ∀ a b c, P [a, b, c]) : P us := by cases us with | nil => cases h | cons a us => exact lst2 (P := fun l => P (a :: l)) (Nat.succ.inj h) (f a)
theorem lst4 {T : Type} {P : List T → Prop} {us : List T} (h : us.length = 4) (f : ∀ a b c d, P [a, b, c, d]) : P us := by cases us with | nil => cases h | cons a us => exact lst3 (P := fun l => P (a :: l)) (Nat.succ.inj h) (f a)
theorem bnd1 {K : PySem.W.Frag} {x qual : Str} {st : Stmt} {f : Addr} {fd : FuncData} {p0 : Str} (F : Fun K x qual st f fd) (h : ∀ (kV doc pm : Value) (an : Option Addr) (cdv ct : Value) (a : Value), bindArgs (PySem.W.fnOf x qual (defArgs st) (defBody st) (defScope st) .none kV doc pm an cdv ct) ⟨[a], []⟩ = pure ([p0].zip [a])) : Binds K fd [p0] [] :=
  F.binds fun kV doc pm an cdv ct us hl => lst1 (P := fun us => bindArgs (PySem.W.fnOf x qual (defArgs st) (defBody st) (defScope st) .none kV doc pm an cdv ct) ⟨us, []⟩ = pure ([p0].zip us)) hl (h kV doc pm an cdv ct)
theorem bnd2 {K : PySem.W.Frag} {x qual : Str} {st : Stmt} {f : Addr} {fd : FuncData} {p0 p1 : Str} (F : Fun K x qual st f fd) (h : ∀ (kV doc pm : Value) (an : Option Addr) (cdv ct : Value) (a b : Value), bindArgs (PySem.W.fnOf x qual (defArgs st) (defBody st) (defScope st) .none kV doc pm an cdv ct) ⟨[a, b], []⟩ = pure ([p0, p1].zip [a, b])) : Binds K fd [p0, p1] [] :=
  F.binds fun kV doc pm an cdv ct us hl => lst2 (P := fun us => bindArgs (PySem.W.fnOf x qual (defArgs st) (defBody st) (defScope st) .none kV doc pm an cdv ct) ⟨us, []⟩ = pure ([p0, p1].zip us)) hl (h kV doc pm an cdv ct)
theorem bnd3 {K : PySem.W.Frag} {x qual : Str} {st : Stmt} {f : Addr} {fd : FuncData} {p0 p1 p2 : Str} (F : Fun K x qual st f fd) (h : ∀ (kV doc pm : Value) (an : Option Addr) (cdv ct : Value) (a b c : Value), bindArgs (PySem.W.fnOf x qual (defArgs st) (defBody st) (defScope st) .none kV doc pm an cdv ct) ⟨[a, b, c], []⟩ = pure ([p0, p1, p2].zip [a, b, c])) : Binds K fd [p0, p1, p2] [] :=
  F.binds fun kV doc pm an cdv ct us hl => lst3 (P := fun us => bindArgs (PySem.W.fnOf x qual (defArgs st) (defBody st) (defScope st) .none kV doc pm an cdv ct) ⟨us, []⟩ = pure ([p0, p1, p2].zip us)) hl (h kV doc pm an cdv ct)
theorem bnd4 {K : PySem.W.Frag} {x qual : Str} {st : Stmt} {f : Addr} {fd : FuncData} {p0 p1 p2 p3 : Str} (F : Fun K x qual st f fd) (h : ∀ (kV doc pm : Value) (an : Option Addr) (cdv ct : Value) (a b c d : Value), bindArgs (PySem.W.fnOf x qual (defArgs st) (defBody st) (defScope st) .none kV doc pm an cdv ct) ⟨[a, b, c, d], []⟩ = pure ([p0, p1, p2, p3].zip [a, b, c, d])) : Binds K fd [p0, p1, p2, p3] [] :=
  F.binds fun kV doc pm an cdv ct us hl => lst4 (P := fun us => bindArgs (PySem.W.fnOf x qual (defArgs st) (defBody st) (defScope st) .none kV doc pm an cdv ct) ⟨us, []⟩ = pure ([p0, p1, p2, p3].zip us)) hl (h kV doc pm an cdv ct)
noncomputable def top (i : Nat) : Stmt := PySem.Challenge.pw_gavelhall_k33_words_told.main.body.getD i (.Pass ⟨0, 0, 0, 0⟩)
noncomputable abbrev s_P_is_whole : Stmt := top 7
noncomputable abbrev s_P_is_within : Stmt := top 8
noncomputable abbrev s_P_things_in : Stmt := top 10
noncomputable abbrev s_P_holds : Stmt := top 11
noncomputable abbrev s_P_check_bundle : Stmt := top 20
noncomputable abbrev s_P_check_so_many : Stmt := top 21
noncomputable abbrev s_P_check_amount : Stmt := top 22
noncomputable abbrev s_P_check_bids : Stmt := top 23
noncomputable abbrev s_P_depth_over : Stmt := top 24
noncomputable abbrev s_P_tally_over : Stmt := top 25
noncomputable abbrev s_P_place_words : Stmt := top 26
noncomputable abbrev s_P_list_words : Stmt := top 27
noncomputable abbrev s_P_shown_bid : Stmt := top 29
noncomputable abbrev s_P_is_name : Stmt := top 31
noncomputable abbrev s_L_cell : Stmt := top 34
noncomputable abbrev s_L_word : Stmt := top 35
noncomputable abbrev s_L_names : Stmt := top 36
noncomputable abbrev s_L_kinds : Stmt := top 37
noncomputable abbrev s_L_amount : Stmt := top 38
noncomputable abbrev s_L_leaf : Stmt := top 39
noncomputable abbrev s_L_grouped : Stmt := top 40
noncomputable abbrev s_L_made : Stmt := top 41
noncomputable abbrev s_L_place : Stmt := top 42
noncomputable abbrev s_L_text : Stmt := top 43
noncomputable abbrev s_L_form : Stmt := top 44
noncomputable abbrev s_L_good : Stmt := top 45
noncomputable abbrev s_law : Stmt := top 46
noncomputable abbrev s_M_Bid_depth : Stmt := (clsBody (top 13)).getD 1 (.Pass ⟨0, 0, 0, 0⟩)
noncomputable abbrev s_M_Bid_tally : Stmt := (clsBody (top 13)).getD 2 (.Pass ⟨0, 0, 0, 0⟩)
noncomputable abbrev s_M_Bid_words : Stmt := (clsBody (top 13)).getD 4 (.Pass ⟨0, 0, 0, 0⟩)
noncomputable abbrev s_M_Only___init__ : Stmt := (clsBody (top 14)).getD 0 (.Pass ⟨0, 0, 0, 0⟩)
noncomputable abbrev s_M_Only_words : Stmt := (clsBody (top 14)).getD 3 (.Pass ⟨0, 0, 0, 0⟩)
noncomputable abbrev s_M_SoMany___init__ : Stmt := (clsBody (top 15)).getD 0 (.Pass ⟨0, 0, 0, 0⟩)
noncomputable abbrev s_M_SoMany_words : Stmt := (clsBody (top 15)).getD 3 (.Pass ⟨0, 0, 0, 0⟩)
noncomputable abbrev s_M_UpTo___init__ : Stmt := (clsBody (top 16)).getD 0 (.Pass ⟨0, 0, 0, 0⟩)
noncomputable abbrev s_M_UpTo_words : Stmt := (clsBody (top 16)).getD 3 (.Pass ⟨0, 0, 0, 0⟩)
noncomputable abbrev s_M_Several___init__ : Stmt := (clsBody (top 17)).getD 0 (.Pass ⟨0, 0, 0, 0⟩)
noncomputable abbrev s_M_Several_depth : Stmt := (clsBody (top 17)).getD 1 (.Pass ⟨0, 0, 0, 0⟩)
noncomputable abbrev s_M_Several_tally : Stmt := (clsBody (top 17)).getD 2 (.Pass ⟨0, 0, 0, 0⟩)
noncomputable abbrev s_M_AnyOf_words : Stmt := (clsBody (top 18)).getD 1 (.Pass ⟨0, 0, 0, 0⟩)
noncomputable abbrev s_M_OneOf_words : Stmt := (clsBody (top 19)).getD 1 (.Pass ⟨0, 0, 0, 0⟩)
noncomputable abbrev s_M_Stock___init__ : Stmt := (clsBody (top 32)).getD 0 (.Pass ⟨0, 0, 0, 0⟩)
noncomputable abbrev s_M_Stock_names : Stmt := (clsBody (top 32)).getD 2 (.Pass ⟨0, 0, 0, 0⟩)
theorem sc_P_is_whole : FnScope ["thing"] ["thing"] (defScope s_P_is_whole) := ⟨rfl, rfl, rfl, by decide +kernel, rfl, by decide +kernel, by decide +kernel⟩
theorem sc_P_is_within : FnScope ["thing", "least", "most"] ["thing", "least", "most"] (defScope s_P_is_within) := ⟨rfl, rfl, rfl, by decide +kernel, rfl, by decide +kernel, by decide +kernel⟩
theorem sc_P_things_in : FnScope ["bundle"] ["bundle"] (defScope s_P_things_in) := ⟨rfl, rfl, rfl, by decide +kernel, rfl, by decide +kernel, by decide +kernel⟩
theorem sc_P_holds : FnScope ["one", "other"] ["one", "other"] (defScope s_P_holds) := ⟨rfl, rfl, rfl, by decide +kernel, rfl, by decide +kernel, by decide +kernel⟩
theorem sc_P_check_bundle : FnScope ["bundle"] ["bundle"] (defScope s_P_check_bundle) := ⟨rfl, rfl, rfl, by decide +kernel, rfl, by decide +kernel, by decide +kernel⟩
theorem sc_P_check_so_many : FnScope ["number"] ["number"] (defScope s_P_check_so_many) := ⟨rfl, rfl, rfl, by decide +kernel, rfl, by decide +kernel, by decide +kernel⟩
theorem sc_P_check_amount : FnScope ["amount"] ["amount"] (defScope s_P_check_amount) := ⟨rfl, rfl, rfl, by decide +kernel, rfl, by decide +kernel, by decide +kernel⟩
theorem sc_P_check_bids : FnScope ["bids", "bid"] ["bids"] (defScope s_P_check_bids) := ⟨rfl, rfl, rfl, by decide +kernel, rfl, by decide +kernel, by decide +kernel⟩
theorem sc_P_depth_over : FnScope ["bids"] ["bids"] (defScope s_P_depth_over) := ⟨rfl, rfl, rfl, by decide +kernel, rfl, by decide +kernel, by decide +kernel⟩
theorem sc_P_tally_over : FnScope ["bids"] ["bids"] (defScope s_P_tally_over) := ⟨rfl, rfl, rfl, by decide +kernel, rfl, by decide +kernel, by decide +kernel⟩
theorem sc_P_place_words : FnScope ["bundle", "names"] ["bundle", "names"] (defScope s_P_place_words) := ⟨rfl, rfl, rfl, by decide +kernel, rfl, by decide +kernel, by decide +kernel⟩
theorem sc_P_list_words : FnScope ["bids", "names"] ["bids", "names"] (defScope s_P_list_words) := ⟨rfl, rfl, rfl, by decide +kernel, rfl, by decide +kernel, by decide +kernel⟩
theorem sc_P_shown_bid : FnScope ["bid", "stock"] ["bid", "stock"] (defScope s_P_shown_bid) := ⟨rfl, rfl, rfl, by decide +kernel, rfl, by decide +kernel, by decide +kernel⟩
theorem sc_P_is_name : FnScope ["thing"] ["thing"] (defScope s_P_is_name) := ⟨rfl, rfl, rfl, by decide +kernel, rfl, by decide +kernel, by decide +kernel⟩
theorem sc_L_cell : FnScope ["_law_script", "_law_k"] ["_law_script", "_law_k"] (defScope s_L_cell) := ⟨rfl, rfl, rfl, by decide +kernel, rfl, by decide +kernel, by decide +kernel⟩
theorem sc_L_word : FnScope ["_law_cell_here", "_law_size", "_law_letters", "_law_word_here", "_law_k", "_law_at"] ["_law_cell_here", "_law_size"] (defScope s_L_word) := ⟨rfl, rfl, rfl, by decide +kernel, rfl, by decide +kernel, by decide +kernel⟩
theorem sc_L_names : FnScope ["_law_script", "_law_many", "_law_way", "_law_cell_here", "_law_base", "_law_found", "_law_some", "_law_size", "_law_at", "_law_k", "_law_letter"] ["_law_script", "_law_many"] (defScope s_L_names) := ⟨rfl, rfl, rfl, by decide +kernel, rfl, by decide +kernel, by decide +kernel⟩
theorem sc_L_kinds : FnScope ["_law_script", "_law_names_here", "_law_pool"] ["_law_script", "_law_names_here"] (defScope s_L_kinds) := ⟨rfl, rfl, rfl, by decide +kernel, rfl, by decide +kernel, by decide +kernel⟩
theorem sc_L_amount : FnScope ["_law_cell_here", "_law_way"] ["_law_cell_here"] (defScope s_L_amount) := ⟨rfl, rfl, rfl, by decide +kernel, rfl, by decide +kernel, by decide +kernel⟩
theorem sc_L_leaf : FnScope ["_law_cell_here", "_law_other", "_law_last", "_law_word_here"] ["_law_cell_here", "_law_other", "_law_last"] (defScope s_L_leaf) := ⟨rfl, rfl, rfl, by decide +kernel, rfl, by decide +kernel, by decide +kernel⟩
theorem sc_L_grouped : FnScope ["_law_forms", "_law_cell_here", "_law_number", "_law_found", "_law_row", "_law_k", "_law_way"] ["_law_forms", "_law_cell_here"] (defScope s_L_grouped) := ⟨rfl, rfl, rfl, by decide +kernel, rfl, by decide +kernel, by decide +kernel⟩
theorem sc_L_made : FnScope ["_law_form_here"] ["_law_form_here"] (defScope s_L_made) := ⟨rfl, rfl, rfl, by decide +kernel, rfl, by decide +kernel, by decide +kernel⟩
theorem sc_L_place : FnScope ["_law_bundle", "_law_names_here"] ["_law_bundle", "_law_names_here"] (defScope s_L_place) := ⟨rfl, rfl, rfl, by decide +kernel, rfl, by decide +kernel, by decide +kernel⟩
theorem sc_L_text : FnScope ["_law_form_here", "_law_names_here", "_law_place_here"] ["_law_form_here", "_law_names_here"] (defScope s_L_text) := ⟨rfl, rfl, rfl, by decide +kernel, rfl, by decide +kernel, by decide +kernel⟩
theorem sc_L_form : FnScope ["_law_script", "_law_last", "_law_cell_here", "_law_forms", "_law_k"] ["_law_script", "_law_last"] (defScope s_L_form) := ⟨rfl, rfl, rfl, by decide +kernel, rfl, by decide +kernel, by decide +kernel⟩
theorem sc_L_good : FnScope ["_law_bid", "_law_stock", "_law_names_here", "_law_due", "_law_handed", "_law_found"] ["_law_bid", "_law_stock", "_law_names_here", "_law_due"] (defScope s_L_good) := ⟨rfl, rfl, rfl, by decide +kernel, rfl, by decide +kernel, by decide +kernel⟩
theorem sc_law : FnScope ["_law_script", "_law_names_here", "_law_stock", "_law_form_here", "_law_bid", "_law_more", "_law_due", "_law_turned"] ["_law_script"] (defScope s_law) := ⟨rfl, rfl, rfl, by decide +kernel, rfl, by decide +kernel, by decide +kernel⟩
theorem sc_M_Bid_depth : FnScope ["self"] ["self"] (defScope s_M_Bid_depth) := ⟨rfl, rfl, rfl, by decide +kernel, rfl, by decide +kernel, by decide +kernel⟩
theorem sc_M_Bid_tally : FnScope ["self"] ["self"] (defScope s_M_Bid_tally) := ⟨rfl, rfl, rfl, by decide +kernel, rfl, by decide +kernel, by decide +kernel⟩
theorem sc_M_Bid_words : FnScope ["self", "names"] ["self", "names"] (defScope s_M_Bid_words) := ⟨rfl, rfl, rfl, by decide +kernel, rfl, by decide +kernel, by decide +kernel⟩
theorem sc_M_Only___init__ : FnScope ["self", "bundle", "amount"] ["self", "bundle", "amount"] (defScope s_M_Only___init__) := ⟨rfl, rfl, rfl, by decide +kernel, rfl, by decide +kernel, by decide +kernel⟩
theorem sc_M_Only_words : FnScope ["self", "names", "place", "amount"] ["self", "names"] (defScope s_M_Only_words) := ⟨rfl, rfl, rfl, by decide +kernel, rfl, by decide +kernel, by decide +kernel⟩
theorem sc_M_SoMany___init__ : FnScope ["self", "kind", "least", "amount"] ["self", "kind", "least", "amount"] (defScope s_M_SoMany___init__) := ⟨rfl, rfl, rfl, by decide +kernel, rfl, by decide +kernel, by decide +kernel⟩
theorem sc_M_SoMany_words : FnScope ["self", "names", "place", "least", "amount"] ["self", "names"] (defScope s_M_SoMany_words) := ⟨rfl, rfl, rfl, by decide +kernel, rfl, by decide +kernel, by decide +kernel⟩
theorem sc_M_UpTo___init__ : FnScope ["self", "kind", "most", "each"] ["self", "kind", "most", "each"] (defScope s_M_UpTo___init__) := ⟨rfl, rfl, rfl, by decide +kernel, rfl, by decide +kernel, by decide +kernel⟩
theorem sc_M_UpTo_words : FnScope ["self", "names", "place", "most", "each"] ["self", "names"] (defScope s_M_UpTo_words) := ⟨rfl, rfl, rfl, by decide +kernel, rfl, by decide +kernel, by decide +kernel⟩
theorem sc_M_Several___init__ : FnScope ["self", "bids"] ["self", "bids"] (defScope s_M_Several___init__) := ⟨rfl, rfl, rfl, by decide +kernel, rfl, by decide +kernel, by decide +kernel⟩
theorem sc_M_Several_depth : FnScope ["self"] ["self"] (defScope s_M_Several_depth) := ⟨rfl, rfl, rfl, by decide +kernel, rfl, by decide +kernel, by decide +kernel⟩
theorem sc_M_Several_tally : FnScope ["self"] ["self"] (defScope s_M_Several_tally) := ⟨rfl, rfl, rfl, by decide +kernel, rfl, by decide +kernel, by decide +kernel⟩
theorem sc_M_AnyOf_words : FnScope ["self", "names", "inner"] ["self", "names"] (defScope s_M_AnyOf_words) := ⟨rfl, rfl, rfl, by decide +kernel, rfl, by decide +kernel, by decide +kernel⟩
theorem sc_M_OneOf_words : FnScope ["self", "names", "inner"] ["self", "names"] (defScope s_M_OneOf_words) := ⟨rfl, rfl, rfl, by decide +kernel, rfl, by decide +kernel, by decide +kernel⟩
theorem sc_M_Stock___init__ : FnScope ["self", "rows", "number", "row", "name", "kind"] ["self", "rows"] (defScope s_M_Stock___init__) := ⟨rfl, rfl, rfl, by decide +kernel, rfl, by decide +kernel, by decide +kernel⟩
theorem sc_M_Stock_names : FnScope ["self"] ["self"] (defScope s_M_Stock_names) := ⟨rfl, rfl, rfl, by decide +kernel, rfl, by decide +kernel, by decide +kernel⟩
/-- whole numbers from 0 on, as values -/
noncomputable abbrev nv (k : Nat) : V := .int (k : Int)
noncomputable def sp_P_holds (_K : PySem.W.Frag) : Sp := fun vs H Q _ => ∃ a b : Nat, vs = [.int a, .int b] ∧ Q (.bl (decide (a &&& b = b))) H
noncomputable def sp_P_things_in (_K : PySem.W.Frag) : Sp := fun vs H Q _ => ∃ b : Nat, vs = [.int b] ∧ b < 64 ∧ ∀ l H', Same H H' → H l = none → H' l = some (.lst ((things b).map nv)) → Q (.ref l) H'
noncomputable def sp_P_is_whole (K : PySem.W.Frag) : Sp := fun vs H Q _ => ∃ v n, vs = [v] ∧ KindIs K H v n ∧ Q (.bl (decide (n = Nm.int))) H
noncomputable def sp_P_is_within (K : PySem.W.Frag) : Sp := fun vs H Q _ => ∃ v lo hi, vs = [v, .int lo, .int hi] ∧ ((∃ n, KindIs K H v n ∧ n ≠ .int ∧ Q (.bl false) H) ∨ (∃ i, v = .int i ∧ Q (.bl (decide (lo ≤ i) && decide (i ≤ hi))) H))
noncomputable def sp_P_check_bundle (_K : PySem.W.Frag) : Sp := fun vs H Q _ => ∃ i : Int, vs = [.int i] ∧ 1 ≤ i ∧ i ≤ 63 ∧ Q .non H
noncomputable def sp_P_check_so_many (_K : PySem.W.Frag) : Sp := fun vs H Q _ => ∃ i : Int, vs = [.int i] ∧ 1 ≤ i ∧ i ≤ 6 ∧ Q .non H
noncomputable def sp_P_check_amount (_K : PySem.W.Frag) : Sp := fun vs H Q _ => ∃ i : Int, vs = [.int i] ∧ 0 ≤ i ∧ i ≤ 10 ^ 9 ∧ Q .non H
theorem pow6 {n : Nat} (h : n ≤ 6) : 2 ^ n ≤ 64 ∧ 0 < 2 ^ n := ⟨(Nat.pow_le_pow_right (n := 2) (by decide) h : 2 ^ n ≤ 2 ^ 6), Nat.two_pow_pos _⟩
noncomputable def cellN (ns : List Int) (k : Nat) : Int := if k < ns.length then ns.getD k 0 % 10 ^ 60 else if ns = [] then 7919 * (k : Int) + 5 else (ns.getD (k % ns.length) 0 % 1000003 + 613 * (k : Int)) * (48271 + 2 * (k : Int)) % 2147483647
theorem cellN_nonneg (ns : List Int) (k : Nat) : 0 ≤ cellN ns k := by
  unfold cellN
  split
  · exact Int.emod_nonneg _ (by decide)
  · split
    · omega
    · exact Int.emod_nonneg _ (by decide)
noncomputable def sp_L_cell (K : PySem.W.Frag) : Sp := fun vs H Q _ => ∃ (a : Addr) (ns : List Int) (k : Nat), vs = [.ref a, .int k] ∧ SqL K H a (ns.map V.int) ∧ k ≤ 1000 ∧ ∀ H', Same H H' → Q (.int (cellN ns k)) H'
noncomputable def amountBy (c : Int) : Int := if c % 6 = 0 then 0 else if c % 6 = 1 then 10 ^ 9 else if c % 6 < 4 then 1 + c / 6 % 12 else c / 6 % (10 ^ 9 + 1)
theorem amountBy_nonneg (c : Int) : 0 ≤ amountBy c := by
  unfold amountBy
  split
  · omega
  · split
    · decide
    · split
      · omega
      · exact Int.emod_nonneg _ (by decide)
theorem amountBy_le (c : Int) : amountBy c ≤ 10 ^ 9 := by
  unfold amountBy
  split
  · decide
  · split
    · exact Int.le_refl _
    · split
      · omega
      · have := Int.emod_lt_of_pos (c / 6) (show (0 : Int) < 10 ^ 9 + 1 by decide)
        omega
noncomputable def sp_L_amount (_K : PySem.W.Frag) : Sp := fun vs H Q _ => ∃ c, vs = [.int c] ∧ Q (.int (amountBy c)) H
theorem put1 (f : Str) (y : V) : (putF f y []).length < 1000 := by
  have h := length_putF f y []
  rw [List.length_nil] at h; omega
theorem put2 (f g : Str) (y z : V) : (putF g z (putF f y [])).length < 1000 := by
  have h := length_putF f y []
  have h2 := length_putF g z (putF f y [])
  rw [List.length_nil] at h; omega
noncomputable abbrev fsOnly (b : Nat) (m : Int) : List (Str × V) := [("bundle", nv b), ("amount", .int m)]
noncomputable abbrev fsSome (k l : Nat) (m : Int) : List (Str × V) := [("kind", nv k), ("least", nv l), ("amount", .int m)]
noncomputable abbrev fsMost (k c : Nat) (m : Int) : List (Str × V) := [("kind", nv k), ("most", nv c), ("each", .int m)]
theorem mem_at {nos : List Str} {f : Str} (i : Nat) (h : nos[i]? = some f) : f ∈ nos := List.mem_of_getElem? h
noncomputable def sp_M_Only___init__ (_K : PySem.W.Frag) (c : Addr) : Sp := fun vs H Q _ => ∃ (a dx : Addr) (b : Nat) (m : Int), vs = [.ref a, nv b, .int m] ∧ 1 ≤ b ∧ b ≤ 63 ∧ AmtOk m ∧ H a = some (.ins c dx []) ∧ Q .non (upd H a (.ins c dx (fsOnly b m)))
noncomputable def sp_M_SoMany___init__ (_K : PySem.W.Frag) (c : Addr) : Sp := fun vs H Q _ => ∃ (a dx : Addr) (k l : Nat) (m : Int), vs = [.ref a, nv k, nv l, .int m] ∧ 1 ≤ k ∧ k ≤ 63 ∧ 1 ≤ l ∧ l ≤ 6 ∧ AmtOk m ∧ H a = some (.ins c dx []) ∧ Q .non (upd H a (.ins c dx (fsSome k l m)))
noncomputable def sp_M_UpTo___init__ (_K : PySem.W.Frag) (c : Addr) : Sp := fun vs H Q _ => ∃ (a dx : Addr) (k l : Nat) (m : Int), vs = [.ref a, nv k, nv l, .int m] ∧ 1 ≤ k ∧ k ≤ 63 ∧ 1 ≤ l ∧ l ≤ 6 ∧ AmtOk m ∧ H a = some (.ins c dx []) ∧ Q .non (upd H a (.ins c dx (fsMost k l m)))
/-- the bid at a -/
noncomputable def IsBid (c_Bid c_Only c_SoMany c_UpTo : Addr) (H : Hp) (a : Addr) : Form → Prop
  | .none => ∃ dx, H a = some (.ins c_Bid dx [])
  | .only b m => ∃ dx, H a = some (.ins c_Only dx (fsOnly b m))
  | .some k l m => ∃ dx, H a = some (.ins c_SoMany dx (fsSome k l m))
  | .most k c m => ∃ dx, H a = some (.ins c_UpTo dx (fsMost k c m))
noncomputable def word : Form → Str
  | .none => "none"
  | .only _ _ => "only"
  | .some _ _ _ => "some"
  | .most _ _ _ => "most"
noncomputable def Fits : Form → Nat → Nat → Int → Prop
  | .none, _, _, _ => True
  | .only b m, k, _, z => b = k ∧ m = z
  | .some b c m, k, l, z => b = k ∧ c = l ∧ m = z
  | .most b c m, k, l, z => b = k ∧ c = l ∧ m = z
/-- the tuple at p tells the form -/
noncomputable def FormAt (H : Hp) (p : Addr) (f : Form) : Prop := ∃ (k l : Nat) (z : Int), H p = some (.tup [.str (word f), nv k, nv l, .int z]) ∧ k ≤ 63 ∧ Fits f k l z
noncomputable abbrev fsSev (l : Addr) : List (Str × V) := [("bids", .ref l)]
noncomputable def wordN (any : Bool) : Str := if any = true then "any" else "one"
/-- the bid of the tree at a; the lists in it as A tells -/
noncomputable def IsTr (c_Bid c_Only c_SoMany c_UpTo c_AnyOf c_OneOf : Addr) (A : Addr → Prop) (H : Hp) : Nat → Addr → Tr → Prop
  | 0, _, _ => False
  | _ + 1, a, .leaf f => FormOk f ∧ IsBid c_Bid c_Only c_SoMany c_UpTo H a f
  | d + 1, a, .node any ts => ∃ (dx l : Addr) (bs : List Addr), H a = some (.ins (if any = true then c_AnyOf else c_OneOf) dx (fsSev l)) ∧ A l ∧ H l = some (.lst (bs.map V.ref)) ∧ All2 (IsTr c_Bid c_Only c_SoMany c_UpTo c_AnyOf c_OneOf A H d) bs ts
/-- the tuple of the tree at p -/
noncomputable def FT (A : Addr → Prop) (H : Hp) : Nat → Addr → Tr → Prop
  | 0, _, _ => False
  | _ + 1, p, .leaf f => FormOk f ∧ FormAt H p f
  | d + 1, p, .node any ts => ∃ (l : Addr) (ps : List Addr), H p = some (.tup [.str (wordN any), .ref l]) ∧ A l ∧ H l = some (.lst (ps.map V.ref)) ∧ All2 (FT A H d) ps ts
section
variable {c1 c2 c3 c4 c5 c6 : Addr} {A B : Addr → Prop} {H H' : Hp}
theorem IsTr.move (hI : ∀ a C dx fs, H a = some (.ins C dx fs) → H' a = some (.ins C dx fs)) (hL : ∀ l zs, A l → H l = some (.lst zs) → B l ∧ H' l = some (.lst zs)) :
    ∀ (d : Nat) {a : Addr} {t : Tr}, IsTr c1 c2 c3 c4 c5 c6 A H d a t → IsTr c1 c2 c3 c4 c5 c6 B H' d a t
  | 0, _, _, h => h
  | _ + 1, a, .leaf f, h => ⟨h.1, by cases f <;> obtain ⟨dx, e⟩ := h.2 <;> exact ⟨dx, hI _ _ _ _ e⟩⟩
  | d + 1, a, .node any ts, h => by
    obtain ⟨dx, l, bs, e1, e2, e3, e4⟩ := h
    exact ⟨dx, l, bs, hI _ _ _ _ e1, (hL l _ e2 e3).1, (hL l _ e2 e3).2, e4.imp fun x y _ z => IsTr.move hI hL d z⟩
theorem IsTr.same {d : Nat} {a : Addr} {t : Tr} (S : Same H H') (h : IsTr c1 c2 c3 c4 c5 c6 A H d a t) : IsTr c1 c2 c3 c4 c5 c6 A H' d a t := IsTr.move (fun a C dx fs e => S _ _ e) (fun l zs hA e => ⟨hA, S _ _ e⟩) d h
theorem IsTr.put {d : Nat} {a m : Addr} {t : Tr} {zs : List V} {o : HO} (h : IsTr c1 c2 c3 c4 c5 c6 A H d a t) (hm : H m = some (.lst zs)) (hA : ¬ A m) : IsTr c1 c2 c3 c4 c5 c6 A (upd H m o) d a t :=
  IsTr.move (fun a C dx fs e => by rw [upd_ne (fun q => by rw [q, hm] at e; cases e)]; exact e) (fun l zs hl e => ⟨hl, by rw [upd_ne (fun q => by subst q; exact hA hl)]; exact e⟩) d h
theorem IsTr.imp {d : Nat} {a : Addr} {t : Tr} (h : IsTr c1 c2 c3 c4 c5 c6 A H d a t) (f : ∀ l zs, A l → H l = some (.lst zs) → B l) : IsTr c1 c2 c3 c4 c5 c6 B H d a t := IsTr.move (fun a C dx fs e => e) (fun l zs hA e => ⟨f l zs hA e, e⟩) d h
theorem IsTr.to : ∀ (d e : Nat) {a : Addr} {t : Tr}, IsTr c1 c2 c3 c4 c5 c6 A H d a t → depthT t ≤ e → IsTr c1 c2 c3 c4 c5 c6 A H e a t
  | 0, _, _, _, h, _ => h.elim
  | d + 1, 0, a, t, h, le => by have := depth_pos t; omega
  | d + 1, e + 1, a, .leaf f, h, le => h
  | d + 1, e + 1, a, .node any ts, h, le => by
    obtain ⟨dx, l, bs, e1, e2, e3, e4⟩ := h
    have le' : 1 + depthL ts ≤ e + 1 := le
    exact ⟨dx, l, bs, e1, e2, e3, e4.imp fun x y hy z => IsTr.to d e z (by have := depth_mem hy; omega)⟩
theorem FT.move (hI : ∀ a xs, H a = some (.tup xs) → H' a = some (.tup xs)) (hL : ∀ l zs, A l → H l = some (.lst zs) → B l ∧ H' l = some (.lst zs)) :
    ∀ (d : Nat) {a : Addr} {t : Tr}, FT A H d a t → FT B H' d a t
  | 0, _, _, h => h
  | _ + 1, a, .leaf f, h => ⟨h.1, by obtain ⟨k, l, z, e, r⟩ := h.2; exact ⟨k, l, z, hI _ _ e, r⟩⟩
  | d + 1, a, .node any ts, h => by
    obtain ⟨l, bs, e1, e2, e3, e4⟩ := h
    exact ⟨l, bs, hI _ _ e1, (hL l _ e2 e3).1, (hL l _ e2 e3).2, e4.imp fun x y _ z => FT.move hI hL d z⟩
theorem FT.same {d : Nat} {a : Addr} {t : Tr} (S : Same H H') (h : FT A H d a t) : FT A H' d a t := FT.move (fun a xs e => S _ _ e) (fun l zs hA e => ⟨hA, S _ _ e⟩) d h
theorem FT.put {d : Nat} {a m : Addr} {t : Tr} {zs : List V} {o : HO} (h : FT A H d a t) (hm : H m = some (.lst zs)) (hA : ¬ A m) : FT A (upd H m o) d a t :=
  FT.move (fun a xs e => by rw [upd_ne (fun q => by rw [q, hm] at e; cases e)]; exact e) (fun l zs hl e => ⟨hl, by rw [upd_ne (fun q => by subst q; exact hA hl)]; exact e⟩) d h
theorem FT.imp {d : Nat} {a : Addr} {t : Tr} (h : FT A H d a t) (f : ∀ l zs, A l → H l = some (.lst zs) → B l) : FT B H d a t := FT.move (fun a xs e => e) (fun l zs hA e => ⟨f l zs hA e, e⟩) d h
theorem FT.to : ∀ (d e : Nat) {a : Addr} {t : Tr}, FT A H d a t → depthT t ≤ e → FT A H e a t
  | 0, _, _, _, h, _ => h.elim
  | d + 1, 0, a, t, h, le => by have := depth_pos t; omega
  | d + 1, e + 1, a, .leaf f, h, le => h
  | d + 1, e + 1, a, .node any ts, h, le => by
    obtain ⟨l, bs, e1, e2, e3, e4⟩ := h
    have le' : 1 + depthL ts ≤ e + 1 := le
    exact ⟨l, bs, e1, e2, e3, e4.imp fun x y hy z => FT.to d e z (by have := depth_mem hy; omega)⟩
end
noncomputable def sp1 : Sp := fun vs H Q _ => ∃ a : Addr, vs = [.ref a] ∧ Q (.int 1) H
noncomputable def spSev (val : Tr → Nat) (c_Bid c_Only c_SoMany c_UpTo c_Several c_AnyOf c_OneOf c_Stock : Addr) (d : Nat) : Sp := fun vs H Q _ => ∃ (a : Addr) (any : Bool) (ts : List Tr) (A : Addr → Prop), vs = [.ref a] ∧ IsTr c_Bid c_Only c_SoMany c_UpTo c_AnyOf c_OneOf A H d a (.node any ts) ∧ tallyL ts ≤ 100 ∧ ∀ H', Same H H' → Q (nv (val (.node any ts))) H'
noncomputable def spOver (val : List Tr → Nat) (c_Bid c_Only c_SoMany c_UpTo c_Several c_AnyOf c_OneOf c_Stock : Addr) (d : Nat) : Sp := fun vs H Q _ => ∃ (l : Addr) (bs : List Addr) (ts : List Tr) (A : Addr → Prop), vs = [.ref l] ∧ H l = some (.lst (bs.map V.ref)) ∧ All2 (IsTr c_Bid c_Only c_SoMany c_UpTo c_AnyOf c_OneOf A H d) bs ts ∧ tallyL ts ≤ 100 ∧ ∀ H', Same H H' → Q (nv (1 + val ts)) H'
noncomputable def T1 (val : Tr → Nat) (c_Bid c_Only c_SoMany c_UpTo c_Several c_AnyOf c_OneOf c_Stock : Addr) (d : Nat) : Addr → Sp → Prop := fun C sp => ((C = c_Bid ∨ C = c_Only ∨ C = c_SoMany ∨ C = c_UpTo) ∧ sp = sp1) ∨ ((C = c_AnyOf ∨ C = c_OneOf) ∧ sp = spSev val c_Bid c_Only c_SoMany c_UpTo c_Several c_AnyOf c_OneOf c_Stock d)
noncomputable def sp_M_Bid_depth (_K : PySem.W.Frag) (_c : Addr) : Sp := sp1
noncomputable def sp_M_Bid_tally (_K : PySem.W.Frag) (_c : Addr) : Sp := sp1
noncomputable def sp_P_depth_over (_K : PySem.W.Frag) (c_Bid c_Only c_SoMany c_UpTo c_Several c_AnyOf c_OneOf c_Stock : Addr) : Sp := spOver depthL c_Bid c_Only c_SoMany c_UpTo c_Several c_AnyOf c_OneOf c_Stock 4
noncomputable def sp_P_tally_over (_K : PySem.W.Frag) (c_Bid c_Only c_SoMany c_UpTo c_Several c_AnyOf c_OneOf c_Stock : Addr) : Sp := spOver tallyL c_Bid c_Only c_SoMany c_UpTo c_Several c_AnyOf c_OneOf c_Stock 4
noncomputable def sp_P_check_bids (_K : PySem.W.Frag) (c_Bid c_Only c_SoMany c_UpTo c_Several c_AnyOf c_OneOf c_Stock : Addr) : Sp := fun vs H Q _ => ∃ (l : Addr) (bs : List Addr) (ts : List Tr) (A : Addr → Prop) (d : Nat), vs = [.ref l] ∧ H l = some (.lst (bs.map V.ref)) ∧ All2 (IsTr c_Bid c_Only c_SoMany c_UpTo c_AnyOf c_OneOf A H d) bs ts ∧ depthL ts ≤ 3 ∧ tallyL ts ≤ 23 ∧ ∀ H', Same H H' → Q .non H'
noncomputable def sp_M_Several___init__ (_K : PySem.W.Frag) (c c_Bid c_Only c_SoMany c_UpTo c_Several c_AnyOf c_OneOf c_Stock : Addr) : Sp := fun vs H Q _ => ∃ (a dx l : Addr) (bs : List Addr) (ts : List Tr) (A : Addr → Prop) (d : Nat), vs = [.ref a, .ref l] ∧ H a = some (.ins c dx []) ∧ (c = c_AnyOf ∨ c = c_OneOf) ∧ H l = some (.lst (bs.map V.ref)) ∧ All2 (IsTr c_Bid c_Only c_SoMany c_UpTo c_AnyOf c_OneOf A H d) bs ts ∧ depthL ts ≤ 3 ∧ tallyL ts ≤ 23 ∧ ∀ H1 lb, Same H H1 → H1 lb = none → Q .non (upd (upd H1 lb (.lst (bs.map V.ref))) a (.ins c dx (fsSev lb)))
noncomputable def spMade (c_Bid c_Only c_SoMany c_UpTo c_Several c_AnyOf c_OneOf c_Stock : Addr) (d : Nat) : Sp := fun vs H Q _ => ∃ (p : Addr) (t : Tr) (A : Addr → Prop), vs = [.ref p] ∧ FT A H d p t ∧ depthT t ≤ 4 ∧ tallyT t ≤ 24 ∧ ∀ a H', Same H H' → IsTr c_Bid c_Only c_SoMany c_UpTo c_AnyOf c_OneOf (fun l => H l = none) H' d a t → Q (.ref a) H'
noncomputable def sp_L_made (_K : PySem.W.Frag) (c_Bid c_Only c_SoMany c_UpTo c_Several c_AnyOf c_OneOf c_Stock : Addr) : Sp := spMade c_Bid c_Only c_SoMany c_UpTo c_Several c_AnyOf c_OneOf c_Stock 4
noncomputable def sp_L_grouped (_K : PySem.W.Frag) : Sp := fun vs H Q _ => ∃ (l : Addr) (ps : List Addr) (ts : List Tr) (A : Addr → Prop) (d : Nat) (c : Int), vs = [.ref l, .int c] ∧ H l = some (.lst (ps.map V.ref)) ∧ All2 (FT A H d) ps ts ∧ ts.length ≤ 100 ∧ ∀ l2 H' qs us, Same H H' → H' l2 = some (.lst (qs.map V.ref)) → All2 (FT (fun _ => True) H' (d + 1)) qs us → depthL us ≤ depthL ts + 1 → us.length ≤ ts.length → tallyL us ≤ tallyL ts + ts.length → (∃ x, spokenL us ||| x = spokenL ts) → Q (.ref l2) H'
section
variable {P : Program} {w : World} {K : PySem.W.Frag} {mg : Str → Option Value} {base : Heap}
variable {c_Bid c_Only c_SoMany c_UpTo c_Several c_AnyOf c_OneOf c_Stock : Addr}
theorem ok_P_holds {f : Addr} {fd : FuncData} (F : Fun K "holds" "holds" s_P_holds f fd) (m_self : mg "holds" = some (.ref f)) : DefOk P w K mg base 1 "holds" ["one", "other"] [] (sp_P_holds K) := by
  refine F.def_okQ m_self (bnd2 F fun _ _ _ _ _ _ _ _ => rfl) sc_P_holds (fun vs H Q E h => ?_) (fun cdv A outer s H vs Q E hr h => ?_)
  · obtain ⟨a, b, rfl, _⟩ := h; rfl
  obtain ⟨a, b, rfl, q⟩ := h
  refine ⟨_, (R.pss_one (R.ps_ret (R.pe_cmpR op_eq (R.pe_op op_andN (R.pv 0) (R.pv 1)) (R.pv 1) (nomark _)))), ?_⟩
  refine ⟨_, rfl, _, rfl, a, b, rfl, rfl, _, rfl, rfl, ?_⟩
  rw [int_eq_nat]; exact q
theorem ok_P_things_in {f : Addr} {fd : FuncData} (F : Fun K "things_in" "things_in" s_P_things_in f fd) (m_self : mg "things_in" = some (.ref f)) (m_range : mg "range" = none)
    (D_P_holds : DefOk P w K mg base 1 "holds" ["one", "other"] [] (sp_P_holds K)) : DefOk P w K mg base 2 "things_in" ["bundle"] [] (sp_P_things_in K) := by
  refine F.def_okQ m_self (bnd1 F fun _ _ _ _ _ _ _ => rfl) sc_P_things_in (fun vs H Q E h => ?_) (fun cdv A outer s H vs Q E hr h => ?_)
  · obtain ⟨b, rfl, _⟩ := h; rfl
  obtain ⟨b, rfl, hb, q⟩ := h
  refine ⟨_, (R.pss_one (R.ps_ret (R.pe_comp (defScope s_P_things_in) ["bundle"] ["number"] ["bundle"] [0] rfl rfl rfl ⟨s.heap.objs.size + 1, rfl⟩ rfl rfl (by decide +kernel) (R.pi_range1 rfl m_range (R.pa_c (R.pe_bits (R.pv 0)) R.pa_nil)) (fun C s2 H2 fp => (R.pg_name (i := 0) (show List.Nodup (["number", "bundle"] : List Str) from by decide +kernel) rfl (Or.inl rfl))) (fun C s2 H2 fp => (R.pf_one (R.pt_val (R.pe_callD D_P_holds hr (by first | decide | omega) rfl (R.pa_c (R.pv 1) (R.pa_c (R.pe_op op_shlN R.pe_int (R.pv 0)) R.pa_nil)))))) (fun C s2 H2 fp => (R.pv 0))))), ?_⟩
  have b6 := bits64 hb
  refine ⟨_, rfl, _, rfl, _, rfl, by omega, by omega, fun l hl => ?_⟩
  rw [Int.toNat_natCast]
  refine comp_rng_map (fun k => decide (b &&& 2 ^ k = 2 ^ k)) nv (by omega) hl ?_ ?_ ?_
  · intro k H1 hk s1 C hC
    rw [Int.zero_add]
    exact ⟨_, rfl, _, rfl, k, rfl, rfl, by omega, b, 2 ^ k, rfl, _, rfl, hC _ (Same.refl _)⟩
  · intro k H1 hk _ s1 C hC
    rw [Int.zero_add]
    exact ⟨_, rfl, hC _ (Same.refl _)⟩
  · intro H1 s1 e1
    rw [bits_nat, things_comp b hb] at e1
    exact q l H1 s1 hl e1
theorem whole_key : ∀ n : Nm, (isN n .int = true → (!isN n .bl) = decide (n = .int)) ∧ (¬ isN n .int = true → false = decide (n = .int)) := by intro n; cases n <;> decide
theorem ok_P_is_whole {f : Addr} {fd : FuncData} (F : Fun K "is_whole" "is_whole" s_P_is_whole f fd) (m_self : mg "is_whole" = some (.ref f)) (m_isinstance : mg "isinstance" = none) (m_int : mg "int" = none) (m_bool : mg "bool" = none) : DefOk P w K mg base 1 "is_whole" ["thing"] [] (sp_P_is_whole K) := by
  refine F.def_okQ m_self (bnd1 F fun _ _ _ _ _ _ _ => rfl) sc_P_is_whole (fun vs H Q E h => ?_) (fun cdv A outer s H vs Q E hr h => ?_)
  · obtain ⟨v, n, rfl, _⟩ := h; rfl
  obtain ⟨v, n, rfl, hk, q⟩ := h
  refine ⟨_, (R.pss_one (R.ps_ret (R.pe_and (R.pe_isi .int rfl m_isinstance rfl m_int (R.pv 0)) (R.pe_one (R.pe_not (R.pe_isi .bl rfl m_isinstance rfl m_bool (R.pv 0))))))), ?_⟩
  refine ⟨_, rfl, v, n, rfl, hk, _, rfl, ?_⟩
  refine ite2 (fun c => ?_) (fun c => ?_)
  · refine ⟨_, rfl, v, n, rfl, hk, _, rfl, ?_⟩
    rw [(whole_key n).1 c]; exact q
  · show Q (.bl false) H
    rw [(whole_key n).2 c]; exact q
theorem ok_P_is_within {f : Addr} {fd : FuncData} (F : Fun K "is_within" "is_within" s_P_is_within f fd) (m_self : mg "is_within" = some (.ref f))
    (D_P_is_whole : DefOk P w K mg base 1 "is_whole" ["thing"] [] (sp_P_is_whole K)) : DefOk P w K mg base 2 "is_within" ["thing", "least", "most"] [] (sp_P_is_within K) := by
  refine F.def_okQ m_self (bnd3 F fun _ _ _ _ _ _ _ _ _ => rfl) sc_P_is_within (fun vs H Q E h => ?_) (fun cdv A outer s H vs Q E hr h => ?_)
  · obtain ⟨v, lo, hi, rfl, _⟩ := h; rfl
  obtain ⟨v, lo, hi, rfl, h⟩ := h
  refine ⟨_, (R.pss_one (R.ps_ret (R.pe_and (R.pe_callD D_P_is_whole hr (by first | decide | omega) rfl (R.pa_c (R.pv 0) R.pa_nil)) (R.pe_one (R.pe_chain op_le op_le (R.pv 1) (R.pv 0) (R.pv 2)))))), ?_⟩
  rcases h with ⟨n, hk, hn, q⟩ | ⟨i, rfl, q⟩
  · refine ⟨_, rfl, v, n, rfl, hk, _, rfl, ?_⟩
    rw [decide_eq_false hn]
    exact iteF q
  · refine ⟨_, rfl, _, .int, rfl, TyOf.int _, _, rfl, iteT ?_⟩
    refine ⟨_, rfl, _, rfl, _, _, rfl, rfl, _, rfl, ?_⟩
    refine ite2 (fun c => ?_) (fun c => ?_)
    · refine ⟨_, rfl, _, _, rfl, rfl, ?_⟩
      rw [c, Bool.true_and] at q; exact q
    · rw [Bool.eq_false_iff.mpr c, Bool.false_and] at q; exact q
theorem within {lo i hi : Int} (h1 : lo ≤ i) (h2 : i ≤ hi) : (decide (lo ≤ i) && decide (i ≤ hi)) = true := by rw [decide_eq_true h1, decide_eq_true h2]; rfl
theorem ok_P_check_bundle {f : Addr} {fd : FuncData} (F : Fun K "check_bundle" "check_bundle" s_P_check_bundle f fd) (m_self : mg "check_bundle" = some (.ref f))
    (D_P_is_within : DefOk P w K mg base 2 "is_within" ["thing", "least", "most"] [] (sp_P_is_within K)) : DefOk P w K mg base 3 "check_bundle" ["bundle"] [] (sp_P_check_bundle K) := by
  refine F.def_okQ m_self (bnd1 F fun _ _ _ _ _ _ _ => rfl) sc_P_check_bundle (fun vs H Q E h => ?_) (fun cdv A outer s H vs Q E hr h => ?_)
  · obtain ⟨i, rfl, _⟩ := h; rfl
  obtain ⟨i, rfl, h1, h2, q⟩ := h
  refine ⟨_, (R.pss_one (R.ps_if (R.pt_not (R.pt_val (R.pe_callD D_P_is_within hr (by first | decide | omega) rfl (R.pa_c (R.pv 0) (R.pa_c R.pe_int (R.pa_c R.pe_int R.pa_nil)))))) (R.pss_one R.ps_never) R.pss_nil)), ?_⟩
  refine ⟨_, rfl, _, 1, 63, rfl, .inr ⟨_, rfl, _, rfl, ?_⟩⟩
  rw [within h1 h2]
  exact iteF q
theorem ok_P_check_so_many {f : Addr} {fd : FuncData} (F : Fun K "check_so_many" "check_so_many" s_P_check_so_many f fd) (m_self : mg "check_so_many" = some (.ref f))
    (D_P_is_within : DefOk P w K mg base 2 "is_within" ["thing", "least", "most"] [] (sp_P_is_within K)) : DefOk P w K mg base 3 "check_so_many" ["number"] [] (sp_P_check_so_many K) := by
  refine F.def_okQ m_self (bnd1 F fun _ _ _ _ _ _ _ => rfl) sc_P_check_so_many (fun vs H Q E h => ?_) (fun cdv A outer s H vs Q E hr h => ?_)
  · obtain ⟨i, rfl, _⟩ := h; rfl
  obtain ⟨i, rfl, h1, h2, q⟩ := h
  refine ⟨_, (R.pss_one (R.ps_if (R.pt_not (R.pt_val (R.pe_callD D_P_is_within hr (by first | decide | omega) rfl (R.pa_c (R.pv 0) (R.pa_c R.pe_int (R.pa_c R.pe_int R.pa_nil)))))) (R.pss_one R.ps_never) R.pss_nil)), ?_⟩
  refine ⟨_, rfl, _, 1, 6, rfl, .inr ⟨_, rfl, _, rfl, ?_⟩⟩
  rw [within h1 h2]
  exact iteF q
theorem ok_P_check_amount {f : Addr} {fd : FuncData} (F : Fun K "check_amount" "check_amount" s_P_check_amount f fd) (m_self : mg "check_amount" = some (.ref f))
    (D_P_is_within : DefOk P w K mg base 2 "is_within" ["thing", "least", "most"] [] (sp_P_is_within K)) : DefOk P w K mg base 3 "check_amount" ["amount"] [] (sp_P_check_amount K) := by
  refine F.def_okQ m_self (bnd1 F fun _ _ _ _ _ _ _ => rfl) sc_P_check_amount (fun vs H Q E h => ?_) (fun cdv A outer s H vs Q E hr h => ?_)
  · obtain ⟨i, rfl, _⟩ := h; rfl
  obtain ⟨i, rfl, h1, h2, q⟩ := h
  refine ⟨_, (R.pss_one (R.ps_if (R.pt_not (R.pt_val (R.pe_callD D_P_is_within hr (by first | decide | omega) rfl (R.pa_c (R.pv 0) (R.pa_c R.pe_int (R.pa_c (R.pe_op op_pow R.pe_int R.pe_int) R.pa_nil)))))) (R.pss_one R.ps_never) R.pss_nil)), ?_⟩
  refine ⟨_, rfl, _, _, rfl, rfl, ⟨by decide, by decide, by decide⟩, _, 0, 10 ^ 9, rfl, .inr ⟨_, rfl, _, rfl, ?_⟩⟩
  rw [within h1 h2]
  exact iteF q
theorem ok_M_Only___init__ {f : Addr} {fd : FuncData} (F : Fun K "__init__" "Only.__init__" s_M_Only___init__ f fd)
    (D_P_check_bundle : DefOk P w K mg base 3 "check_bundle" ["bundle"] [] (sp_P_check_bundle K))
    (D_P_check_amount : DefOk P w K mg base 3 "check_amount" ["amount"] [] (sp_P_check_amount K))
    (O_Bid : Own K mg "Bid" c_Bid [])
    (O_Only : Own K mg "Only" c_Only ["bundle", "amount"])
    (O_SoMany : Own K mg "SoMany" c_SoMany ["kind", "least", "amount"])
    (O_UpTo : Own K mg "UpTo" c_UpTo ["kind", "most", "each"])
    (O_Several : Own K mg "Several" c_Several ["bids"])
    (O_AnyOf : Own K mg "AnyOf" c_AnyOf ["bids"])
    (O_OneOf : Own K mg "OneOf" c_OneOf ["bids"])
    (O_Stock : Own K mg "Stock" c_Stock ["numbers", "kinds"]) : FnOk P w K mg base CX0 4 f fd ["self", "bundle", "amount"] (sp_M_Only___init__ K c_Only) := by
  refine F.okQ sc_M_Only___init__ (fun vs H Q E h => ?_) (fun cdv A outer s H vs Q E hr h => ?_)
  · obtain ⟨a, dx, b, m, rfl, _⟩ := h; rfl
  obtain ⟨a, dx, b, m, rfl, b1, b2, hm, e, q⟩ := h
  refine ⟨_, (R.pss_cons (R.ps_expr (R.pe_callD D_P_check_bundle hr (by first | decide | omega) rfl (R.pa_c (R.pv 1) R.pa_nil)))
    (R.pss_cons (R.ps_expr (R.pe_callD D_P_check_amount hr (by first | decide | omega) rfl (R.pa_c (R.pv 2) R.pa_nil)))
    (R.pss_cons (R.ps_fld (R.pv 0) (R.pv 1))
    (R.pss_one (R.ps_fld (R.pv 0) (R.pv 2)))))), ?_⟩
  refine ⟨_, rfl, (b : Int), rfl, by omega, by omega, ?_⟩
  refine ⟨_, rfl, m, rfl, hm.lo, hm.hi, ?_⟩
  refine ⟨_, rfl, _, rfl, a, c_Only, dx, [], rfl, e, O_Only.cls, O_Only.no _ (mem_at 0 rfl), by decide, ?_⟩
  refine ⟨_, rfl, _, rfl, a, c_Only, dx, _, rfl, upd_same, O_Only.cls, O_Only.no _ (mem_at 1 rfl), put1 _ _, ?_⟩
  rw [upd_upd]
  exact q
theorem ok_M_SoMany___init__ {f : Addr} {fd : FuncData} (F : Fun K "__init__" "SoMany.__init__" s_M_SoMany___init__ f fd)
    (D_P_check_bundle : DefOk P w K mg base 3 "check_bundle" ["bundle"] [] (sp_P_check_bundle K))
    (D_P_check_so_many : DefOk P w K mg base 3 "check_so_many" ["number"] [] (sp_P_check_so_many K))
    (D_P_check_amount : DefOk P w K mg base 3 "check_amount" ["amount"] [] (sp_P_check_amount K))
    (O_Bid : Own K mg "Bid" c_Bid [])
    (O_Only : Own K mg "Only" c_Only ["bundle", "amount"])
    (O_SoMany : Own K mg "SoMany" c_SoMany ["kind", "least", "amount"])
    (O_UpTo : Own K mg "UpTo" c_UpTo ["kind", "most", "each"])
    (O_Several : Own K mg "Several" c_Several ["bids"])
    (O_AnyOf : Own K mg "AnyOf" c_AnyOf ["bids"])
    (O_OneOf : Own K mg "OneOf" c_OneOf ["bids"])
    (O_Stock : Own K mg "Stock" c_Stock ["numbers", "kinds"]) : FnOk P w K mg base CX0 4 f fd ["self", "kind", "least", "amount"] (sp_M_SoMany___init__ K c_SoMany) := by
  refine F.okQ sc_M_SoMany___init__ (fun vs H Q E h => ?_) (fun cdv A outer s H vs Q E hr h => ?_)
  · obtain ⟨a, dx, k, l, m, rfl, _⟩ := h; rfl
  obtain ⟨a, dx, k, l, m, rfl, k1, k2, l1, l2, hm, e, q⟩ := h
  refine ⟨_, (R.pss_cons (R.ps_expr (R.pe_callD D_P_check_bundle hr (by first | decide | omega) rfl (R.pa_c (R.pv 1) R.pa_nil)))
    (R.pss_cons (R.ps_expr (R.pe_callD D_P_check_so_many hr (by first | decide | omega) rfl (R.pa_c (R.pv 2) R.pa_nil)))
    (R.pss_cons (R.ps_expr (R.pe_callD D_P_check_amount hr (by first | decide | omega) rfl (R.pa_c (R.pv 3) R.pa_nil)))
    (R.pss_cons (R.ps_fld (R.pv 0) (R.pv 1))
    (R.pss_cons (R.ps_fld (R.pv 0) (R.pv 2))
    (R.pss_one (R.ps_fld (R.pv 0) (R.pv 3)))))))), ?_⟩
  refine ⟨_, rfl, (k : Int), rfl, by omega, by omega, ?_⟩
  refine ⟨_, rfl, (l : Int), rfl, by omega, by omega, ?_⟩
  refine ⟨_, rfl, m, rfl, hm.lo, hm.hi, ?_⟩
  refine ⟨_, rfl, _, rfl, a, c_SoMany, dx, [], rfl, e, O_SoMany.cls, O_SoMany.no _ (mem_at 0 rfl), by decide, ?_⟩
  refine ⟨_, rfl, _, rfl, a, c_SoMany, dx, _, rfl, upd_same, O_SoMany.cls, O_SoMany.no _ (mem_at 1 rfl), put1 _ _, ?_⟩
  refine ⟨_, rfl, _, rfl, a, c_SoMany, dx, _, rfl, upd_same, O_SoMany.cls, O_SoMany.no _ (mem_at 2 rfl), put2 _ _ _ _, ?_⟩
  rw [upd_upd, upd_upd]
  exact q
theorem ok_M_UpTo___init__ {f : Addr} {fd : FuncData} (F : Fun K "__init__" "UpTo.__init__" s_M_UpTo___init__ f fd)
    (D_P_check_bundle : DefOk P w K mg base 3 "check_bundle" ["bundle"] [] (sp_P_check_bundle K))
    (D_P_check_so_many : DefOk P w K mg base 3 "check_so_many" ["number"] [] (sp_P_check_so_many K))
    (D_P_check_amount : DefOk P w K mg base 3 "check_amount" ["amount"] [] (sp_P_check_amount K))
    (O_Bid : Own K mg "Bid" c_Bid [])
    (O_Only : Own K mg "Only" c_Only ["bundle", "amount"])
    (O_SoMany : Own K mg "SoMany" c_SoMany ["kind", "least", "amount"])
    (O_UpTo : Own K mg "UpTo" c_UpTo ["kind", "most", "each"])
    (O_Several : Own K mg "Several" c_Several ["bids"])
    (O_AnyOf : Own K mg "AnyOf" c_AnyOf ["bids"])
    (O_OneOf : Own K mg "OneOf" c_OneOf ["bids"])
    (O_Stock : Own K mg "Stock" c_Stock ["numbers", "kinds"]) : FnOk P w K mg base CX0 4 f fd ["self", "kind", "most", "each"] (sp_M_UpTo___init__ K c_UpTo) := by
  refine F.okQ sc_M_UpTo___init__ (fun vs H Q E h => ?_) (fun cdv A outer s H vs Q E hr h => ?_)
  · obtain ⟨a, dx, k, l, m, rfl, _⟩ := h; rfl
  obtain ⟨a, dx, k, l, m, rfl, k1, k2, l1, l2, hm, e, q⟩ := h
  refine ⟨_, (R.pss_cons (R.ps_expr (R.pe_callD D_P_check_bundle hr (by first | decide | omega) rfl (R.pa_c (R.pv 1) R.pa_nil)))
    (R.pss_cons (R.ps_expr (R.pe_callD D_P_check_so_many hr (by first | decide | omega) rfl (R.pa_c (R.pv 2) R.pa_nil)))
    (R.pss_cons (R.ps_expr (R.pe_callD D_P_check_amount hr (by first | decide | omega) rfl (R.pa_c (R.pv 3) R.pa_nil)))
    (R.pss_cons (R.ps_fld (R.pv 0) (R.pv 1))
    (R.pss_cons (R.ps_fld (R.pv 0) (R.pv 2))
    (R.pss_one (R.ps_fld (R.pv 0) (R.pv 3)))))))), ?_⟩
  refine ⟨_, rfl, (k : Int), rfl, by omega, by omega, ?_⟩
  refine ⟨_, rfl, (l : Int), rfl, by omega, by omega, ?_⟩
  refine ⟨_, rfl, m, rfl, hm.lo, hm.hi, ?_⟩
  refine ⟨_, rfl, _, rfl, a, c_UpTo, dx, [], rfl, e, O_UpTo.cls, O_UpTo.no _ (mem_at 0 rfl), by decide, ?_⟩
  refine ⟨_, rfl, _, rfl, a, c_UpTo, dx, _, rfl, upd_same, O_UpTo.cls, O_UpTo.no _ (mem_at 1 rfl), put1 _ _, ?_⟩
  refine ⟨_, rfl, _, rfl, a, c_UpTo, dx, _, rfl, upd_same, O_UpTo.cls, O_UpTo.no _ (mem_at 2 rfl), put2 _ _ _ _, ?_⟩
  rw [upd_upd, upd_upd]
  exact q
theorem ok_L_cell {f : Addr} {fd : FuncData} (F : Fun K "_law_cell" "_law_cell" s_L_cell f fd) (m_self : mg "_law_cell" = some (.ref f)) (m_len : mg "len" = none) : DefOk P w K mg base 1 "_law_cell" ["_law_script", "_law_k"] [] (sp_L_cell K) := by
  refine F.def_okQ m_self (bnd2 F fun _ _ _ _ _ _ _ _ => rfl) sc_L_cell (fun vs H Q E h => ?_) (fun cdv A outer s H vs Q E hr h => ?_)
  · obtain ⟨a, ns, k, rfl, _⟩ := h; rfl
  obtain ⟨a, ns, k, rfl, hS, hk, q⟩ := h
  have hl : (ns.map V.int).length = ns.length := List.length_map _
  refine ⟨_, (R.pss_cons (R.ps_if (R.pt_cmpR op_lt (R.pv 1) (R.pe_cB call_len_seq rfl m_len PySem.boot_len (R.pa_c (R.pv 0) R.pa_nil)) (nomark _)) (R.pss_one (R.ps_ret (R.pe_op op_mod (R.pe_ix (R.ixL K) (R.pv 0) (R.pv 1) (fun _ _ => rfl)) (R.pe_op op_pow R.pe_int R.pe_int)))) R.pss_nil)
    (R.pss_cons (R.ps_if (R.pt_cmpR (op_eqI hr.units0) (R.pv 0) (R.pe_lst R.pa_nil) (nomark _)) (R.pss_one (R.ps_ret (R.pe_op op_add (R.pe_op op_mulB R.pe_int (R.pv 1)) R.pe_int))) R.pss_nil)
    (R.pss_one (R.ps_ret (R.pe_op op_mod (R.pe_op op_mulB (R.pe_op op_add (R.pe_op op_mod (R.pe_ix (R.ixL K) (R.pv 0) (R.pe_op (opE op_mod) (R.pv 1) (R.pe_cB call_len_seq rfl m_len PySem.boot_len (R.pa_c (R.pv 0) R.pa_nil))) (fun _ _ => rfl)) R.pe_int) (R.pe_op op_mulB R.pe_int (R.pv 1))) (R.pe_op op_add R.pe_int (R.pe_op op_mulB R.pe_int (R.pv 1)))) R.pe_int))))), ?_⟩
  refine ⟨_, rfl, _, rfl, a, _, rfl, .inl hS, _, _, rfl, rfl, _, rfl, ?_⟩
  refine ite2 (fun c => ?_) (fun c => ?_)
  · have c' : (k : Int) < (((ns.map V.int).length : Nat) : Int) := of_decide_eq_true c
    have c2 : k < ns.length := by omega
    have q' : Q (.int (ns.getD k 0 % 10 ^ 60)) H := by
      have z := q H (Same.refl _)
      unfold cellN at z; rw [if_pos c2] at z; exact z
    refine ⟨_, rfl, _, rfl, a, _, _, V.int (ns.getD k 0), rfl, rfl, hS, at_nat (by rw [List.getElem?_map, List.getElem?_eq_getElem c2, List.getD_eq_getElem?_getD, List.getElem?_eq_getElem c2]; rfl), ?_⟩
    refine ⟨_, _, rfl, rfl, ⟨by decide, by decide, by decide⟩, _, _, rfl, rfl, ?_, q'⟩
    show (0 : Int) < 10 ^ 60
    decide
  · have c' : ¬ (k : Int) < (((ns.map V.int).length : Nat) : Int) := of_decide_eq_false (Bool.eq_false_iff.mpr c)
    have c2 : ¬ k < ns.length := by omega
    refine ⟨_, rfl, (by show 0 ≤ sizeLine; decide), fun p hp => ?_⟩
    have s1 := same_new hp (.lst [])
    have hS1 := s1.seq hS
    refine ⟨a, p, ns, [], rfl, rfl, hS1, SqL.of upd_same, _, rfl, ?_⟩
    have q' := q _ s1
    unfold cellN at q'
    rw [if_neg c2] at q'
    by_cases e : ns = []
    · rw [if_pos e] at q'
      show (if (decide (ns = []) : Bool) = true then _ else _)
      rw [decide_eq_true e]
      exact iteT ⟨_, rfl, _, _, rfl, rfl, mulOk_left (by decide), _, _, rfl, rfl, q'⟩
    · rw [if_neg e] at q'
      show (if (decide (ns = []) : Bool) = true then _ else _)
      rw [decide_eq_false e]
      refine iteF ?_
      have hpos : 0 < ns.length := List.length_pos_iff.mpr e
      have hlt : k % ns.length < ns.length := Nat.mod_lt _ hpos
      refine ⟨_, rfl, _, rfl, _, rfl, a, _, rfl, .inl hS1, _, _, nv (k % ns.length), rfl, rfl, (by show (0 : Int) < _; omega), ?_, a, _, _, V.int (ns.getD (k % ns.length) 0), rfl, rfl, hS1, at_nat (by rw [List.getElem?_map, List.getElem?_eq_getElem hlt, List.getD_eq_getElem?_getD, List.getElem?_eq_getElem hlt]; rfl), ?_⟩
      · show V.int ((k : Int) % (((ns.map V.int).length : Nat) : Int)) = V.int ((k % ns.length : Nat) : Int)
        rw [hl]; rfl
      refine ⟨_, _, rfl, rfl, (by show (0 : Int) < 1000003; decide), _, rfl, _, _, rfl, rfl, mulOk_left (by decide), _, _, rfl, rfl, _, rfl, _, _, rfl, rfl, mulOk_left (by decide), _, _, rfl, rfl, _, _, rfl, rfl, mulOk_small (by omega), _, _, rfl, rfl, (by show (0 : Int) < 2147483647; decide), q'⟩
theorem ok_L_amount {f : Addr} {fd : FuncData} (F : Fun K "_law_amount" "_law_amount" s_L_amount f fd) (m_self : mg "_law_amount" = some (.ref f)) : DefOk P w K mg base 1 "_law_amount" ["_law_cell_here"] [] (sp_L_amount K) := by
  refine F.def_okQ m_self (bnd1 F fun _ _ _ _ _ _ _ => rfl) sc_L_amount (fun vs H Q E h => ?_) (fun cdv A outer s H vs Q E hr h => ?_)
  · obtain ⟨c, rfl, _⟩ := h; rfl
  obtain ⟨c, rfl, q⟩ := h
  refine ⟨_, (R.pss_cons (R.ps_set (i := 1) sc_L_amount.nd rfl (Or.inl rfl) (R.pe_op op_mod (R.pv 0) R.pe_int))
    (R.pss_cons (R.ps_if (R.pt_cmpR op_eq (R.pv 1) R.pe_int (nomark _)) (R.pss_one (R.ps_ret R.pe_int)) R.pss_nil)
    (R.pss_cons (R.ps_if (R.pt_cmpR op_eq (R.pv 1) R.pe_int (nomark _)) (R.pss_one (R.ps_ret (R.pe_op op_pow R.pe_int R.pe_int))) R.pss_nil)
    (R.pss_cons (R.ps_if (R.pt_cmpR op_lt (R.pv 1) R.pe_int (nomark _)) (R.pss_one (R.ps_ret (R.pe_op op_add R.pe_int (R.pe_op op_mod (R.pe_op op_fdiv (R.pv 0) R.pe_int) R.pe_int)))) R.pss_nil)
    (R.pss_one (R.ps_ret (R.pe_op op_mod (R.pe_op op_fdiv (R.pv 0) R.pe_int) (R.pe_op op_add (R.pe_op op_pow R.pe_int R.pe_int) R.pe_int)))))))), ?_⟩
  refine ⟨_, rfl, _, _, rfl, rfl, (by show (0 : Int) < 6; decide), ?_⟩
  unfold amountBy at q
  refine ⟨_, rfl, rfl, _, rfl, ?_⟩
  refine ite2 (fun e => ?_) (fun e => ?_)
  · have e' : c % 6 = 0 := V.int.inj (of_decide_eq_true e)
    rw [if_pos e'] at q; exact q
  have e' : ¬ c % 6 = 0 := fun z => e (decide_eq_true (congrArg V.int z))
  rw [if_neg e'] at q
  refine ⟨_, rfl, rfl, _, rfl, ?_⟩
  refine ite2 (fun d => ?_) (fun d => ?_)
  · have d' : c % 6 = 1 := V.int.inj (of_decide_eq_true d)
    rw [if_pos d'] at q
    exact ⟨_, _, rfl, rfl, ⟨by decide, by decide, by decide⟩, q⟩
  have d' : ¬ c % 6 = 1 := fun z => d (decide_eq_true (congrArg V.int z))
  rw [if_neg d'] at q
  refine ⟨_, rfl, _, _, rfl, rfl, _, rfl, ?_⟩
  refine ite2 (fun g => ?_) (fun g => ?_)
  · have g' : c % 6 < 4 := of_decide_eq_true g
    rw [if_pos g'] at q
    exact ⟨_, rfl, _, _, rfl, rfl, ⟨by decide, by decide⟩, _, _, rfl, rfl, (by show (0 : Int) < 12; decide), _, _, rfl, rfl, q⟩
  · have g' : ¬ c % 6 < 4 := of_decide_eq_false (Bool.eq_false_iff.mpr g)
    rw [if_neg g'] at q
    refine ⟨_, rfl, _, _, rfl, rfl, ⟨by decide, by decide⟩, ?_⟩
    exact ⟨_, _, rfl, rfl, ⟨by decide, by decide, by decide⟩, _, _, rfl, rfl, _, _, rfl, rfl, (by show (0 : Int) < 10 ^ 9 + 1; decide), q⟩
theorem mod_nat (c : Int) (m : Nat) (hm : 0 < m) : ∃ b : Nat, c % (m : Int) = (b : Int) ∧ b < m := by
  have a1 := Int.emod_nonneg c (show (m : Int) ≠ 0 by omega)
  have a2 := Int.emod_lt_of_pos c (show (0 : Int) < (m : Int) by omega)
  exact ⟨(c % (m : Int)).toNat, by omega, by omega⟩
theorem ok_M_Bid_depth {f : Addr} {fd : FuncData} (F : Fun K "depth" "Bid.depth" s_M_Bid_depth f fd)
    (O_Bid : Own K mg "Bid" c_Bid [])
    (O_Only : Own K mg "Only" c_Only ["bundle", "amount"])
    (O_SoMany : Own K mg "SoMany" c_SoMany ["kind", "least", "amount"])
    (O_UpTo : Own K mg "UpTo" c_UpTo ["kind", "most", "each"])
    (O_Several : Own K mg "Several" c_Several ["bids"])
    (O_AnyOf : Own K mg "AnyOf" c_AnyOf ["bids"])
    (O_OneOf : Own K mg "OneOf" c_OneOf ["bids"])
    (O_Stock : Own K mg "Stock" c_Stock ["numbers", "kinds"]) : FnOk P w K mg base CX0 1 f fd ["self"] (sp_M_Bid_depth K c_Bid) := by
  refine F.okQ sc_M_Bid_depth (fun vs H Q E h => ?_) (fun cdv A outer s H vs Q E hr h => ?_)
  · obtain ⟨a, rfl, _⟩ := h; rfl
  obtain ⟨a, rfl, q⟩ := h
  refine ⟨_, (R.pss_one (R.ps_ret R.pe_int)), ?_⟩
  exact q
theorem ok_M_Bid_tally {f : Addr} {fd : FuncData} (F : Fun K "tally" "Bid.tally" s_M_Bid_tally f fd)
    (O_Bid : Own K mg "Bid" c_Bid [])
    (O_Only : Own K mg "Only" c_Only ["bundle", "amount"])
    (O_SoMany : Own K mg "SoMany" c_SoMany ["kind", "least", "amount"])
    (O_UpTo : Own K mg "UpTo" c_UpTo ["kind", "most", "each"])
    (O_Several : Own K mg "Several" c_Several ["bids"])
    (O_AnyOf : Own K mg "AnyOf" c_AnyOf ["bids"])
    (O_OneOf : Own K mg "OneOf" c_OneOf ["bids"])
    (O_Stock : Own K mg "Stock" c_Stock ["numbers", "kinds"]) : FnOk P w K mg base CX0 1 f fd ["self"] (sp_M_Bid_tally K c_Bid) := by
  refine F.okQ sc_M_Bid_tally (fun vs H Q E h => ?_) (fun cdv A outer s H vs Q E hr h => ?_)
  · obtain ⟨a, rfl, _⟩ := h; rfl
  obtain ⟨a, rfl, q⟩ := h
  refine ⟨_, (R.pss_one (R.ps_ret R.pe_int)), ?_⟩
  exact q
theorem ask_depth (K : PySem.W.Frag) {c_Bid c_Only c_SoMany c_UpTo c_Several c_AnyOf c_OneOf c_Stock : Addr} {A : Addr → Prop} {H : Hp} {d : Nat} {b : Addr} {t : Tr} (hb : IsTr c_Bid c_Only c_SoMany c_UpTo c_AnyOf c_OneOf A H d b t) (few : tallyT t ≤ 100) :
    ∃ (C dx : Addr) (fs : List (Str × V)) (sp : Sp), H b = some (.ins C dx fs) ∧ fs.lookup ("depth" : Str) = none ∧ T1 depthT c_Bid c_Only c_SoMany c_UpTo c_Several c_AnyOf c_OneOf c_Stock d C sp ∧ ∀ Q : VK, (∀ H', Same H H' → Q (nv (depthT t)) H') → sp [.ref b] H Q E0 := by
  cases d with
  | zero => exact hb.elim
  | succ d =>
    cases t with
    | leaf f =>
      obtain ⟨_, hb⟩ := hb
      cases f <;> obtain ⟨dx, e⟩ := hb
      · exact ⟨_, dx, _, _, e, rfl, .inl ⟨.inl rfl, rfl⟩, fun Q q => ⟨b, rfl, q H (Same.refl H)⟩⟩
      · exact ⟨_, dx, _, _, e, rfl, .inl ⟨.inr (.inl rfl), rfl⟩, fun Q q => ⟨b, rfl, q H (Same.refl H)⟩⟩
      · exact ⟨_, dx, _, _, e, rfl, .inl ⟨.inr (.inr (.inl rfl)), rfl⟩, fun Q q => ⟨b, rfl, q H (Same.refl H)⟩⟩
      · exact ⟨_, dx, _, _, e, rfl, .inl ⟨.inr (.inr (.inr rfl)), rfl⟩, fun Q q => ⟨b, rfl, q H (Same.refl H)⟩⟩
    | node any ts =>
      have hb' := hb
      obtain ⟨dx, l, bs, e1, e2, e3, e4⟩ := hb
      have few2 : tallyL ts ≤ 100 := by have : 1 + tallyL ts ≤ 100 := few; omega
      refine ⟨_, dx, _, _, e1, rfl, .inr ⟨?_, rfl⟩, fun Q q => ⟨b, any, ts, A, rfl, hb', few2, q⟩⟩
      cases any
      · exact .inr rfl
      · exact .inl rfl
theorem ask_tally (K : PySem.W.Frag) {c_Bid c_Only c_SoMany c_UpTo c_Several c_AnyOf c_OneOf c_Stock : Addr} {A : Addr → Prop} {H : Hp} {d : Nat} {b : Addr} {t : Tr} (hb : IsTr c_Bid c_Only c_SoMany c_UpTo c_AnyOf c_OneOf A H d b t) (few : tallyT t ≤ 100) :
    ∃ (C dx : Addr) (fs : List (Str × V)) (sp : Sp), H b = some (.ins C dx fs) ∧ fs.lookup ("tally" : Str) = none ∧ T1 tallyT c_Bid c_Only c_SoMany c_UpTo c_Several c_AnyOf c_OneOf c_Stock d C sp ∧ ∀ Q : VK, (∀ H', Same H H' → Q (nv (tallyT t)) H') → sp [.ref b] H Q E0 := by
  cases d with
  | zero => exact hb.elim
  | succ d =>
    cases t with
    | leaf f =>
      obtain ⟨_, hb⟩ := hb
      cases f <;> obtain ⟨dx, e⟩ := hb
      · exact ⟨_, dx, _, _, e, rfl, .inl ⟨.inl rfl, rfl⟩, fun Q q => ⟨b, rfl, q H (Same.refl H)⟩⟩
      · exact ⟨_, dx, _, _, e, rfl, .inl ⟨.inr (.inl rfl), rfl⟩, fun Q q => ⟨b, rfl, q H (Same.refl H)⟩⟩
      · exact ⟨_, dx, _, _, e, rfl, .inl ⟨.inr (.inr (.inl rfl)), rfl⟩, fun Q q => ⟨b, rfl, q H (Same.refl H)⟩⟩
      · exact ⟨_, dx, _, _, e, rfl, .inl ⟨.inr (.inr (.inr rfl)), rfl⟩, fun Q q => ⟨b, rfl, q H (Same.refl H)⟩⟩
    | node any ts =>
      have hb' := hb
      obtain ⟨dx, l, bs, e1, e2, e3, e4⟩ := hb
      have few2 : tallyL ts ≤ 100 := by have : 1 + tallyL ts ≤ 100 := few; omega
      refine ⟨_, dx, _, _, e1, rfl, .inr ⟨?_, rfl⟩, fun Q q => ⟨b, any, ts, A, rfl, hb', few2, q⟩⟩
      cases any
      · exact .inr rfl
      · exact .inl rfl
theorem depthL_max {ts : List Tr} {m : Int} (hm : IsMax (ts.map fun t => ((depthT t : Nat) : Int)) m) : m = ((depthL ts : Nat) : Int) := by
  rw [depthL_top]
  exact top_isMax (fun z hz => by obtain ⟨t, _, rfl⟩ := List.mem_map.mp hz; exact Int.natCast_nonneg _) hm
theorem own2 
    (O_Bid : Own K mg "Bid" c_Bid [])
    (O_Only : Own K mg "Only" c_Only ["bundle", "amount"])
    (O_SoMany : Own K mg "SoMany" c_SoMany ["kind", "least", "amount"])
    (O_UpTo : Own K mg "UpTo" c_UpTo ["kind", "most", "each"])
    (O_Several : Own K mg "Several" c_Several ["bids"])
    (O_AnyOf : Own K mg "AnyOf" c_AnyOf ["bids"])
    (O_OneOf : Own K mg "OneOf" c_OneOf ["bids"])
    (O_Stock : Own K mg "Stock" c_Stock ["numbers", "kinds"]) (any : Bool) : Cls K (if any = true then c_AnyOf else c_OneOf) ∧ NoAttr K (if any = true then c_AnyOf else c_OneOf) "bids" := by
  cases any
  · exact ⟨O_OneOf.cls, O_OneOf.no _ (mem_at 0 rfl)⟩
  · exact ⟨O_AnyOf.cls, O_AnyOf.no _ (mem_at 0 rfl)⟩
theorem ok_P_depth_over (d : Nat) {f : Addr} {fd : FuncData} (F : Fun K "depth_over" "depth_over" s_P_depth_over f fd) (m_self : mg "depth_over" = some (.ref f)) (m_max : mg "max" = none) 
    (O_Bid : Own K mg "Bid" c_Bid [])
    (O_Only : Own K mg "Only" c_Only ["bundle", "amount"])
    (O_SoMany : Own K mg "SoMany" c_SoMany ["kind", "least", "amount"])
    (O_UpTo : Own K mg "UpTo" c_UpTo ["kind", "most", "each"])
    (O_Several : Own K mg "Several" c_Several ["bids"])
    (O_AnyOf : Own K mg "AnyOf" c_AnyOf ["bids"])
    (O_OneOf : Own K mg "OneOf" c_OneOf ["bids"])
    (O_Stock : Own K mg "Stock" c_Stock ["numbers", "kinds"])
    (hT_depth : ∀ C sp, T1 depthT c_Bid c_Only c_SoMany c_UpTo c_Several c_AnyOf c_OneOf c_Stock d C sp → ∃ ps, MethD P w K mg base (2 * d + 1) C "depth" ps sp) : DefOk P w K mg base (2 * d + 2) "depth_over" ["bids"] [] (spOver depthL c_Bid c_Only c_SoMany c_UpTo c_Several c_AnyOf c_OneOf c_Stock d) := by
  refine F.def_okQ m_self (bnd1 F fun _ _ _ _ _ _ _ => rfl) sc_P_depth_over (fun vs H Q E h => ?_) (fun cdv A outer s H vs Q E hr h => ?_)
  · obtain ⟨l, bs, ts, A, rfl, _⟩ := h; rfl
  obtain ⟨l, bs, ts, A, rfl, hl, hB, few, q⟩ := h
  have tl := tally_len ts
  refine ⟨_, (R.pss_one (R.ps_ret (R.pe_op (opE0 op_add) R.pe_int (R.pe_maxD K rfl rfl m_max (R.pe_comp (defScope s_P_depth_over) ["bids"] ["bid"] [] [] rfl rfl rfl ⟨s.heap.objs.size + 1, rfl⟩ rfl rfl (by decide +kernel) (R.pi_list (R.pv 0)) (fun C s2 H2 fp => (R.pg_name (i := 0) (show List.Nodup (["bid"] : List Str) from by decide +kernel) rfl (Or.inl rfl))) (fun C s2 H2 fp => R.pf_nil) (fun C s2 H2 fp => (R.pe_methV0 (R.pv 0) hT_depth hr (by first | decide | omega)))) R.pe_int)))), ?_⟩
  refine ⟨_, rfl, l, rfl, ⟨_, SqL.of hl⟩, fun l2 h2 => ?_⟩
  refine comp_lst1 (xs := bs.map V.ref) (fun k H' => Same H H' ∧ H' l2 = some (.lst (((ts.take k).map fun t => ((depthT t : Nat) : Int)).map V.int))) ⟨same_new h2 _, upd_same⟩ (fun k H' _ ⟨s, _⟩ => SqL.of (s _ _ hl)) ?_ ?_
  · rintro k v H1 hv ⟨s1, e1⟩ K1 K0 k1 k0
    obtain ⟨b, t, rfl, hb, ht, ib⟩ := hB.at hv
    have mt := tally_mem (List.mem_of_getElem? ht)
    obtain ⟨C, dx, ff, sp, g1, g2, g3, g4⟩ := ask_depth K (c_Several := c_Several) (ib.same s1) (by omega)
    refine ⟨_, rfl, b, C, dx, ff, sp, rfl, g1, g2, g3, g4 _ fun H3 s3 => k1 _ _ _ (s3 _ _ e1) ?_ ⟨(s1.trans s3).upd h2 _, ?_⟩⟩
    · rw [List.length_map, List.length_map, List.length_take]; exact small1000 (by omega)
    · rw [upd_same, List.take_succ, ht, List.map_append, List.map_append]; rfl
  · rintro H1 ⟨s1, e1⟩
    rw [List.length_map, hB.1, List.take_length] at e1
    refine ⟨l2, _, 0, rfl, rfl, SqL.of e1, fun e0 => ⟨_, _, nv (1 + depthL ts), rfl, rfl, ?_, q H1 s1⟩, fun m hm => ⟨_, _, nv (1 + depthL ts), rfl, rfl, ?_, q H1 s1⟩⟩
    · have : ts = [] := List.map_eq_nil_iff.mp e0
      subst this; rfl
    · rw [depthL_max hm]; show V.int (1 + ((depthL ts : Nat) : Int)) = V.int ((1 + depthL ts : Nat) : Int)
      congr 1
theorem ok_M_Several_depth (d : Nat) {f : Addr} {fd : FuncData} (F : Fun K "depth" "Several.depth" s_M_Several_depth f fd) (D_P_depth_over : DefOk P w K mg base (2 * d + 2) "depth_over" ["bids"] [] (spOver depthL c_Bid c_Only c_SoMany c_UpTo c_Several c_AnyOf c_OneOf c_Stock d)) 
    (O_Bid : Own K mg "Bid" c_Bid [])
    (O_Only : Own K mg "Only" c_Only ["bundle", "amount"])
    (O_SoMany : Own K mg "SoMany" c_SoMany ["kind", "least", "amount"])
    (O_UpTo : Own K mg "UpTo" c_UpTo ["kind", "most", "each"])
    (O_Several : Own K mg "Several" c_Several ["bids"])
    (O_AnyOf : Own K mg "AnyOf" c_AnyOf ["bids"])
    (O_OneOf : Own K mg "OneOf" c_OneOf ["bids"])
    (O_Stock : Own K mg "Stock" c_Stock ["numbers", "kinds"]) :
    FnOk P w K mg base CX0 (2 * d + 3) f fd ["self"] (spSev depthT c_Bid c_Only c_SoMany c_UpTo c_Several c_AnyOf c_OneOf c_Stock (d + 1)) := by
  refine F.okQ sc_M_Several_depth (fun vs H Q E h => ?_) (fun cdv A outer s H vs Q E hr h => ?_)
  · obtain ⟨a, any, ts, A, rfl, _⟩ := h; rfl
  obtain ⟨a, any, ts, A, rfl, hT, few, q⟩ := h
  obtain ⟨dx, l, bs, e1, e2, e3, e4⟩ := hT
  obtain ⟨hc, hn⟩ := own2 O_Bid O_Only O_SoMany O_UpTo O_Several O_AnyOf O_OneOf O_Stock any
  refine ⟨_, (R.pss_one (R.ps_ret (R.pe_callD D_P_depth_over hr (by first | decide | omega) rfl (R.pa_c (R.pe_fld K (R.pv 0)) R.pa_nil)))), ?_⟩
  exact ⟨_, rfl, a, _, dx, _, .ref l, rfl, e1, hc, hn, rfl, l, bs, ts, A, rfl, e3, e4, few, q⟩
theorem fam_depth {fB fS fO : Addr} {dB dS dO : FuncData} (FB : Fun K "depth" "Bid.depth" s_M_Bid_depth fB dB) (FS : Fun K "depth" "Several.depth" s_M_Several_depth fS dS) (FO : Fun K "depth_over" "depth_over" s_P_depth_over fO dO) (gO : mg "depth_over" = some (.ref fO)) (m_max : mg "max" = none) 
    (O_Bid : Own K mg "Bid" c_Bid [])
    (O_Only : Own K mg "Only" c_Only ["bundle", "amount"])
    (O_SoMany : Own K mg "SoMany" c_SoMany ["kind", "least", "amount"])
    (O_UpTo : Own K mg "UpTo" c_UpTo ["kind", "most", "each"])
    (O_Several : Own K mg "Several" c_Several ["bids"])
    (O_AnyOf : Own K mg "AnyOf" c_AnyOf ["bids"])
    (O_OneOf : Own K mg "OneOf" c_OneOf ["bids"])
    (O_Stock : Own K mg "Stock" c_Stock ["numbers", "kinds"])
    (M1 : Meth K c_Bid "depth" fB) (M2 : Meth K c_Only "depth" fB) (M3 : Meth K c_SoMany "depth" fB) (M4 : Meth K c_UpTo "depth" fB) (M5 : Meth K c_AnyOf "depth" fS) (M6 : Meth K c_OneOf "depth" fS) :
    ∀ d, ∀ C sp, T1 depthT c_Bid c_Only c_SoMany c_UpTo c_Several c_AnyOf c_OneOf c_Stock d C sp → ∃ ps, MethD P w K mg base (2 * d + 1) C "depth" ps sp := by
  have leaf := ok_M_Bid_depth (P := P) (w := w) (base := base) (mg := mg) FB O_Bid O_Only O_SoMany O_UpTo O_Several O_AnyOf O_OneOf O_Stock
  have bB : Binds K dB ["self"] [] := bnd1 FB fun _ _ _ _ _ _ _ => rfl
  have bS : Binds K dS ["self"] [] := bnd1 FS fun _ _ _ _ _ _ _ => rfl
  have put : ∀ d, FnOk P w K mg base CX0 (2 * d + 1) fS dS ["self"] (spSev depthT c_Bid c_Only c_SoMany c_UpTo c_Several c_AnyOf c_OneOf c_Stock d) → ∀ C sp, T1 depthT c_Bid c_Only c_SoMany c_UpTo c_Several c_AnyOf c_OneOf c_Stock d C sp → ∃ ps, MethD P w K mg base (2 * d + 1) C "depth" ps sp := by
    intro d hS C sp hT
    have lf : FnOk P w K mg base CX0 (2 * d + 1) fB dB ["self"] sp1 := leaf.mono (by omega)
    rcases hT with ⟨hC, rfl⟩ | ⟨hC, rfl⟩
    · rcases hC with rfl | rfl | rfl | rfl
      · exact ⟨_, fB, dB, lf, bB, M1, O_Bid.cls⟩
      · exact ⟨_, fB, dB, lf, bB, M2, O_Only.cls⟩
      · exact ⟨_, fB, dB, lf, bB, M3, O_SoMany.cls⟩
      · exact ⟨_, fB, dB, lf, bB, M4, O_UpTo.cls⟩
    · rcases hC with rfl | rfl
      · exact ⟨_, fS, dS, hS, bS, M5, O_AnyOf.cls⟩
      · exact ⟨_, fS, dS, hS, bS, M6, O_OneOf.cls⟩
  intro d
  induction d with
  | zero =>
    refine put 0 (FS.okQ sc_M_Several_depth (fun vs H Q E h => ?_) (fun cdv A outer s H vs Q E hr h => ?_))
    · obtain ⟨a, any, ts, A, rfl, _⟩ := h; rfl
    · obtain ⟨a, any, ts, A, rfl, hT, _⟩ := h; exact hT.elim
  | succ d ih => exact put (d + 1) (ok_M_Several_depth d FS (ok_P_depth_over d FO gO m_max O_Bid O_Only O_SoMany O_UpTo O_Several O_AnyOf O_OneOf O_Stock ih) O_Bid O_Only O_SoMany O_UpTo O_Several O_AnyOf O_OneOf O_Stock)
theorem ok_P_tally_over (d : Nat) {f : Addr} {fd : FuncData} (F : Fun K "tally_over" "tally_over" s_P_tally_over f fd) (m_self : mg "tally_over" = some (.ref f)) (m_sum : mg "sum" = none) 
    (O_Bid : Own K mg "Bid" c_Bid [])
    (O_Only : Own K mg "Only" c_Only ["bundle", "amount"])
    (O_SoMany : Own K mg "SoMany" c_SoMany ["kind", "least", "amount"])
    (O_UpTo : Own K mg "UpTo" c_UpTo ["kind", "most", "each"])
    (O_Several : Own K mg "Several" c_Several ["bids"])
    (O_AnyOf : Own K mg "AnyOf" c_AnyOf ["bids"])
    (O_OneOf : Own K mg "OneOf" c_OneOf ["bids"])
    (O_Stock : Own K mg "Stock" c_Stock ["numbers", "kinds"])
    (hT_tally : ∀ C sp, T1 tallyT c_Bid c_Only c_SoMany c_UpTo c_Several c_AnyOf c_OneOf c_Stock d C sp → ∃ ps, MethD P w K mg base (2 * d + 1) C "tally" ps sp) : DefOk P w K mg base (2 * d + 2) "tally_over" ["bids"] [] (spOver tallyL c_Bid c_Only c_SoMany c_UpTo c_Several c_AnyOf c_OneOf c_Stock d) := by
  refine F.def_okQ m_self (bnd1 F fun _ _ _ _ _ _ _ => rfl) sc_P_tally_over (fun vs H Q E h => ?_) (fun cdv A outer s H vs Q E hr h => ?_)
  · obtain ⟨l, bs, ts, A, rfl, _⟩ := h; rfl
  obtain ⟨l, bs, ts, A, rfl, hl, hB, few, q⟩ := h
  have tl := tally_len ts
  refine ⟨_, (R.pss_one (R.ps_ret (R.pe_op (opE0 op_add) R.pe_int (R.pe_cB (call_sumL rfl) rfl m_sum (boot_sum) (R.pa_c (R.pe_comp (defScope s_P_tally_over) ["bids"] ["bid"] [] [] rfl rfl rfl ⟨s.heap.objs.size + 1, rfl⟩ rfl rfl (by decide +kernel) (R.pi_list (R.pv 0)) (fun C s2 H2 fp => (R.pg_name (i := 0) (show List.Nodup (["bid"] : List Str) from by decide +kernel) rfl (Or.inl rfl))) (fun C s2 H2 fp => R.pf_nil) (fun C s2 H2 fp => (R.pe_methV0 (R.pv 0) hT_tally hr (by first | decide | omega)))) R.pa_nil))))), ?_⟩
  refine ⟨_, rfl, l, rfl, ⟨_, SqL.of hl⟩, fun l2 h2 => ?_⟩
  refine comp_lst1 (xs := bs.map V.ref) (fun k H' => Same H H' ∧ H' l2 = some (.lst (((ts.take k).map fun t => ((tallyT t : Nat) : Int)).map V.int))) ⟨same_new h2 _, upd_same⟩ (fun k H' _ ⟨s, _⟩ => SqL.of (s _ _ hl)) ?_ ?_
  · rintro k v H1 hv ⟨s1, e1⟩ K1 K0 k1 k0
    obtain ⟨b, t, rfl, hb, ht, ib⟩ := hB.at hv
    have mt := tally_mem (List.mem_of_getElem? ht)
    obtain ⟨C, dx, ff, sp, g1, g2, g3, g4⟩ := ask_tally K (c_Several := c_Several) (ib.same s1) (by omega)
    refine ⟨_, rfl, b, C, dx, ff, sp, rfl, g1, g2, g3, g4 _ fun H3 s3 => k1 _ _ _ (s3 _ _ e1) ?_ ⟨(s1.trans s3).upd h2 _, ?_⟩⟩
    · rw [List.length_map, List.length_map, List.length_take]; exact small1000 (by omega)
    · rw [upd_same, List.take_succ, ht, List.map_append, List.map_append]; rfl
  · rintro H1 ⟨s1, e1⟩
    rw [List.length_map, hB.1, List.take_length] at e1
    refine ⟨l2, _, rfl, SqL.of e1, _, _, nv (1 + tallyL ts), rfl, rfl, ?_, q H1 s1⟩
    rw [← tallyL_sum]; show V.int (1 + ((tallyL ts : Nat) : Int)) = V.int ((1 + tallyL ts : Nat) : Int)
    congr 1
theorem ok_M_Several_tally (d : Nat) {f : Addr} {fd : FuncData} (F : Fun K "tally" "Several.tally" s_M_Several_tally f fd) (D_P_tally_over : DefOk P w K mg base (2 * d + 2) "tally_over" ["bids"] [] (spOver tallyL c_Bid c_Only c_SoMany c_UpTo c_Several c_AnyOf c_OneOf c_Stock d)) 
    (O_Bid : Own K mg "Bid" c_Bid [])
    (O_Only : Own K mg "Only" c_Only ["bundle", "amount"])
    (O_SoMany : Own K mg "SoMany" c_SoMany ["kind", "least", "amount"])
    (O_UpTo : Own K mg "UpTo" c_UpTo ["kind", "most", "each"])
    (O_Several : Own K mg "Several" c_Several ["bids"])
    (O_AnyOf : Own K mg "AnyOf" c_AnyOf ["bids"])
    (O_OneOf : Own K mg "OneOf" c_OneOf ["bids"])
    (O_Stock : Own K mg "Stock" c_Stock ["numbers", "kinds"]) :
    FnOk P w K mg base CX0 (2 * d + 3) f fd ["self"] (spSev tallyT c_Bid c_Only c_SoMany c_UpTo c_Several c_AnyOf c_OneOf c_Stock (d + 1)) := by
  refine F.okQ sc_M_Several_tally (fun vs H Q E h => ?_) (fun cdv A outer s H vs Q E hr h => ?_)
  · obtain ⟨a, any, ts, A, rfl, _⟩ := h; rfl
  obtain ⟨a, any, ts, A, rfl, hT, few, q⟩ := h
  obtain ⟨dx, l, bs, e1, e2, e3, e4⟩ := hT
  obtain ⟨hc, hn⟩ := own2 O_Bid O_Only O_SoMany O_UpTo O_Several O_AnyOf O_OneOf O_Stock any
  refine ⟨_, (R.pss_one (R.ps_ret (R.pe_callD D_P_tally_over hr (by first | decide | omega) rfl (R.pa_c (R.pe_fld K (R.pv 0)) R.pa_nil)))), ?_⟩
  exact ⟨_, rfl, a, _, dx, _, .ref l, rfl, e1, hc, hn, rfl, l, bs, ts, A, rfl, e3, e4, few, q⟩
theorem fam_tally {fB fS fO : Addr} {dB dS dO : FuncData} (FB : Fun K "tally" "Bid.tally" s_M_Bid_tally fB dB) (FS : Fun K "tally" "Several.tally" s_M_Several_tally fS dS) (FO : Fun K "tally_over" "tally_over" s_P_tally_over fO dO) (gO : mg "tally_over" = some (.ref fO)) (m_sum : mg "sum" = none) 
    (O_Bid : Own K mg "Bid" c_Bid [])
    (O_Only : Own K mg "Only" c_Only ["bundle", "amount"])
    (O_SoMany : Own K mg "SoMany" c_SoMany ["kind", "least", "amount"])
    (O_UpTo : Own K mg "UpTo" c_UpTo ["kind", "most", "each"])
    (O_Several : Own K mg "Several" c_Several ["bids"])
    (O_AnyOf : Own K mg "AnyOf" c_AnyOf ["bids"])
    (O_OneOf : Own K mg "OneOf" c_OneOf ["bids"])
    (O_Stock : Own K mg "Stock" c_Stock ["numbers", "kinds"])
    (M1 : Meth K c_Bid "tally" fB) (M2 : Meth K c_Only "tally" fB) (M3 : Meth K c_SoMany "tally" fB) (M4 : Meth K c_UpTo "tally" fB) (M5 : Meth K c_AnyOf "tally" fS) (M6 : Meth K c_OneOf "tally" fS) :
    ∀ d, ∀ C sp, T1 tallyT c_Bid c_Only c_SoMany c_UpTo c_Several c_AnyOf c_OneOf c_Stock d C sp → ∃ ps, MethD P w K mg base (2 * d + 1) C "tally" ps sp := by
  have leaf := ok_M_Bid_tally (P := P) (w := w) (base := base) (mg := mg) FB O_Bid O_Only O_SoMany O_UpTo O_Several O_AnyOf O_OneOf O_Stock
  have bB : Binds K dB ["self"] [] := bnd1 FB fun _ _ _ _ _ _ _ => rfl
  have bS : Binds K dS ["self"] [] := bnd1 FS fun _ _ _ _ _ _ _ => rfl
  have put : ∀ d, FnOk P w K mg base CX0 (2 * d + 1) fS dS ["self"] (spSev tallyT c_Bid c_Only c_SoMany c_UpTo c_Several c_AnyOf c_OneOf c_Stock d) → ∀ C sp, T1 tallyT c_Bid c_Only c_SoMany c_UpTo c_Several c_AnyOf c_OneOf c_Stock d C sp → ∃ ps, MethD P w K mg base (2 * d + 1) C "tally" ps sp := by
    intro d hS C sp hT
    have lf : FnOk P w K mg base CX0 (2 * d + 1) fB dB ["self"] sp1 := leaf.mono (by omega)
    rcases hT with ⟨hC, rfl⟩ | ⟨hC, rfl⟩
    · rcases hC with rfl | rfl | rfl | rfl
      · exact ⟨_, fB, dB, lf, bB, M1, O_Bid.cls⟩
      · exact ⟨_, fB, dB, lf, bB, M2, O_Only.cls⟩
      · exact ⟨_, fB, dB, lf, bB, M3, O_SoMany.cls⟩
      · exact ⟨_, fB, dB, lf, bB, M4, O_UpTo.cls⟩
    · rcases hC with rfl | rfl
      · exact ⟨_, fS, dS, hS, bS, M5, O_AnyOf.cls⟩
      · exact ⟨_, fS, dS, hS, bS, M6, O_OneOf.cls⟩
  intro d
  induction d with
  | zero =>
    refine put 0 (FS.okQ sc_M_Several_tally (fun vs H Q E h => ?_) (fun cdv A outer s H vs Q E hr h => ?_))
    · obtain ⟨a, any, ts, A, rfl, _⟩ := h; rfl
    · obtain ⟨a, any, ts, A, rfl, hT, _⟩ := h; exact hT.elim
  | succ d ih => exact put (d + 1) (ok_M_Several_tally d FS (ok_P_tally_over d FO gO m_sum O_Bid O_Only O_SoMany O_UpTo O_Several O_AnyOf O_OneOf O_Stock ih) O_Bid O_Only O_SoMany O_UpTo O_Several O_AnyOf O_OneOf O_Stock)
theorem ok_P_check_bids {f : Addr} {fd : FuncData} (F : Fun K "check_bids" "check_bids" s_P_check_bids f fd) (m_self : mg "check_bids" = some (.ref f)) (m_isinstance : mg "isinstance" = none) (m_list : mg "list" = none)
    (D_P_depth_over : DefOk P w K mg base 10 "depth_over" ["bids"] [] (sp_P_depth_over K c_Bid c_Only c_SoMany c_UpTo c_Several c_AnyOf c_OneOf c_Stock))
    (D_P_tally_over : DefOk P w K mg base 10 "tally_over" ["bids"] [] (sp_P_tally_over K c_Bid c_Only c_SoMany c_UpTo c_Several c_AnyOf c_OneOf c_Stock))
    (O_Bid : Own K mg "Bid" c_Bid [])
    (O_Only : Own K mg "Only" c_Only ["bundle", "amount"])
    (O_SoMany : Own K mg "SoMany" c_SoMany ["kind", "least", "amount"])
    (O_UpTo : Own K mg "UpTo" c_UpTo ["kind", "most", "each"])
    (O_Several : Own K mg "Several" c_Several ["bids"])
    (O_AnyOf : Own K mg "AnyOf" c_AnyOf ["bids"])
    (O_OneOf : Own K mg "OneOf" c_OneOf ["bids"])
    (O_Stock : Own K mg "Stock" c_Stock ["numbers", "kinds"])
    (kit_Bid_Bid : PySem.W.kitOne K (.ref c_Bid) (.ref c_Bid) = some true)
    (kit_Only_Bid : PySem.W.kitOne K (.ref c_Only) (.ref c_Bid) = some true)
    (kit_SoMany_Bid : PySem.W.kitOne K (.ref c_SoMany) (.ref c_Bid) = some true)
    (kit_UpTo_Bid : PySem.W.kitOne K (.ref c_UpTo) (.ref c_Bid) = some true)
    (kit_Several_Bid : PySem.W.kitOne K (.ref c_Several) (.ref c_Bid) = some true)
    (kit_AnyOf_Bid : PySem.W.kitOne K (.ref c_AnyOf) (.ref c_Bid) = some true)
    (kit_OneOf_Bid : PySem.W.kitOne K (.ref c_OneOf) (.ref c_Bid) = some true)
    (kit_Stock_Bid : PySem.W.kitOne K (.ref c_Stock) (.ref c_Bid) = some false) : DefOk P w K mg base 11 "check_bids" ["bids"] [] (sp_P_check_bids K c_Bid c_Only c_SoMany c_UpTo c_Several c_AnyOf c_OneOf c_Stock) := by
  have isB : ∀ {H : Hp} {b : Addr} {d : Nat} {A : Addr → Prop} {t : Tr}, IsTr c_Bid c_Only c_SoMany c_UpTo c_AnyOf c_OneOf A H d b t → ∃ t, TyOf K H (.ref b) t ∧ PySem.W.kitOne K t (.ref c_Bid) = some true := fun {H b d A t} hb => by
    cases d with
    | zero => exact hb.elim
    | succ d =>
      cases t with
      | leaf f =>
        obtain ⟨_, hb⟩ := hb
        cases f <;> obtain ⟨dx, e⟩ := hb
        · exact ⟨_, O_Bid.ty e, kit_Bid_Bid⟩
        · exact ⟨_, O_Only.ty e, kit_Only_Bid⟩
        · exact ⟨_, O_SoMany.ty e, kit_SoMany_Bid⟩
        · exact ⟨_, O_UpTo.ty e, kit_UpTo_Bid⟩
      | node any ts =>
        obtain ⟨dx, l, bs, e, _⟩ := hb
        cases any
        · exact ⟨_, O_OneOf.ty e, kit_OneOf_Bid⟩
        · exact ⟨_, O_AnyOf.ty e, kit_AnyOf_Bid⟩
  refine F.def_okQ m_self (bnd1 F fun _ _ _ _ _ _ _ => rfl) sc_P_check_bids (fun vs H Q E h => ?_) (fun cdv A outer s H vs Q E hr h => ?_)
  · obtain ⟨l, bs, ts, A, d, rfl, _⟩ := h; rfl
  obtain ⟨l, bs, ts, A, d, rfl, hl, hB, hd, hy, q⟩ := h
  refine ⟨_, (R.pss_cons (R.ps_if (R.pt_not (R.pt_val (R.pe_isi .lst rfl m_isinstance rfl m_list (R.pv 0)))) (R.pss_one R.ps_never) R.pss_nil)
    (R.pss_cons (R.ps_for PassesOwn.never rfl (R.pi_list (R.pv 0)) (R.pg_name (i := 1) sc_P_check_bids.nd rfl (Or.inl rfl)) (R.pss_one (R.ps_if (R.pt_not (R.pt_val (R.pe_isOwn rfl m_isinstance rfl O_Bid.at_ (R.pv 1)))) (R.pss_one R.ps_never) R.pss_nil)))
    (R.pss_cons (R.ps_if (R.pt_cmpR op_gt (R.pe_callD D_P_depth_over hr (by first | decide | omega) rfl (R.pa_c (R.pv 0) R.pa_nil)) R.pe_int (nomark _)) (R.pss_one R.ps_never) R.pss_nil)
    (R.pss_one (R.ps_if (R.pt_cmpR op_gt (R.pe_callD D_P_tally_over hr (by first | decide | omega) rfl (R.pa_c (R.pv 0) R.pa_nil)) R.pe_int (nomark _)) (R.pss_one R.ps_never) R.pss_nil))))), ?_⟩
  refine ⟨_, rfl, _, .lst, rfl, TyOf.lst hl, _, rfl, iteF ?_⟩
  refine ⟨_, rfl, l, rfl, ⟨_, SqL.of hl⟩, ?_⟩
  refine for_list (xs := bs.map V.ref) (fun i σ H' => H' = H ∧ ∃ y, σ = [some (.ref l), y]) ?_ ?_ ?_ ?_
  · exact ⟨rfl, _, rfl⟩
  · rintro i σ H' _ ⟨rfl, _⟩; exact SqL.of hl
  · rintro i v σ H' hv ⟨rfl, y, rfl⟩
    obtain ⟨b, t, rfl, hb, ht, ib⟩ := hB.at hv
    obtain ⟨t, ht, hk⟩ := isB ib
    exact ⟨_, rfl, _, t, true, rfl, ht, hk, _, rfl, iteF ⟨rfl, _, rfl⟩⟩
  · rintro σ H' ⟨rfl, y, rfl⟩
    have hB4 : All2 (IsTr c_Bid c_Only c_SoMany c_UpTo c_AnyOf c_OneOf A H' 4) bs ts := hB.imp fun x y hy z => IsTr.to d 4 z (by have := depth_mem hy; omega)
    refine ⟨_, rfl, l, bs, ts, A, rfl, hl, hB4, by omega, fun H1 s1 => ⟨_, _, rfl, rfl, _, rfl, ?_⟩⟩
    rw [decide_eq_false (show ¬ (4 : Int) < ((1 + depthL ts : Nat) : Int) by omega)]
    refine iteF ?_
    refine ⟨_, rfl, l, bs, ts, A, rfl, s1 _ _ hl, hB4.imp fun x y _ z => z.same s1, by omega, fun H2 s2 => ⟨_, _, rfl, rfl, _, rfl, ?_⟩⟩
    rw [decide_eq_false (show ¬ (24 : Int) < ((1 + tallyL ts : Nat) : Int) by omega)]
    exact iteF (q _ (s1.trans s2))
theorem ok_M_Several___init__ (c : Addr) {f : Addr} {fd : FuncData} (F : Fun K "__init__" "Several.__init__" s_M_Several___init__ f fd) (m_list : mg "list" = none)
    (D_P_check_bids : DefOk P w K mg base 11 "check_bids" ["bids"] [] (sp_P_check_bids K c_Bid c_Only c_SoMany c_UpTo c_Several c_AnyOf c_OneOf c_Stock))
    (O_Bid : Own K mg "Bid" c_Bid [])
    (O_Only : Own K mg "Only" c_Only ["bundle", "amount"])
    (O_SoMany : Own K mg "SoMany" c_SoMany ["kind", "least", "amount"])
    (O_UpTo : Own K mg "UpTo" c_UpTo ["kind", "most", "each"])
    (O_Several : Own K mg "Several" c_Several ["bids"])
    (O_AnyOf : Own K mg "AnyOf" c_AnyOf ["bids"])
    (O_OneOf : Own K mg "OneOf" c_OneOf ["bids"])
    (O_Stock : Own K mg "Stock" c_Stock ["numbers", "kinds"]) : FnOk P w K mg base CX0 12 f fd ["self", "bids"] (sp_M_Several___init__ K c c_Bid c_Only c_SoMany c_UpTo c_Several c_AnyOf c_OneOf c_Stock) := by
  refine F.okQ sc_M_Several___init__ (fun vs H Q E h => ?_) (fun cdv A outer s H vs Q E hr h => ?_)
  · obtain ⟨a, dx, l, bs, ts, A, d, rfl, _⟩ := h; rfl
  obtain ⟨a, dx, l, bs, ts, A, d, rfl, ha, hc, hl, hB, hd, hy, q⟩ := h
  refine ⟨_, (R.pss_cons (R.ps_expr (R.pe_callD D_P_check_bids hr (by first | decide | omega) rfl (R.pa_c (R.pv 1) R.pa_nil)))
    (R.pss_one (R.ps_fld (R.pv 0) (R.pe_cTy call_list_of rfl m_list (boot_list) (R.pa_c (R.pv 1) R.pa_nil))))), ?_⟩
  obtain ⟨o1, o2⟩ : Cls K c ∧ NoAttr K c "bids" := by
    rcases hc with rfl | rfl
    · exact ⟨O_AnyOf.cls, O_AnyOf.no _ (mem_at 0 rfl)⟩
    · exact ⟨O_OneOf.cls, O_OneOf.no _ (mem_at 0 rfl)⟩
  refine ⟨_, rfl, l, bs, ts, A, d, rfl, hl, hB, hd, hy, fun H1 s1 => ?_⟩
  refine ⟨_, rfl, l, _, rfl, .inl (SqL.of (s1 _ _ hl)), fun lb hb => ?_⟩
  have hab : a ≠ lb := ne_of_none (s1 _ _ ha) hb
  exact ⟨_, rfl, a, c, dx, [], rfl, by rw [upd_ne hab]; exact s1 _ _ ha, o1, o2, by decide, q H1 lb s1 hb⟩
theorem made_same {H : Hp} {x dx : Addr} {o u : HO} (nx : H x = none) (nd : H dx = none) : Same H (upd (upd (upd H dx (.own x)) x o) x u) := (((Same.refl H).upd nd _).upd nx _).upd nx _
/-- several bids have been put together -/
theorem made_tr {c_Bid c_Only c_SoMany c_UpTo c_Several c_AnyOf c_OneOf : Addr} {A : Addr → Prop} {H H1 : Hp} {x dx lb c : Addr} {bs : List Addr} {ts : List Tr} {d : Nat} {any : Bool} (nx : H x = none) (nd : H dx = none) (s1 : Same (upd (upd H dx (.own x)) x (.ins c dx [])) H1) (hb : H1 lb = none) (hB : All2 (IsTr c_Bid c_Only c_SoMany c_UpTo c_AnyOf c_OneOf A H d) bs ts) (hc : c = if any = true then c_AnyOf else c_OneOf) :
    Same H (upd (upd H1 lb (.lst (bs.map V.ref))) x (.ins c dx (fsSev lb))) ∧ H lb = none ∧ IsTr c_Bid c_Only c_SoMany c_UpTo c_AnyOf c_OneOf (fun l => A l ∨ l = lb) (upd (upd H1 lb (.lst (bs.map V.ref))) x (.ins c dx (fsSev lb))) (d + 1) x (.node any ts) := by
  have sH : Same H H1 := (((Same.refl H).upd nd _).upd nx _).trans s1
  have hlb := sH.free hb
  have S : Same H (upd (upd H1 lb (.lst (bs.map V.ref))) x (.ins c dx (fsSev lb))) := (sH.upd hlb _).upd nx _
  have ne : lb ≠ x := fun z => by
    have e := s1 _ _ (upd_same (H := upd H dx (.own x)) (a := x) (o := .ins c dx []))
    rw [← z, hb] at e; cases e
  subst hc
  exact ⟨S, hlb, dx, lb, bs, upd_same, .inr rfl, by rw [upd_ne ne]; exact upd_same, hB.imp fun y t _ z => (z.same S).imp fun l zs h _ => .inl h⟩
theorem ok_L_made (d : Nat) {f : Addr} {fd : FuncData} (F : Fun K "_law_made" "_law_made" s_L_made f fd) (m_self : mg "_law_made" = some (.ref f))
    (O_Bid : Own K mg "Bid" c_Bid [])
    (O_Only : Own K mg "Only" c_Only ["bundle", "amount"])
    (O_SoMany : Own K mg "SoMany" c_SoMany ["kind", "least", "amount"])
    (O_UpTo : Own K mg "UpTo" c_UpTo ["kind", "most", "each"])
    (O_Several : Own K mg "Several" c_Several ["bids"])
    (O_AnyOf : Own K mg "AnyOf" c_AnyOf ["bids"])
    (O_OneOf : Own K mg "OneOf" c_OneOf ["bids"])
    (O_Stock : Own K mg "Stock" c_Stock ["numbers", "kinds"])
    (MK_Bid : Make0 K mg "Bid" c_Bid)
    (MK_AnyOf : MakeD P w K mg base 12 "AnyOf" c_AnyOf ["self", "bids"] (sp_M_Several___init__ K c_AnyOf c_Bid c_Only c_SoMany c_UpTo c_Several c_AnyOf c_OneOf c_Stock))
    (MK_OneOf : MakeD P w K mg base 12 "OneOf" c_OneOf ["self", "bids"] (sp_M_Several___init__ K c_OneOf c_Bid c_Only c_SoMany c_UpTo c_Several c_AnyOf c_OneOf c_Stock))
    (MK_Only : MakeD P w K mg base 4 "Only" c_Only ["self", "bundle", "amount"] (sp_M_Only___init__ K c_Only))
    (MK_SoMany : MakeD P w K mg base 4 "SoMany" c_SoMany ["self", "kind", "least", "amount"] (sp_M_SoMany___init__ K c_SoMany))
    (MK_UpTo : MakeD P w K mg base 4 "UpTo" c_UpTo ["self", "kind", "most", "each"] (sp_M_UpTo___init__ K c_UpTo)) (D_L_made : DefOk P w K mg base (14 + d) "_law_made" ["_law_form_here"] [] (spMade c_Bid c_Only c_SoMany c_UpTo c_Several c_AnyOf c_OneOf c_Stock d)) : DefOk P w K mg base (14 + d + 1) "_law_made" ["_law_form_here"] [] (spMade c_Bid c_Only c_SoMany c_UpTo c_Several c_AnyOf c_OneOf c_Stock (d + 1)) := by
  refine F.def_okQ m_self (bnd1 F fun _ _ _ _ _ _ _ => rfl) sc_L_made (fun vs H Q E h => ?_) (fun cdv A outer s H vs Q E hr h => ?_)
  · obtain ⟨p, t, A, rfl, _⟩ := h; rfl
  obtain ⟨p, t, A, rfl, hF, hd, hy, q⟩ := h
  refine ⟨_, (R.pss_cons (R.ps_if (R.pt_cmpR op_eq (R.pe_ix ix_tup (R.pv 0) R.pe_int (fun _ _ => rfl)) R.pe_str (nomark _)) (R.pss_one (R.ps_ret (R.pe_makeD MK_AnyOf hr (by first | decide | omega) rfl (R.pa_c (R.pe_comp (defScope s_L_made) ["_law_form_here"] ["_law_part"] [] [] rfl rfl rfl ⟨s.heap.objs.size + 1, rfl⟩ rfl rfl (by decide +kernel) (R.pi_list (R.pe_ix ix_tup (R.pv 0) R.pe_int (fun _ _ => rfl))) (fun C s2 H2 fp => (R.pg_name (i := 0) (show List.Nodup (["_law_part"] : List Str) from by decide +kernel) rfl (Or.inl rfl))) (fun C s2 H2 fp => R.pf_nil) (fun C s2 H2 fp => (R.pe_callD D_L_made hr (by first | decide | omega) rfl (R.pa_c (R.pv 0) R.pa_nil)))) R.pa_nil)))) R.pss_nil)
    (R.pss_cons (R.ps_if (R.pt_cmpR op_eq (R.pe_ix ix_tup (R.pv 0) R.pe_int (fun _ _ => rfl)) R.pe_str (nomark _)) (R.pss_one (R.ps_ret (R.pe_makeD MK_OneOf hr (by first | decide | omega) rfl (R.pa_c (R.pe_comp (defScope s_L_made) ["_law_form_here"] ["_law_part"] [] [] rfl rfl rfl ⟨s.heap.objs.size + 1, rfl⟩ rfl rfl (by decide +kernel) (R.pi_list (R.pe_ix ix_tup (R.pv 0) R.pe_int (fun _ _ => rfl))) (fun C s2 H2 fp => (R.pg_name (i := 0) (show List.Nodup (["_law_part"] : List Str) from by decide +kernel) rfl (Or.inl rfl))) (fun C s2 H2 fp => R.pf_nil) (fun C s2 H2 fp => (R.pe_callD D_L_made hr (by first | decide | omega) rfl (R.pa_c (R.pv 0) R.pa_nil)))) R.pa_nil)))) R.pss_nil)
    (R.pss_cons (R.ps_if (R.pt_cmpR op_eq (R.pe_ix ix_tup (R.pv 0) R.pe_int (fun _ _ => rfl)) R.pe_str (nomark _)) (R.pss_one (R.ps_ret (R.pe_makeD MK_Only hr (by first | decide | omega) rfl (R.pa_c (R.pe_ix ix_tup (R.pv 0) R.pe_int (fun _ _ => rfl)) (R.pa_c (R.pe_ix ix_tup (R.pv 0) R.pe_int (fun _ _ => rfl)) R.pa_nil))))) R.pss_nil)
    (R.pss_cons (R.ps_if (R.pt_cmpR op_eq (R.pe_ix ix_tup (R.pv 0) R.pe_int (fun _ _ => rfl)) R.pe_str (nomark _)) (R.pss_one (R.ps_ret (R.pe_makeD MK_SoMany hr (by first | decide | omega) rfl (R.pa_c (R.pe_ix ix_tup (R.pv 0) R.pe_int (fun _ _ => rfl)) (R.pa_c (R.pe_ix ix_tup (R.pv 0) R.pe_int (fun _ _ => rfl)) (R.pa_c (R.pe_ix ix_tup (R.pv 0) R.pe_int (fun _ _ => rfl)) R.pa_nil)))))) R.pss_nil)
    (R.pss_cons (R.ps_if (R.pt_cmpR op_eq (R.pe_ix ix_tup (R.pv 0) R.pe_int (fun _ _ => rfl)) R.pe_str (nomark _)) (R.pss_one (R.ps_ret (R.pe_makeD MK_UpTo hr (by first | decide | omega) rfl (R.pa_c (R.pe_ix ix_tup (R.pv 0) R.pe_int (fun _ _ => rfl)) (R.pa_c (R.pe_ix ix_tup (R.pv 0) R.pe_int (fun _ _ => rfl)) (R.pa_c (R.pe_ix ix_tup (R.pv 0) R.pe_int (fun _ _ => rfl)) R.pa_nil)))))) R.pss_nil)
    (R.pss_one (R.ps_ret (R.pe_mk0 MK_Bid rfl)))))))), ?_⟩
  cases t with
  | leaf f =>
    obtain ⟨okf, k0, l0, z0, hp, h63, fit⟩ := hF
    have ok := okf
    cases f with
    | none =>
      refine ⟨_, rfl, p, _, _, _, rfl, rfl, SqT.of hp, rfl, rfl, _, rfl, iteF ?_⟩
      refine ⟨_, rfl, p, _, _, _, rfl, rfl, SqT.of hp, rfl, rfl, _, rfl, iteF ?_⟩
      refine ⟨_, rfl, p, _, _, _, rfl, rfl, SqT.of hp, rfl, rfl, _, rfl, iteF ?_⟩
      refine ⟨_, rfl, p, _, _, _, rfl, rfl, SqT.of hp, rfl, rfl, _, rfl, iteF ?_⟩
      refine ⟨_, rfl, p, _, _, _, rfl, rfl, SqT.of hp, rfl, rfl, _, rfl, iteF ?_⟩
      exact fun x dx nx nd _ => q x _ (((Same.refl H).upd nd _).upd nx _) ⟨okf, dx, upd_same⟩
    | only b m =>
      obtain ⟨rfl, rfl⟩ := fit
      refine ⟨_, rfl, p, _, _, _, rfl, rfl, SqT.of hp, rfl, rfl, _, rfl, iteF ?_⟩
      refine ⟨_, rfl, p, _, _, _, rfl, rfl, SqT.of hp, rfl, rfl, _, rfl, iteF ?_⟩
      refine ⟨_, rfl, p, _, _, _, rfl, rfl, SqT.of hp, rfl, rfl, _, rfl, iteT ?_⟩
      obtain ⟨b1, b2, hm⟩ := ok
      refine ⟨_, rfl, p, _, _, _, rfl, rfl, SqT.of hp, rfl, _, rfl, p, _, _, _, rfl, rfl, SqT.of hp, rfl, fun x dx nx nd _ => ?_⟩
      exact ⟨x, dx, b, m, rfl, b1, b2, hm, upd_same, rfl, q x _ (made_same nx nd) ⟨okf, dx, upd_same⟩⟩
    | some k l m =>
      obtain ⟨rfl, rfl, rfl⟩ := fit
      refine ⟨_, rfl, p, _, _, _, rfl, rfl, SqT.of hp, rfl, rfl, _, rfl, iteF ?_⟩
      refine ⟨_, rfl, p, _, _, _, rfl, rfl, SqT.of hp, rfl, rfl, _, rfl, iteF ?_⟩
      refine ⟨_, rfl, p, _, _, _, rfl, rfl, SqT.of hp, rfl, rfl, _, rfl, iteF ?_⟩
      refine ⟨_, rfl, p, _, _, _, rfl, rfl, SqT.of hp, rfl, rfl, _, rfl, iteT ?_⟩
      obtain ⟨k1, k2, l1, l2, hm⟩ := ok
      refine ⟨_, rfl, p, _, _, _, rfl, rfl, SqT.of hp, rfl, _, rfl, p, _, _, _, rfl, rfl, SqT.of hp, rfl, _, rfl, p, _, _, _, rfl, rfl, SqT.of hp, rfl, fun x dx nx nd _ => ?_⟩
      exact ⟨x, dx, k, l, m, rfl, k1, k2, l1, l2, hm, upd_same, rfl, q x _ (made_same nx nd) ⟨okf, dx, upd_same⟩⟩
    | most k l m =>
      obtain ⟨rfl, rfl, rfl⟩ := fit
      refine ⟨_, rfl, p, _, _, _, rfl, rfl, SqT.of hp, rfl, rfl, _, rfl, iteF ?_⟩
      refine ⟨_, rfl, p, _, _, _, rfl, rfl, SqT.of hp, rfl, rfl, _, rfl, iteF ?_⟩
      refine ⟨_, rfl, p, _, _, _, rfl, rfl, SqT.of hp, rfl, rfl, _, rfl, iteF ?_⟩
      refine ⟨_, rfl, p, _, _, _, rfl, rfl, SqT.of hp, rfl, rfl, _, rfl, iteF ?_⟩
      refine ⟨_, rfl, p, _, _, _, rfl, rfl, SqT.of hp, rfl, rfl, _, rfl, iteT ?_⟩
      obtain ⟨k1, k2, l1, l2, hm⟩ := ok
      refine ⟨_, rfl, p, _, _, _, rfl, rfl, SqT.of hp, rfl, _, rfl, p, _, _, _, rfl, rfl, SqT.of hp, rfl, _, rfl, p, _, _, _, rfl, rfl, SqT.of hp, rfl, fun x dx nx nd _ => ?_⟩
      exact ⟨x, dx, k, l, m, rfl, k1, k2, l1, l2, hm, upd_same, rfl, q x _ (made_same nx nd) ⟨okf, dx, upd_same⟩⟩
  | node any ts =>
    obtain ⟨l, ps, hp, hA, hl, hPs⟩ := hF
    have hd' : 1 + depthL ts ≤ 4 := hd
    have hy' : 1 + tallyL ts ≤ 24 := hy
    have tl := tally_len ts
    cases any
    · refine ⟨_, rfl, p, _, _, _, rfl, rfl, SqT.of hp, rfl, rfl, _, rfl, iteF ?_⟩
      refine ⟨_, rfl, p, _, _, _, rfl, rfl, SqT.of hp, rfl, rfl, _, rfl, iteT ?_⟩
      refine ⟨_, rfl, p, _, _, _, rfl, rfl, SqT.of hp, rfl, l, rfl, ⟨_, SqL.of hl⟩, fun l2 h2 => ?_⟩
      refine comp_lst1 (xs := ps.map V.ref) (fun k H' => Same H H' ∧ ∃ bs : List Addr, H' l2 = some (.lst (bs.map V.ref)) ∧ All2 (IsTr c_Bid c_Only c_SoMany c_UpTo c_AnyOf c_OneOf (fun x => H x = none ∧ x ≠ l2) H' d) bs (ts.take k)) ⟨same_new h2 _, [], upd_same, All2.nil⟩ (fun k H' _ ⟨s', _⟩ => SqL.of (s' _ _ hl)) ?_ ?_
      · rintro k v H1 hv ⟨s1, bs, e1, hB⟩ K1 K0 k1 k0
        obtain ⟨b, t, rfl, hb, ht, ib⟩ := hPs.at hv
        have mt := tally_mem (List.mem_of_getElem? ht)
        have md := depth_mem (List.mem_of_getElem? ht)
        refine ⟨_, rfl, b, t, A, rfl, ib.same s1, by omega, by omega, fun a H3 s3 it => k1 _ _ _ (s3 _ _ e1) ?_ ⟨(s1.trans s3).upd h2 _, bs ++ [a], by rw [upd_same, List.map_append]; rfl, ?_⟩⟩
        · rw [List.length_map, hB.1, List.length_take]; exact small1000 (by omega)
        · rw [List.take_succ, ht]
          have n2 : ¬ (H l2 = none ∧ l2 ≠ l2) := fun z => z.2 rfl
          exact (hB.imp fun x y _ z => (z.same s3).put (s3 _ _ e1) n2).snoc ((it.imp fun x zs hx _ => ⟨s1.free hx, fun z => by rw [z, e1] at hx; cases hx⟩).put (s3 _ _ e1) n2)
      · rintro H1 ⟨s1, bs, e1, hB⟩
        rw [List.length_map, hPs.1, List.take_length] at hB
        refine fun x dx nx nd _ => ?_
        have sx : Same H1 (upd (upd H1 dx (.own x)) x (.ins c_OneOf dx [])) := ((Same.refl H1).upd nd _).upd nx _
        refine ⟨x, dx, l2, bs, ts, _, d, rfl, upd_same, .inr rfl, sx _ _ e1, hB.imp fun _ _ _ z => z.same sx, by omega, by omega, fun H3 lb s3 h3 => ⟨rfl, ?_⟩⟩
        obtain ⟨S3, nb, it⟩ := made_tr (c_Several := c_Several) (any := false) nx nd s3 h3 hB rfl
        exact q x _ (s1.trans S3) (it.imp fun y zs hy _ => hy.elim (fun z => z.1) (fun z => by rw [z]; exact s1.free nb))
    · refine ⟨_, rfl, p, _, _, _, rfl, rfl, SqT.of hp, rfl, rfl, _, rfl, iteT ?_⟩
      refine ⟨_, rfl, p, _, _, _, rfl, rfl, SqT.of hp, rfl, l, rfl, ⟨_, SqL.of hl⟩, fun l2 h2 => ?_⟩
      refine comp_lst1 (xs := ps.map V.ref) (fun k H' => Same H H' ∧ ∃ bs : List Addr, H' l2 = some (.lst (bs.map V.ref)) ∧ All2 (IsTr c_Bid c_Only c_SoMany c_UpTo c_AnyOf c_OneOf (fun x => H x = none ∧ x ≠ l2) H' d) bs (ts.take k)) ⟨same_new h2 _, [], upd_same, All2.nil⟩ (fun k H' _ ⟨s', _⟩ => SqL.of (s' _ _ hl)) ?_ ?_
      · rintro k v H1 hv ⟨s1, bs, e1, hB⟩ K1 K0 k1 k0
        obtain ⟨b, t, rfl, hb, ht, ib⟩ := hPs.at hv
        have mt := tally_mem (List.mem_of_getElem? ht)
        have md := depth_mem (List.mem_of_getElem? ht)
        refine ⟨_, rfl, b, t, A, rfl, ib.same s1, by omega, by omega, fun a H3 s3 it => k1 _ _ _ (s3 _ _ e1) ?_ ⟨(s1.trans s3).upd h2 _, bs ++ [a], by rw [upd_same, List.map_append]; rfl, ?_⟩⟩
        · rw [List.length_map, hB.1, List.length_take]; exact small1000 (by omega)
        · rw [List.take_succ, ht]
          have n2 : ¬ (H l2 = none ∧ l2 ≠ l2) := fun z => z.2 rfl
          exact (hB.imp fun x y _ z => (z.same s3).put (s3 _ _ e1) n2).snoc ((it.imp fun x zs hx _ => ⟨s1.free hx, fun z => by rw [z, e1] at hx; cases hx⟩).put (s3 _ _ e1) n2)
      · rintro H1 ⟨s1, bs, e1, hB⟩
        rw [List.length_map, hPs.1, List.take_length] at hB
        refine fun x dx nx nd _ => ?_
        have sx : Same H1 (upd (upd H1 dx (.own x)) x (.ins c_AnyOf dx [])) := ((Same.refl H1).upd nd _).upd nx _
        refine ⟨x, dx, l2, bs, ts, _, d, rfl, upd_same, .inl rfl, sx _ _ e1, hB.imp fun _ _ _ z => z.same sx, by omega, by omega, fun H3 lb s3 h3 => ⟨rfl, ?_⟩⟩
        obtain ⟨S3, nb, it⟩ := made_tr (c_Several := c_Several) (any := true) nx nd s3 h3 hB rfl
        exact q x _ (s1.trans S3) (it.imp fun y zs hy _ => hy.elim (fun z => z.1) (fun z => by rw [z]; exact s1.free nb))
theorem fam_L_made {f : Addr} {fd : FuncData} (F : Fun K "_law_made" "_law_made" s_L_made f fd) (m_self : mg "_law_made" = some (.ref f))
    (O_Bid : Own K mg "Bid" c_Bid [])
    (O_Only : Own K mg "Only" c_Only ["bundle", "amount"])
    (O_SoMany : Own K mg "SoMany" c_SoMany ["kind", "least", "amount"])
    (O_UpTo : Own K mg "UpTo" c_UpTo ["kind", "most", "each"])
    (O_Several : Own K mg "Several" c_Several ["bids"])
    (O_AnyOf : Own K mg "AnyOf" c_AnyOf ["bids"])
    (O_OneOf : Own K mg "OneOf" c_OneOf ["bids"])
    (O_Stock : Own K mg "Stock" c_Stock ["numbers", "kinds"])
    (MK_Bid : Make0 K mg "Bid" c_Bid)
    (MK_AnyOf : MakeD P w K mg base 12 "AnyOf" c_AnyOf ["self", "bids"] (sp_M_Several___init__ K c_AnyOf c_Bid c_Only c_SoMany c_UpTo c_Several c_AnyOf c_OneOf c_Stock))
    (MK_OneOf : MakeD P w K mg base 12 "OneOf" c_OneOf ["self", "bids"] (sp_M_Several___init__ K c_OneOf c_Bid c_Only c_SoMany c_UpTo c_Several c_AnyOf c_OneOf c_Stock))
    (MK_Only : MakeD P w K mg base 4 "Only" c_Only ["self", "bundle", "amount"] (sp_M_Only___init__ K c_Only))
    (MK_SoMany : MakeD P w K mg base 4 "SoMany" c_SoMany ["self", "kind", "least", "amount"] (sp_M_SoMany___init__ K c_SoMany))
    (MK_UpTo : MakeD P w K mg base 4 "UpTo" c_UpTo ["self", "kind", "most", "each"] (sp_M_UpTo___init__ K c_UpTo)) : ∀ d, DefOk P w K mg base (14 + d) "_law_made" ["_law_form_here"] [] (spMade c_Bid c_Only c_SoMany c_UpTo c_Several c_AnyOf c_OneOf c_Stock d) := by
  intro d
  induction d with
  | zero =>
    refine F.def_okQ m_self (bnd1 F fun _ _ _ _ _ _ _ => rfl) sc_L_made (fun vs H Q E h => ?_) (fun cdv A outer s H vs Q E hr h => ?_)
    · obtain ⟨p, t, A, rfl, _⟩ := h; rfl
    · obtain ⟨p, t, A, rfl, hT, _⟩ := h; exact hT.elim
  | succ d ih => exact ok_L_made d F m_self O_Bid O_Only O_SoMany O_UpTo O_Several O_AnyOf O_OneOf O_Stock MK_Bid MK_AnyOf MK_OneOf MK_Only MK_SoMany MK_UpTo ih
theorem spokenL_append : ∀ a b : List Tr, spokenL (a ++ b) = spokenL a ||| spokenL b
  | [], b => by show spokenL b = 0 ||| spokenL b; rw [Nat.zero_or]
  | x :: a, b => by show spokenT x ||| spokenL (a ++ b) = (spokenT x ||| spokenL a) ||| spokenL b; rw [spokenL_append a b, Nat.or_assoc]
theorem spokenL_take (ts : List Tr) (i : Nat) (t : Tr) (h : ts[i]? = some t) : spokenL (ts.take (i + 1)) = spokenL (ts.take i) ||| spokenT t := by
  rw [List.take_add_one, h, spokenL_append]
  show _ ||| (spokenT t ||| 0) = _
  rw [Nat.or_zero]
/-- where a grouping stands -/
structure GI (H : Hp) (lf : Addr) (d : Nat) (ts : List Tr) (i : Nat) (H' : Hp) (lr : Addr) (qs rs : List Addr) (us vs : List Tr) : Prop where
  s : Same H H'
  nr : H lr = none
  ne : lf ≠ lr
  ef : H' lf = some (.lst (qs.map V.ref))
  er : H' lr = some (.lst (rs.map V.ref))
  fu : All2 (FT (fun x => x ≠ lf ∧ x ≠ lr) H' (d + 1)) qs us
  fv : All2 (FT (fun x => x ≠ lf ∧ x ≠ lr) H' d) rs vs
  du : depthL us ≤ depthL ts + 1
  dv : depthL vs ≤ depthL ts
  len : us.length + vs.length ≤ i
  tal : tallyL us + tallyL vs ≤ tallyL (ts.take i) + us.length
  spk : spokenL us ||| spokenL vs = spokenL (ts.take i)
section
variable {H H' H'' : Hp} {lf lr lr2 : Addr} {d i : Nat} {ts us vs : List Tr} {qs rs : List Addr}
theorem GI.same (g : GI H lf d ts i H' lr qs rs us vs) (S : Same H' H'') : GI H lf d ts i H'' lr qs rs us vs :=
  ⟨g.s.trans S, g.nr, g.ne, S _ _ g.ef, S _ _ g.er, g.fu.imp fun _ _ _ z => z.same S, g.fv.imp fun _ _ _ z => z.same S, g.du, g.dv, g.len, g.tal, g.spk⟩
theorem GI.row (g : GI H lf d ts i H' lr qs rs us vs) (nf : H lf = none) {A : Addr → Prop} {p : Addr} {t : Tr} (ht : ts[i]? = some t) (hp : FT A H d p t) : GI H lf d ts (i + 1) (upd H' lr (.lst ((rs ++ [p]).map V.ref))) lr qs (rs ++ [p]) us (vs ++ [t]) := by
  have nA : ¬ (lr ≠ lf ∧ lr ≠ lr) := fun z => z.2 rfl
  have hp' : FT (fun x => x ≠ lf ∧ x ≠ lr) H' d p t := (hp.imp fun l zs _ e => ⟨ne_of_none e nf, ne_of_none e g.nr⟩).same g.s
  have md := depth_mem (List.mem_of_getElem? ht)
  refine ⟨g.s.upd g.nr _, g.nr, g.ne, by rw [upd_ne g.ne]; exact g.ef, upd_same, g.fu.imp fun _ _ _ z => z.put g.er nA, (g.fv.imp fun _ _ _ z => z.put g.er nA).snoc (hp'.put g.er nA), g.du, ?_, ?_, ?_, ?_⟩
  · rw [depthL_append]; show max _ (max (depthT t) 0) ≤ _
    have := g.dv; omega
  · have := g.len
    rw [List.length_append]; show us.length + (vs.length + 1) ≤ i + 1; omega
  · have := g.tal
    rw [tallyL_take ts i t ht, tallyL_append]; show tallyL us + (tallyL vs + (tallyT t + 0)) ≤ _; omega
  · have e := g.spk
    rw [spokenL_take ts i t ht, ← e, spokenL_append]
    show _ ||| (_ ||| (spokenT t ||| 0)) = _
    rw [Nat.or_zero, Nat.or_assoc]
theorem FT.step {lr : Addr} {zs zs' : List V} (ef : H' lf = some (.lst zs)) (h2 : upd H' lf (.lst zs') lr2 = none) {d : Nat} {p : Addr} {t : Tr} (h : FT (fun x => x ≠ lf ∧ x ≠ lr) H' d p t) : FT (fun x => x ≠ lf ∧ x ≠ lr2) (upd (upd H' lf (.lst zs')) lr2 (.lst [])) d p t := by
  have n1 : lr2 ≠ lf := fun z => by rw [z, upd_same] at h2; cases h2
  have n2 : H' lr2 = none := by rw [upd_ne n1] at h2; exact h2
  refine FT.move (fun a xs e => ?_) (fun l ys hl e => ?_) d h
  · rw [upd_ne (ne_of_none e n2), upd_ne (fun z => by rw [z, ef] at e; cases e)]; exact e
  · have n3 := ne_of_none e n2
    exact ⟨⟨hl.1, n3⟩, by rw [upd_ne n3, upd_ne hl.1]; exact e⟩
theorem GI.push (g : GI H lf d ts i H' lr qs rs us vs) (nf : H lf = none) {p : Addr} {t : Tr} (hp : ∀ {zs' : List V} {lr2 : Addr}, upd H' lf (.lst zs') lr2 = none → FT (fun x => x ≠ lf ∧ x ≠ lr2) (upd (upd H' lf (.lst zs')) lr2 (.lst [])) (d + 1) p t) (hd : depthT t ≤ depthL ts + 1) (hy : tallyT t ≤ tallyL vs + 1) (h1 : 1 ≤ vs.length) (hk : spokenT t = spokenL vs)
    (h2 : upd H' lf (.lst ((qs ++ [p]).map V.ref)) lr2 = none) : GI H lf d ts i (upd (upd H' lf (.lst ((qs ++ [p]).map V.ref))) lr2 (.lst [])) lr2 (qs ++ [p]) [] (us ++ [t]) [] := by
  have n1 : lr2 ≠ lf := fun z => by rw [z, upd_same] at h2; cases h2
  have n2 : H' lr2 = none := by rw [upd_ne n1] at h2; exact h2
  refine ⟨(g.s.upd nf _).upd (g.s.free n2) _, g.s.free n2, Ne.symm n1, by rw [upd_ne (Ne.symm n1)]; exact upd_same, upd_same, (g.fu.imp fun _ _ _ z => z.step g.ef h2).snoc (hp h2), All2.nil, ?_, Nat.zero_le _, ?_, ?_, ?_⟩
  · rw [depthL_append]; show max _ (max (depthT t) 0) ≤ _
    have := g.du; omega
  · have := g.len
    rw [List.length_append]; show us.length + 1 + 0 ≤ i; omega
  · have := g.tal
    rw [tallyL_append, List.length_append]; show tallyL us + (tallyT t + 0) + 0 ≤ _ + (us.length + 1); omega
  · have e := g.spk
    rw [← e, spokenL_append]
    show (_ ||| (spokenT t ||| 0)) ||| 0 = _
    rw [Nat.or_zero, Nat.or_zero, hk]
end
theorem FT.up {A : Addr → Prop} {H : Hp} : ∀ (d : Nat) {a : Addr} {t : Tr}, FT A H d a t → FT A H (d + 1) a t
  | 0, _, _, h => h.elim
  | d + 1, a, .leaf f, h => h
  | d + 1, a, .node any ts, h => by
    obtain ⟨l, bs, e1, e2, e3, e4⟩ := h
    exact ⟨l, bs, e1, e2, e3, e4.imp fun x y _ z => FT.up d z⟩
theorem ok_L_grouped {f : Addr} {fd : FuncData} (F : Fun K "_law_grouped" "_law_grouped" s_L_grouped f fd) (m_self : mg "_law_grouped" = some (.ref f)) (m_range : mg "range" = none) (m_len : mg "len" = none) (m_divmod : mg "divmod" = none) : DefOk P w K mg base 1 "_law_grouped" ["_law_forms", "_law_cell_here"] [] (sp_L_grouped K) := by
  refine F.def_okQ m_self (bnd2 F fun _ _ _ _ _ _ _ _ => rfl) sc_L_grouped (fun vs H Q E h => ?_) (fun cdv A outer s H vs Q E hr h => ?_)
  · obtain ⟨l, ps, ts, A, d, c, rfl, _⟩ := h; rfl
  obtain ⟨l, ps, ts, A, d, c, rfl, hl, hP, few, q⟩ := h
  refine ⟨_, (R.pss_cons (R.ps_set (i := 2) sc_L_grouped.nd rfl (Or.inl rfl) (R.pe_op op_mod (R.pe_op op_mulB (R.pe_op op_mod (R.pv 1) R.pe_int) R.pe_int) R.pe_int))
    (R.pss_cons (R.ps_set (i := 3) sc_L_grouped.nd rfl (Or.inl rfl) (R.pe_lst R.pa_nil))
    (R.pss_cons (R.ps_set (i := 4) sc_L_grouped.nd rfl (Or.inl rfl) (R.pe_lst R.pa_nil))
    (R.pss_cons (R.ps_for PassesOwn.never rfl (R.pi_range1 rfl m_range (R.pa_c (R.pe_cB call_len_seq rfl m_len PySem.boot_len (R.pa_c (R.pv 0) R.pa_nil)) R.pa_nil)) (R.pg_name (i := 5) sc_L_grouped.nd rfl (Or.inl rfl)) (R.pss_cons (R.ps_expr (R.pe_append (R.pv 4) (R.pa_c (R.pe_ix (R.ixL K) (R.pv 0) (R.pv 5) (fun _ _ => rfl)) R.pa_nil)))
      (R.pss_cons (R.ps_asg (R.pe_cB call_divmod rfl m_divmod (boot_divmod) (R.pa_c (R.pv 2) (R.pa_c R.pe_int R.pa_nil))) (R.pg_tup K 2 rfl (R.pgs_cons (R.pg_name (i := 2) sc_L_grouped.nd rfl (Or.inl rfl)) (R.pgs_cons (R.pg_name (i := 6) sc_L_grouped.nd rfl (Or.inl rfl)) R.pgs_nil))))
      (R.pss_one (R.ps_if (R.pt (R.pw_and (R.pt_cmpR op_eq (R.pv 6) R.pe_int (nomark _)) (R.pw_and1 (R.pt_cmpR op_eq (R.pe_cB call_len_seq rfl m_len PySem.boot_len (R.pa_c (R.pv 4) R.pa_nil)) R.pe_int (nomark _))))) (R.pss_cons (R.ps_expr (R.pe_append (R.pv 3) (R.pa_c (R.pe_ix (R.ixL K) (R.pv 4) R.pe_int (fun _ _ => rfl)) R.pa_nil)))
        (R.pss_one (R.ps_set (i := 4) sc_L_grouped.nd rfl (Or.inl rfl) (R.pe_lst R.pa_nil)))) (R.pss_one (R.ps_if (R.pt (R.pw_or (R.pt_cmpR op_lt (R.pv 6) R.pe_int (nomark _)) (R.pw_or1 (R.pt_cmpR op_eq (R.pv 5) (R.pe_op op_sub (R.pe_cB call_len_seq rfl m_len PySem.boot_len (R.pa_c (R.pv 0) R.pa_nil)) R.pe_int) (nomark _))))) (R.pss_cons (R.ps_expr (R.pe_append (R.pv 3) (R.pa_c (R.pe_tup (R.pa_c (R.pe_ix (R.ixL K) (R.pe_lst (R.pa_c R.pe_str (R.pa_c R.pe_str R.pa_nil))) (R.pe_op (opE op_mod) (R.pv 6) R.pe_int) (fun _ _ => rfl)) (R.pa_c (R.pv 4) R.pa_nil))) R.pa_nil)))
          (R.pss_one (R.ps_set (i := 4) sc_L_grouped.nd rfl (Or.inl rfl) (R.pe_lst R.pa_nil)))) R.pss_nil)))))))
    (R.pss_one (R.ps_ret (R.pv 3))))))), ?_⟩
  refine ⟨_, rfl, _, _, rfl, rfl, (by show (0 : Int) < 1000000007; decide), _, _, rfl, rfl, mulOk_small (by decide), _, _, rfl, rfl, (by show (0 : Int) < 2147483647; decide), ?_⟩
  refine ⟨(by show 0 ≤ sizeLine; decide), fun lf hf => ⟨(by show 0 ≤ sizeLine; decide), fun lr hlr => ?_⟩⟩
  have s1 := same_new hf (.lst [])
  have s2 := same_new hlr (.lst [])
  have pl : (ps.map V.ref).length = ts.length := by rw [List.length_map, hP.1]
  refine ⟨_, rfl, l, _, rfl, .inl (SqL.of ((s1.trans s2) _ _ hl)), _, rfl, by omega, by omega, ?_⟩
  rw [Int.toNat_natCast, pl]
  refine for_range (n := ts.length) (lo := 0) (fun i σ H' => ∃ (lr : Addr) (qs rs : List Addr) (us vs : List Tr) (num : Int) (y1 y2 : Option V), GI H lf d ts i H' lr qs rs us vs ∧ σ = [some (.ref l), some (.int c), some (.int num), some (.ref lf), some (.ref lr), y1, y2]) ?_ ?_ ?_
  · have hfr : lf ≠ lr := ne_of_none (upd_same (H := H) (a := lf) (o := .lst [])) hlr
    exact ⟨lr, [], [], [], [], _, _, _, ⟨s1.trans s2, s1.free hlr, hfr, s2 _ _ upd_same, upd_same, All2.nil, All2.nil, Nat.zero_le _, Nat.zero_le _, Nat.le_refl _, Nat.zero_le _, rfl⟩, rfl⟩
  · rintro i σ H1 hi ⟨lr, qs, rs, us, vs, num, y1, y2, g, rfl⟩
    rw [Int.zero_add]
    have hti : ts[i]? = some ts[i] := List.getElem?_eq_getElem hi
    have hpi' : i < ps.length := by rw [hP.1]; exact hi
    have hpi : ps[i]? = some ps[i] := List.getElem?_eq_getElem hpi'
    have g1 := g.row hf hti (hP.2 i _ _ hpi hti)
    have zp : (ps.map V.ref)[i]? = some (V.ref ps[i]) := by rw [List.getElem?_map, hpi]; rfl
    have lrs : rs.length = vs.length := g.fv.1
    have lqs : qs.length = us.length := g.fu.1
    have gl := g.len
    refine ⟨_, rfl, .inl ⟨rfl, _, SqL.of g.er⟩, _, rfl, _, rfl, l, _, _, _, rfl, rfl, SqL.of (g.s _ _ hl), at_nat zp, lr, _, _, rfl, rfl, g.er, by rw [List.length_map]; exact small1000 (by omega), ?_⟩
    have er : rs.map V.ref ++ [V.ref ps[i]] = (rs ++ [ps[i]]).map V.ref := by rw [List.map_append]; rfl
    rw [er]
    generalize upd H1 lr (.lst ((rs ++ [ps[i]]).map V.ref)) = H2 at g1 ⊢
    refine ⟨_, rfl, _, _, rfl, ⟨by decide, by decide⟩, fun pt hpt => ⟨pt, _, rfl, SqT.of upd_same, rfl, _, _, rfl, _, _, rfl, rfl, ?_⟩⟩
    have g2 := g1.same (same_new hpt (.tup [.int (num / 5), .int (num % 5)]))
    generalize upd H2 pt (.tup [.int (num / 5), .int (num % 5)]) = H3 at g2 ⊢
    have lv : (vs ++ [ts[i]]).length = vs.length + 1 := List.length_append
    refine ⟨_, rfl, rfl, _, rfl, ?_⟩
    refine ite2 (fun cw => ?_) (fun _ => iteF ?_)
    · refine ⟨_, rfl, lr, _, rfl, .inl (SqL.of g2.er), rfl, _, rfl, ?_⟩
      refine ite2 (fun c1 => ?_) (fun _ => ?_)
      · -- one alone
        have c1' : V.int ((((rs ++ [ps[i]]).map V.ref).length : Nat) : Int) = V.int 1 := of_decide_eq_true c1
        have c2 : rs = [] := by
          injection c1' with c3
          rw [List.length_map, List.length_append, List.length_singleton] at c3
          exact List.length_eq_zero_iff.mp (by omega)
        have c4 : vs = [] := List.length_eq_zero_iff.mp (by rw [← lrs, c2]; rfl)
        subst c2 c4
        refine ⟨_, rfl, .inl ⟨rfl, _, SqL.of g2.ef⟩, _, rfl, lr, _, _, _, rfl, rfl, SqL.of g2.er, rfl, lf, _, _, rfl, rfl, g2.ef, by rw [List.length_map]; exact small1000 (by omega), ?_⟩
        have eq : qs.map V.ref ++ [V.ref ps[i]] = (qs ++ [ps[i]]).map V.ref := by rw [List.map_append]; rfl
        rw [eq]
        refine ⟨(by show 0 ≤ sizeLine; decide), fun lr2 h2 => ?_⟩
        have f0 := g2.fv.2 0 ps[i] ts[i] rfl rfl
        have md := depth_mem (List.mem_of_getElem? hti)
        exact ⟨lr2, _, [], _, [], _, _, _, g2.push hf (fun z => (FT.up d f0).step g2.ef z) (by omega) (by show tallyT ts[i] ≤ tallyT ts[i] + 0 + 1; omega) (by rw [lv]; omega) (by show spokenT ts[i] = spokenT ts[i] ||| 0; rw [Nat.or_zero]) h2, rfl⟩
      · refine ⟨_, rfl, _, _, rfl, rfl, _, rfl, ?_⟩
        refine ite2 (fun _ => iteT ?_) (fun _ => ?_)
        · have dn : depthL (vs ++ [ts[i]]) ≤ depthL ts := g2.dv
          refine ⟨_, rfl, .inl ⟨rfl, _, SqL.of g2.ef⟩, (by show 2 ≤ sizeLine; decide), fun lw hw => ?_⟩
          have g3 := g2.same (same_new hw (.lst [V.str "any", V.str "one"]))
          have ew : upd H3 lw (.lst [V.str "any", V.str "one"]) lw = some (.lst [V.str "any", V.str "one"]) := upd_same
          generalize upd H3 lw (.lst [V.str "any", V.str "one"]) = H4 at g3 ew ⊢
          obtain ⟨w2, ew2, hw2⟩ := mod_nat (num % 5) 2 (by decide)
          obtain ⟨any, ea⟩ : ∃ any, atI [V.str "any", V.str "one"] (w2 : Int) = some (.str (wordN any)) := by
            rcases (by omega : w2 = 0 ∨ w2 = 1) with e | e <;> subst e
            · exact ⟨true, rfl⟩
            · exact ⟨false, rfl⟩
          refine ⟨_, rfl, _, _, nv w2, rfl, rfl, (by show (0 : Int) < 2; decide), congrArg V.int ew2, lw, _, _, _, rfl, rfl, SqL.of ew, ea, _, rfl, (by show 2 ≤ sizeLine; decide), fun pg hpg => ?_⟩
          have g4 := g3.same (same_new hpg (.tup [.str (wordN any), .ref lr]))
          have epg : upd H4 pg (.tup [.str (wordN any), .ref lr]) pg = some (.tup [.str (wordN any), .ref lr]) := upd_same
          generalize upd H4 pg (.tup [.str (wordN any), .ref lr]) = H5 at g4 epg ⊢
          refine ⟨lf, _, _, rfl, rfl, g4.ef, by rw [List.length_map]; exact small1000 (by omega), ?_⟩
          have eq : qs.map V.ref ++ [V.ref pg] = (qs ++ [pg]).map V.ref := by rw [List.map_append]; rfl
          rw [eq]
          refine ⟨(by show 0 ≤ sizeLine; decide), fun lr2 h2 => ?_⟩
          refine ⟨lr2, _, [], _, [], _, _, _, g4.push (t := .node any (vs ++ [ts[i]])) hf (fun {zs' lr3} z => ?_) (by show 1 + depthL (vs ++ [ts[i]]) ≤ _; omega) (by show 1 + tallyL (vs ++ [ts[i]]) ≤ _; omega) (by rw [lv]; omega) rfl h2, rfl⟩
          have m1 : lr3 ≠ lf := fun y => by rw [y, upd_same] at z; cases z
          have m2 : H5 lr3 = none := by rw [upd_ne m1] at z; exact z
          exact ⟨lr, _, by rw [upd_ne (ne_of_none epg m2), upd_ne (fun y => by rw [y, g4.ef] at epg; cases epg)]; exact epg, ⟨Ne.symm g4.ne, ne_of_none g4.er m2⟩, by rw [upd_ne (ne_of_none g4.er m2), upd_ne (Ne.symm g4.ne)]; exact g4.er, g4.fv.imp fun _ _ _ y => y.step g4.ef z⟩
        · refine ⟨_, rfl, _, rfl, l, _, rfl, .inl (SqL.of (g2.s _ _ hl)), _, _, rfl, rfl, rfl, _, rfl, ?_⟩
          refine ite2 (fun _ => ?_) (fun _ => ?_)
          · have dn : depthL (vs ++ [ts[i]]) ≤ depthL ts := g2.dv
            refine ⟨_, rfl, .inl ⟨rfl, _, SqL.of g2.ef⟩, (by show 2 ≤ sizeLine; decide), fun lw hw => ?_⟩
            have g3 := g2.same (same_new hw (.lst [V.str "any", V.str "one"]))
            have ew : upd H3 lw (.lst [V.str "any", V.str "one"]) lw = some (.lst [V.str "any", V.str "one"]) := upd_same
            generalize upd H3 lw (.lst [V.str "any", V.str "one"]) = H4 at g3 ew ⊢
            obtain ⟨w2, ew2, hw2⟩ := mod_nat (num % 5) 2 (by decide)
            obtain ⟨any, ea⟩ : ∃ any, atI [V.str "any", V.str "one"] (w2 : Int) = some (.str (wordN any)) := by
              rcases (by omega : w2 = 0 ∨ w2 = 1) with e | e <;> subst e
              · exact ⟨true, rfl⟩
              · exact ⟨false, rfl⟩
            refine ⟨_, rfl, _, _, nv w2, rfl, rfl, (by show (0 : Int) < 2; decide), congrArg V.int ew2, lw, _, _, _, rfl, rfl, SqL.of ew, ea, _, rfl, (by show 2 ≤ sizeLine; decide), fun pg hpg => ?_⟩
            have g4 := g3.same (same_new hpg (.tup [.str (wordN any), .ref lr]))
            have epg : upd H4 pg (.tup [.str (wordN any), .ref lr]) pg = some (.tup [.str (wordN any), .ref lr]) := upd_same
            generalize upd H4 pg (.tup [.str (wordN any), .ref lr]) = H5 at g4 epg ⊢
            refine ⟨lf, _, _, rfl, rfl, g4.ef, by rw [List.length_map]; exact small1000 (by omega), ?_⟩
            have eq : qs.map V.ref ++ [V.ref pg] = (qs ++ [pg]).map V.ref := by rw [List.map_append]; rfl
            rw [eq]
            refine ⟨(by show 0 ≤ sizeLine; decide), fun lr2 h2 => ?_⟩
            refine ⟨lr2, _, [], _, [], _, _, _, g4.push (t := .node any (vs ++ [ts[i]])) hf (fun {zs' lr3} z => ?_) (by show 1 + depthL (vs ++ [ts[i]]) ≤ _; omega) (by show 1 + tallyL (vs ++ [ts[i]]) ≤ _; omega) (by rw [lv]; omega) rfl h2, rfl⟩
            have m1 : lr3 ≠ lf := fun y => by rw [y, upd_same] at z; cases z
            have m2 : H5 lr3 = none := by rw [upd_ne m1] at z; exact z
            exact ⟨lr, _, by rw [upd_ne (ne_of_none epg m2), upd_ne (fun y => by rw [y, g4.ef] at epg; cases epg)]; exact epg, ⟨Ne.symm g4.ne, ne_of_none g4.er m2⟩, by rw [upd_ne (ne_of_none g4.er m2), upd_ne (Ne.symm g4.ne)]; exact g4.er, g4.fv.imp fun _ _ _ y => y.step g4.ef z⟩
          · exact ⟨lr, qs, _, us, _, _, _, _, g2, rfl⟩
    · refine ⟨_, rfl, _, _, rfl, rfl, _, rfl, ?_⟩
      refine ite2 (fun _ => iteT ?_) (fun _ => ?_)
      · have dn : depthL (vs ++ [ts[i]]) ≤ depthL ts := g2.dv
        refine ⟨_, rfl, .inl ⟨rfl, _, SqL.of g2.ef⟩, (by show 2 ≤ sizeLine; decide), fun lw hw => ?_⟩
        have g3 := g2.same (same_new hw (.lst [V.str "any", V.str "one"]))
        have ew : upd H3 lw (.lst [V.str "any", V.str "one"]) lw = some (.lst [V.str "any", V.str "one"]) := upd_same
        generalize upd H3 lw (.lst [V.str "any", V.str "one"]) = H4 at g3 ew ⊢
        obtain ⟨w2, ew2, hw2⟩ := mod_nat (num % 5) 2 (by decide)
        obtain ⟨any, ea⟩ : ∃ any, atI [V.str "any", V.str "one"] (w2 : Int) = some (.str (wordN any)) := by
          rcases (by omega : w2 = 0 ∨ w2 = 1) with e | e <;> subst e
          · exact ⟨true, rfl⟩
          · exact ⟨false, rfl⟩
        refine ⟨_, rfl, _, _, nv w2, rfl, rfl, (by show (0 : Int) < 2; decide), congrArg V.int ew2, lw, _, _, _, rfl, rfl, SqL.of ew, ea, _, rfl, (by show 2 ≤ sizeLine; decide), fun pg hpg => ?_⟩
        have g4 := g3.same (same_new hpg (.tup [.str (wordN any), .ref lr]))
        have epg : upd H4 pg (.tup [.str (wordN any), .ref lr]) pg = some (.tup [.str (wordN any), .ref lr]) := upd_same
        generalize upd H4 pg (.tup [.str (wordN any), .ref lr]) = H5 at g4 epg ⊢
        refine ⟨lf, _, _, rfl, rfl, g4.ef, by rw [List.length_map]; exact small1000 (by omega), ?_⟩
        have eq : qs.map V.ref ++ [V.ref pg] = (qs ++ [pg]).map V.ref := by rw [List.map_append]; rfl
        rw [eq]
        refine ⟨(by show 0 ≤ sizeLine; decide), fun lr2 h2 => ?_⟩
        refine ⟨lr2, _, [], _, [], _, _, _, g4.push (t := .node any (vs ++ [ts[i]])) hf (fun {zs' lr3} z => ?_) (by show 1 + depthL (vs ++ [ts[i]]) ≤ _; omega) (by show 1 + tallyL (vs ++ [ts[i]]) ≤ _; omega) (by rw [lv]; omega) rfl h2, rfl⟩
        have m1 : lr3 ≠ lf := fun y => by rw [y, upd_same] at z; cases z
        have m2 : H5 lr3 = none := by rw [upd_ne m1] at z; exact z
        exact ⟨lr, _, by rw [upd_ne (ne_of_none epg m2), upd_ne (fun y => by rw [y, g4.ef] at epg; cases epg)]; exact epg, ⟨Ne.symm g4.ne, ne_of_none g4.er m2⟩, by rw [upd_ne (ne_of_none g4.er m2), upd_ne (Ne.symm g4.ne)]; exact g4.er, g4.fv.imp fun _ _ _ y => y.step g4.ef z⟩
      · refine ⟨_, rfl, _, rfl, l, _, rfl, .inl (SqL.of (g2.s _ _ hl)), _, _, rfl, rfl, rfl, _, rfl, ?_⟩
        refine ite2 (fun _ => ?_) (fun _ => ?_)
        · have dn : depthL (vs ++ [ts[i]]) ≤ depthL ts := g2.dv
          refine ⟨_, rfl, .inl ⟨rfl, _, SqL.of g2.ef⟩, (by show 2 ≤ sizeLine; decide), fun lw hw => ?_⟩
          have g3 := g2.same (same_new hw (.lst [V.str "any", V.str "one"]))
          have ew : upd H3 lw (.lst [V.str "any", V.str "one"]) lw = some (.lst [V.str "any", V.str "one"]) := upd_same
          generalize upd H3 lw (.lst [V.str "any", V.str "one"]) = H4 at g3 ew ⊢
          obtain ⟨w2, ew2, hw2⟩ := mod_nat (num % 5) 2 (by decide)
          obtain ⟨any, ea⟩ : ∃ any, atI [V.str "any", V.str "one"] (w2 : Int) = some (.str (wordN any)) := by
            rcases (by omega : w2 = 0 ∨ w2 = 1) with e | e <;> subst e
            · exact ⟨true, rfl⟩
            · exact ⟨false, rfl⟩
          refine ⟨_, rfl, _, _, nv w2, rfl, rfl, (by show (0 : Int) < 2; decide), congrArg V.int ew2, lw, _, _, _, rfl, rfl, SqL.of ew, ea, _, rfl, (by show 2 ≤ sizeLine; decide), fun pg hpg => ?_⟩
          have g4 := g3.same (same_new hpg (.tup [.str (wordN any), .ref lr]))
          have epg : upd H4 pg (.tup [.str (wordN any), .ref lr]) pg = some (.tup [.str (wordN any), .ref lr]) := upd_same
          generalize upd H4 pg (.tup [.str (wordN any), .ref lr]) = H5 at g4 epg ⊢
          refine ⟨lf, _, _, rfl, rfl, g4.ef, by rw [List.length_map]; exact small1000 (by omega), ?_⟩
          have eq : qs.map V.ref ++ [V.ref pg] = (qs ++ [pg]).map V.ref := by rw [List.map_append]; rfl
          rw [eq]
          refine ⟨(by show 0 ≤ sizeLine; decide), fun lr2 h2 => ?_⟩
          refine ⟨lr2, _, [], _, [], _, _, _, g4.push (t := .node any (vs ++ [ts[i]])) hf (fun {zs' lr3} z => ?_) (by show 1 + depthL (vs ++ [ts[i]]) ≤ _; omega) (by show 1 + tallyL (vs ++ [ts[i]]) ≤ _; omega) (by rw [lv]; omega) rfl h2, rfl⟩
          have m1 : lr3 ≠ lf := fun y => by rw [y, upd_same] at z; cases z
          have m2 : H5 lr3 = none := by rw [upd_ne m1] at z; exact z
          exact ⟨lr, _, by rw [upd_ne (ne_of_none epg m2), upd_ne (fun y => by rw [y, g4.ef] at epg; cases epg)]; exact epg, ⟨Ne.symm g4.ne, ne_of_none g4.er m2⟩, by rw [upd_ne (ne_of_none g4.er m2), upd_ne (Ne.symm g4.ne)]; exact g4.er, g4.fv.imp fun _ _ _ y => y.step g4.ef z⟩
        · exact ⟨lr, qs, _, us, _, _, _, _, g2, rfl⟩
  · rintro σ H1 ⟨lr, qs, rs, us, vs, num, y1, y2, g, rfl⟩
    have gt := g.tal
    have gl := g.len
    rw [List.take_length] at gt
    exact ⟨_, rfl, q lf H1 qs us g.s g.ef (g.fu.imp fun _ _ _ z => z.imp fun _ _ _ _ => trivial) g.du (by omega) (by omega) ⟨spokenL vs, by have e := g.spk; rw [List.take_length] at e; exact e⟩⟩
end
end My


set_option Elab.async false
set_option linter.all false
set_option maxRecDepth 100000
set_option maxHeartbeats 4000000
namespace My
open PySem PySem.Spec PyProof.Rows L2 GM
noncomputable def nameOk (l : List Nat) : Bool := (decide (1 ≤ l.length) && decide (l.length ≤ 8)) && l.all fun c => decide (97 ≤ c) && decide (c ≤ 122)
noncomputable def asc (l : List Nat) : Bool := l.all (· < 128)
theorem ok_asc {l : List Nat} (h : nameOk l = true) : asc l = true := by
  unfold nameOk at h
  rw [Bool.and_eq_true] at h
  unfold asc
  rw [List.all_eq_true] at *
  intro c hc
  have z := h.2 c hc
  simp only [Bool.and_eq_true, decide_eq_true_eq] at z ⊢
  omega
theorem ok_len {l : List Nat} (h : nameOk l = true) : 1 ≤ l.length ∧ l.length ≤ 8 := by
  unfold nameOk at h
  simp only [Bool.and_eq_true, decide_eq_true_eq] at h
  exact h.1
theorem one_lt (a b : Nat) : decide ([a] < [b]) = decide (a < b) := by
  by_cases h : a < b
  · rw [decide_eq_true h, decide_eq_true]; exact List.Lex.rel h
  · rw [decide_eq_false h, decide_eq_false]
    intro z
    cases z with
    | rel z => exact h z
    | cons z => cases z
theorem snoc_ind {α : Type} {P : List α → Prop} (h0 : P []) (h1 : ∀ l a, P l → P (l ++ [a])) (l : List α) : P l := by
  have z : ∀ m : List α, P m.reverse := fun m => by
    induction m with
    | nil => exact h0
    | cons a m ih => rw [List.reverse_cons]; exact h1 _ _ ih
  have := z l.reverse
  rwa [List.reverse_reverse] at this
noncomputable abbrev sv (l : List Nat) : V := .str (tx l)
noncomputable def skey (l : List Nat) : Key := Sum.inr (tx l)
theorem skey_inj {l m : List Nat} (h : skey l = skey m) : l = m := tx_inj (Sum.inr.inj h)
noncomputable def numsOf (ns : List (List Nat)) : List (Key × V) := ns.zipIdx.map fun q => (skey q.1, .int (q.2 : Nat))
theorem numsOf_len (ns : List (List Nat)) : (numsOf ns).length = ns.length := by simp [numsOf]
theorem numsOf_snoc (ns : List (List Nat)) (n : List Nat) : numsOf (ns ++ [n]) = numsOf ns ++ [(skey n, .int (ns.length : Nat))] := by simp [numsOf, List.zipIdx_append]
theorem valV_snoc {kvs : List (Key × V)} {k j : Key} {v : V} (h : valV kvs k = none) : valV (kvs ++ [(k, v)]) j = if j = k then some v else valV kvs j := by rw [← putK_new v h, valV_put]
theorem nums_none : ∀ (ns : List (List Nat)) (n : List Nat), ns.Nodup → n ∉ ns → valV (numsOf ns) (skey n) = none := by
  refine snoc_ind (fun n _ _ => rfl) fun ns m ih n hd hn => ?_
  · skip
    rw [List.nodup_append] at hd
    have hm : m ∉ ns := fun z => hd.2.2 m z m (by simp) rfl
    rw [numsOf_snoc, valV_snoc (ih m hd.1 hm)]
    have : n ≠ m := fun z => hn (by simp [z])
    rw [if_neg fun z => this (skey_inj z)]
    exact ih n hd.1 fun z => hn (by simp [z])
/-- the bundle of a kind -/
noncomputable def maskN (ks : List (List Nat)) (k : List Nat) : Nat → Nat
  | 0 => 0
  | i + 1 => if ks[i]? = some k then maskN ks k i ||| 2 ^ i else maskN ks k i
/-- the table of kinds: after i rows -/
noncomputable def KindsAre (kk : List (Key × V)) (ks : List (List Nat)) (i : Nat) : Prop := kk.length ≤ i ∧ ∀ k, valV kk (skey k) = if k ∈ ks.take i then some (nv (maskN ks k i)) else none
theorem kinds0 (ks : List (List Nat)) : KindsAre [] ks 0 := ⟨Nat.le_refl _, fun k => by simp [valV]⟩
theorem mask_out {ks : List (List Nat)} {k : List Nat} : ∀ {i : Nat}, k ∉ ks.take i → maskN ks k i = 0
  | 0, _ => rfl
  | i + 1, h => by
    rw [List.take_add_one] at h
    have h1 : k ∉ ks.take i := fun z => h (by simp [z])
    have h2 : ¬ ks[i]? = some k := fun z => h (by simp [z])
    unfold maskN
    rw [if_neg h2]
    exact mask_out h1
theorem kinds_put {kk : List (Key × V)} {ks : List (List Nat)} {k : List Nat} {i : Nat} (h : KindsAre kk ks i) (hk : ks[i]? = some k) : KindsAre (putK kk (skey k) (nv (maskN ks k i ||| 2 ^ i))) ks (i + 1) := by
  refine ⟨Nat.le_trans (length_putK _ _ _) (by have := h.1; omega), fun j => ?_⟩
  rw [valV_put, List.take_add_one, hk]
  by_cases e : j = k
  · subst e
    rw [if_pos rfl, if_pos (by simp)]
    show _ = some (nv (if ks[i]? = some j then maskN ks j i ||| 2 ^ i else maskN ks j i))
    rw [if_pos hk]
  · rw [if_neg fun z => e (skey_inj z), h.2 j]
    have e2 : (j ∈ ks.take i ++ [k]) ↔ j ∈ ks.take i := by simp [e]
    have e3 : maskN ks j (i + 1) = maskN ks j i := by
      show (if ks[i]? = some j then _ else _) = _
      rw [if_neg]
      rw [hk]; exact fun z => e (Option.some.inj z).symm
    simp only [Option.toList_some, e2, e3]
noncomputable def sp_P_is_name (K : PySem.W.Frag) : Sp := fun vs H Q _ => ∃ x, vs = [x] ∧ ((∃ l, x = sv l ∧ asc l = true ∧ l.length ≤ 1000 ∧ ∀ H', Same H H' → Q (.bl (nameOk l)) H') ∨ (∃ n, KindIs K H x n ∧ n ≠ .str ∧ Q (.bl false) H))
/-- rows of names and kinds -/
noncomputable def RowsAre (_K : PySem.W.Frag) (H : Hp) (r : Addr) (ns ks : List (List Nat)) : Prop := ∃ ps : List Addr, H r = some (.lst (ps.map V.ref)) ∧ ps.length = ns.length ∧ ks.length = ns.length ∧ ∀ (i : Nat) (p : Addr), ps[i]? = some p → ∃ n k, ns[i]? = some n ∧ ks[i]? = some k ∧ H p = some (.tup [sv n, sv k])
noncomputable def Good (ns ks : List (List Nat)) : Prop := ns.length ≤ 6 ∧ (∀ n ∈ ns, nameOk n = true) ∧ ns.Nodup ∧ (∀ k ∈ ks, nameOk k = true)
noncomputable def fsStock (d1 d2 : Addr) : List (Str × V) := putF "kinds" (.ref d2) (putF "numbers" (.ref d1) [])
noncomputable def IsStock (c : Addr) (H : Hp) (a : Addr) (ns ks : List (List Nat)) : Prop := ∃ dx d1 d2 kk, H a = some (.ins c dx (fsStock d1 d2)) ∧ H d1 = some (.dK (numsOf ns)) ∧ H d2 = some (.dK kk) ∧ KindsAre kk ks ks.length ∧ ks.length = ns.length ∧ Good ns ks
theorem IsStock.same {c : Addr} {H H' : Hp} {a : Addr} {ns ks : List (List Nat)} (S : Same H H') (h : IsStock c H a ns ks) : IsStock c H' a ns ks := by
  obtain ⟨dx, d1, d2, kk, h1, h2, h3, r⟩ := h
  exact ⟨dx, d1, d2, kk, S _ _ h1, S _ _ h2, S _ _ h3, r⟩
noncomputable def But (a : Addr) (H H' : Hp) : Prop := ∀ b o, b ≠ a → H b = some o → H' b = some o
noncomputable def sp_M_Stock___init__ (K : PySem.W.Frag) (c : Addr) : Sp := fun vs H Q _ => ∃ (a dx r : Addr) (ns ks : List (List Nat)), vs = [.ref a, .ref r] ∧ H a = some (.ins c dx []) ∧ RowsAre K H r ns ks ∧ Good ns ks ∧ ∀ H', But a H H' → IsStock c H' a ns ks → Q .non H'
noncomputable def sp_M_Stock_names (_K : PySem.W.Frag) (c : Addr) : Sp := fun vs H Q _ => ∃ a ns ks, vs = [.ref a] ∧ IsStock c H a ns ks ∧ ∀ l, H l = none → Q (.ref l) (upd H l (.lst (ns.map sv)))
section
variable {P : Program} {w : World} {K : PySem.W.Frag} {mg : Str → Option Value} {base : Heap}
theorem len_le {l : List Nat} (h : l.length ≤ 1000) : (tx l).length ≤ sizeLine := by rw [tx_len, sizeLine_eq]; omega
theorem ok_P_is_name {f : Addr} {fd : FuncData} (F : Fun K "is_name" "is_name" s_P_is_name f fd) (m_self : mg "is_name" = some (.ref f)) (m_all : mg "all" = none) (m_isinstance : mg "isinstance" = none) (m_str : mg "str" = none) (m_len : mg "len" = none) : DefOk P w K mg base 1 "is_name" ["thing"] [] (sp_P_is_name K) := by
  refine F.def_okQ m_self (bnd1 F fun _ _ _ _ _ _ _ => rfl) sc_P_is_name (fun vs H Q E h => ?_) (fun cdv A outer s H vs Q E hr h => ?_)
  · obtain ⟨x, rfl, _⟩ := h; rfl
  obtain ⟨x, rfl, h⟩ := h
  refine ⟨_, (R.pss_cons (R.ps_if (R.pt (R.pw_or (R.pt_not (R.pt_val (R.pe_isi .str rfl m_isinstance rfl m_str (R.pv 0)))) (R.pw_or1 (R.pt_not (R.pt_chain op_le op_le R.pe_int (R.pe_cB call_len_str rfl m_len PySem.boot_len (R.pa_c (R.pv 0) R.pa_nil)) R.pe_int))))) (R.pss_one (R.ps_ret R.pe_bl)) R.pss_nil)
    (R.pss_one (R.ps_ret (R.pe_cB (call_allL rfl) rfl m_all (boot_all) (R.pa_c (R.pe_comp (defScope s_P_is_name) ["thing"] ["sign"] [] [] rfl rfl rfl ⟨s.heap.objs.size + 1, rfl⟩ rfl rfl (by decide +kernel) (R.pi_str (R.pv 0)) (fun C s2 H2 fp => (R.pg_name (i := 0) (show List.Nodup (["sign"] : List Str) from by decide +kernel) rfl (Or.inl rfl))) (fun C s2 H2 fp => R.pf_nil) (fun C s2 H2 fp => (R.pe_chain op_le_str op_le_str R.pe_str (R.pv 0) R.pe_str))) R.pa_nil))))), ?_⟩
  rcases h with ⟨l, rfl, hA, hz, q⟩ | ⟨n, hk, hn, q⟩
  · have e0 : ((tx l).length : Int) = (l.length : Int) := by rw [tx_len]
    refine ⟨_, rfl, sv l, .str, rfl, .str _, _, rfl, iteF ⟨_, rfl, tx l, rfl, len_le hz, 1, _, rfl, rfl, _, rfl, ite2 (fun c => ?_) (fun c => ?_)⟩⟩
    · have c1 : (1 : Int) ≤ ((tx l).length : Int) := of_decide_eq_true c
      refine ⟨_, _, rfl, rfl, _, rfl, ite2 (fun c2 => ?_) (fun c2 => ?_)⟩
      · have c3 : ¬ ((tx l).length : Int) ≤ 8 := by simpa using c2
        have z := q H (Same.refl _)
        have e : nameOk l = false := by unfold nameOk; rw [decide_eq_false (show ¬ l.length ≤ 8 by omega), Bool.and_false, Bool.false_and]
        rw [e] at z; exact z
      · have c3 : ((tx l).length : Int) ≤ 8 := by simpa using c2
        refine ⟨_, rfl, l, rfl, hA, fun p hp => ?_⟩
        refine comp_str_map l (fun _ => true) (fun c => .bl (decide (97 ≤ c) && decide (c ≤ 122))) (by omega) hp (fun x hx H2 s2 C k => k H2 (Same.refl _)) (fun x hx _ H2 s2 C k => ?_) (fun H2 s2 e2 => ?_)
        · have ea : (Str.ofString "a").cps.toList = [97] := by decide
          have ez : (Str.ofString "z").cps.toList = [122] := by decide
          refine ⟨_, rfl, _, _, rfl, rfl, _, rfl, ?_⟩
          rw [tx_list, ea, one_lt]
          by_cases h1 : x < 97
          · rw [decide_eq_true h1]
            refine iteF ?_
            have z := k H2 (Same.refl _)
            rw [decide_eq_false (show ¬ 97 ≤ x by omega), Bool.false_and] at z
            exact z
          · rw [decide_eq_false h1]
            refine iteT ⟨_, _, rfl, rfl, ?_⟩
            have z := k H2 (Same.refl _)
            rw [decide_eq_true (show 97 ≤ x by omega), Bool.true_and] at z
            rw [tx_list, ez, one_lt]
            have e3 : (!decide (122 < x)) = decide (x ≤ 122) := by
              by_cases h2 : x ≤ 122
              · rw [decide_eq_true h2, decide_eq_false (by omega)]; rfl
              · rw [decide_eq_false h2, decide_eq_true (by omega)]; rfl
            rw [e3]
            exact z
        · have e3 : H2 p = some (.lst ((l.map fun c => decide (97 ≤ c) && decide (c ≤ 122)).map V.bl)) := by
            rw [e2, List.filter_eq_self.mpr (fun _ _ => rfl), List.map_map]; rfl
          refine ⟨p, _, rfl, SqL.of e3, ?_⟩
          have z := q H2 s2
          unfold nameOk at z
          rw [decide_eq_true (show 1 ≤ l.length by omega), decide_eq_true (show l.length ≤ 8 by omega), Bool.true_and, Bool.true_and] at z
          rw [List.all_map]
          exact z
    · have c1 : ¬ (1 : Int) ≤ ((tx l).length : Int) := by simpa using c
      refine ⟨_, rfl, iteT ?_⟩
      have z := q H (Same.refl _)
      have e : nameOk l = false := by unfold nameOk; rw [decide_eq_false (show ¬ 1 ≤ l.length by omega), Bool.false_and, Bool.false_and]
      rw [e] at z; exact z
  · have e : isN n .str = false := by cases n <;> first | rfl | exact absurd rfl hn
    refine ⟨_, rfl, x, n, rfl, hk, _, rfl, ?_⟩
    rw [e]
    exact iteT q
theorem fs_numbers (d1 d2 : Addr) : (fsStock d1 d2).lookup ("numbers" : Str) = some (V.ref d1) := by
  unfold fsStock
  rw [lookup_putF, if_neg (by decide), lookup_putF, if_pos rfl]
theorem fs_kinds (d1 d2 : Addr) : (fsStock d1 d2).lookup ("kinds" : Str) = some (V.ref d2) := by
  unfold fsStock
  rw [lookup_putF, if_pos rfl]
theorem ok_M_Stock_names {f : Addr} {fd : FuncData} (F : Fun K "names" "Stock.names" s_M_Stock_names f fd) (m_list : mg "list" = none)
    (O_Bid : Own K mg "Bid" c_Bid [])
    (O_Only : Own K mg "Only" c_Only ["bundle", "amount"])
    (O_SoMany : Own K mg "SoMany" c_SoMany ["kind", "least", "amount"])
    (O_UpTo : Own K mg "UpTo" c_UpTo ["kind", "most", "each"])
    (O_Several : Own K mg "Several" c_Several ["bids"])
    (O_AnyOf : Own K mg "AnyOf" c_AnyOf ["bids"])
    (O_OneOf : Own K mg "OneOf" c_OneOf ["bids"])
    (O_Stock : Own K mg "Stock" c_Stock ["numbers", "kinds"]) : FnOk P w K mg base CX0 1 f fd ["self"] (sp_M_Stock_names K c_Stock) := by
  refine F.okQ sc_M_Stock_names (fun vs H Q E h => ?_) (fun cdv A outer s H vs Q E hr h => ?_)
  · obtain ⟨a, ns, ks, rfl, _⟩ := h; rfl
  obtain ⟨a, ns, ks, rfl, ⟨dx, d1, d2, kk, h1, h2, h3, hk, hl, hg⟩, q⟩ := h
  refine ⟨_, (R.pss_one (R.ps_ret (R.pe_cTy (call_list_dk rfl) rfl m_list (boot_list) (R.pa_c (R.pe_fld K (R.pv 0)) R.pa_nil)))), ?_⟩
  refine ⟨_, rfl, a, c_Stock, dx, _, .ref d1, rfl, h1, O_Stock.cls, O_Stock.no _ (by simp), fs_numbers d1 d2, ⟨d1, _, rfl, h2, fun l hl => ?_⟩⟩
  have e : ((numsOf ns).map fun q => kV q.1) = ns.map sv := by
    unfold numsOf
    rw [List.map_map]
    have e2 : ((fun q : Key × V => kV q.1) ∘ fun q : List Nat × Nat => (skey q.1, V.int (q.2 : Nat))) = sv ∘ Prod.fst := rfl
    rw [e2, ← List.map_map, List.zipIdx_map_fst]
  rw [e]; exact q l hl
theorem But.same {a : Addr} {H H' H2 : Hp} (h : But a H H') (S : Same H' H2) : But a H H2 := fun b o n e => S _ _ (h b o n e)
theorem But.put {a b : Addr} {o : HO} {H H' : Hp} (h : But a H H') (n : H b = none) : But a H (upd H' b o) := fun c u e1 e2 => by
  rw [upd_ne (ne_of_none e2 n)]; exact h c u e1 e2
theorem But.self {a : Addr} {o : HO} {H H' : Hp} (h : But a H H') : But a H (upd H' a o) := fun c u e1 e2 => by rw [upd_ne e1]; exact h c u e1 e2
theorem small_dict {n : Nat} (h : n ≤ 6) : n < sizeLine := by rw [sizeLine_eq]; omega
/-- where the loop over the rows stands -/
noncomputable def RowP (H : Hp) (c a r dx d1 d2 : Addr) (ns ks : List (List Nat)) (i : Nat) (σ : L2.St) (Hc : Hp) : Prop :=
  (∃ x y z u, σ = [some (.ref a), some (.ref r), x, y, z, u]) ∧ But a H Hc ∧ Hc a = some (.ins c dx (fsStock d1 d2)) ∧ Hc d1 = some (.dK (numsOf (ns.take i))) ∧ ∃ kk, Hc d2 = some (.dK kk) ∧ KindsAre kk ks i
theorem RowP.same {H : Hp} {c a r dx d1 d2 : Addr} {ns ks : List (List Nat)} {i : Nat} {σ : L2.St} {Hc Hd : Hp} (S : Same Hc Hd) (h : RowP H c a r dx d1 d2 ns ks i σ Hc) : RowP H c a r dx d1 d2 ns ks i σ Hd := by
  obtain ⟨h0, h1, h2, h3, kk, h4, h5⟩ := h
  exact ⟨h0, h1.same S, S _ _ h2, S _ _ h3, kk, S _ _ h4, h5⟩
theorem ok_M_Stock___init__ {f : Addr} {fd : FuncData} (F : Fun K "__init__" "Stock.__init__" s_M_Stock___init__ f fd) (m_enumerate : mg "enumerate" = none) (m_len : mg "len" = none)
    (D_P_is_name : DefOk P w K mg base 1 "is_name" ["thing"] [] (sp_P_is_name K))
    (O_Bid : Own K mg "Bid" c_Bid [])
    (O_Only : Own K mg "Only" c_Only ["bundle", "amount"])
    (O_SoMany : Own K mg "SoMany" c_SoMany ["kind", "least", "amount"])
    (O_UpTo : Own K mg "UpTo" c_UpTo ["kind", "most", "each"])
    (O_Several : Own K mg "Several" c_Several ["bids"])
    (O_AnyOf : Own K mg "AnyOf" c_AnyOf ["bids"])
    (O_OneOf : Own K mg "OneOf" c_OneOf ["bids"])
    (O_Stock : Own K mg "Stock" c_Stock ["numbers", "kinds"]) : FnOk P w K mg base CX0 4 f fd ["self", "rows"] (sp_M_Stock___init__ K c_Stock) := by
  refine F.okQ sc_M_Stock___init__ (fun vs H Q E h => ?_) (fun cdv A outer s H vs Q E hr h => ?_)
  · obtain ⟨a, dx, r, ns, ks, rfl, _⟩ := h; rfl
  obtain ⟨a, dx, r, ns, ks, rfl, ha, RW, G, q⟩ := h
  refine ⟨_, (R.pss_cons (R.ps_if (R.pt_cmpR op_gt (R.pe_cB call_len_seq rfl m_len PySem.boot_len (R.pa_c (R.pv 1) R.pa_nil)) R.pe_int (nomark _)) (R.pss_one R.ps_never) R.pss_nil)
    (R.pss_cons (R.ps_fld (R.pv 0) R.pe_dnewK)
    (R.pss_cons (R.ps_fld (R.pv 0) R.pe_dnewK)
    (R.pss_one (R.ps_for PassesOwn.never rfl (R.pi_enum rfl m_enumerate (R.pa_c (R.pv 1) R.pa_nil)) (R.pg_tup K 2 rfl (R.pgs_cons (R.pg_name (i := 2) sc_M_Stock___init__.nd rfl (Or.inl rfl)) (R.pgs_cons (R.pg_name (i := 3) sc_M_Stock___init__.nd rfl (Or.inl rfl)) R.pgs_nil))) (R.pss_cons (R.ps_set (i := 4) sc_M_Stock___init__.nd rfl (Or.inl rfl) (R.pe_ix (R.ixT K) (R.pv 3) R.pe_int (fun _ _ => rfl)))
      (R.pss_cons (R.ps_set (i := 5) sc_M_Stock___init__.nd rfl (Or.inl rfl) (R.pe_ix (R.ixT K) (R.pv 3) R.pe_int (fun _ _ => rfl)))
      (R.pss_cons (R.ps_if (R.pt (R.pw_or (R.pt_not (R.pt_val (R.pe_callD D_P_is_name hr (by first | decide | omega) rfl (R.pa_c (R.pv 4) R.pa_nil)))) (R.pw_or1 (R.pt_cmpR (op_din hr.units) (R.pv 4) (R.pe_fld K (R.pv 0)) (by with_unfolding_all rfl))))) (R.pss_one R.ps_never) R.pss_nil)
      (R.pss_cons (R.ps_if (R.pt_not (R.pt_val (R.pe_callD D_P_is_name hr (by first | decide | omega) rfl (R.pa_c (R.pv 5) R.pa_nil)))) (R.pss_one R.ps_never) R.pss_nil)
      (R.pss_cons (R.ps_dput hr.units (R.pe_fld K (R.pv 0)) (R.pv 4) (R.pv 2))
      (R.pss_one (R.ps_dput hr.units (R.pe_fld K (R.pv 0)) (R.pv 5) (R.pe_op op_orN (R.pe_dget2 hr.units (R.pe_fld K (R.pv 0)) (R.pv 5) R.pe_int) (R.pe_op op_shlN R.pe_int (R.pv 2))))))))))))))), ?_⟩
  obtain ⟨ps, hS, hl1, hl2, hrow⟩ := id RW
  refine ⟨_, rfl, r, _, rfl, .inl (SqL.of hS), _, _, rfl, rfl, _, rfl, ite2 (fun c => ?_) (fun _ => ?_)⟩
  · have c2 : (6 : Int) < (((ps.map V.ref).length : Nat) : Int) := of_decide_eq_true c
    rw [List.length_map, hl1] at c2
    have := G.1
    omega
  refine fun d1 hd1 => ⟨_, rfl, a, c_Stock, dx, [], rfl, same_new hd1 _ _ _ ha, O_Stock.cls, O_Stock.no _ (by simp), by decide, fun d2 hd2 => ⟨_, rfl, a, c_Stock, dx, _, rfl, ?_, O_Stock.cls, O_Stock.no _ (by simp), put1 "numbers" (.ref d1), ?_⟩⟩
  · rw [upd_ne (ne_of_none upd_same hd2)]; exact upd_same
  have n1 : d1 ≠ a := fun z => by subst z; rw [ha] at hd1; cases hd1
  have n2 : d2 ≠ a := fun z => by subst z; rw [upd_same] at hd2; cases hd2
  have n12 : d2 ≠ d1 := fun z => by subst z; rw [upd_ne n1, upd_same] at hd2; cases hd2
  have e2 : H d2 = none := by rw [upd_ne n2, upd_ne n12] at hd2; exact hd2
  have base : RowP H c_Stock a r dx d1 d2 ns ks 0 [some (.ref a), some (.ref r), none, none, none, none] (upd (upd (upd (upd H d1 (.dK [])) a (.ins c_Stock dx (putF "numbers" (.ref d1) []))) d2 (.dK [])) a (.ins c_Stock dx (putF "kinds" (.ref d2) (putF "numbers" (.ref d1) [])))) := by
    refine ⟨⟨_, _, _, _, rfl⟩, ?_, upd_same, ?_, [], ?_, kinds0 ks⟩
    · refine But.self (But.put (But.self (But.put (fun b o _ e => e) hd1)) e2)
    · rw [upd_ne n1, upd_ne (Ne.symm n12), upd_ne n1, upd_same]; rfl
    · rw [upd_ne n2, upd_same]
  have hr0 : upd (upd (upd (upd H d1 (.dK [])) a (.ins c_Stock dx (putF "numbers" (.ref d1) []))) d2 (.dK [])) a (.ins c_Stock dx (putF "kinds" (.ref d2) (putF "numbers" (.ref d1) []))) r = some (.lst (ps.map V.ref)) := base.2.1 _ _ (fun z => by subst z; rw [ha] at hS; cases hS) hS
  refine ⟨_, rfl, r, rfl, ⟨_, SqL.of hr0⟩, for_enum (xs := ps.map V.ref) (RowP H c_Stock a r dx d1 d2 ns ks) base (fun i σ Hc _ h => SqL.of (h.2.1 _ _ (fun z => by subst z; rw [ha] at hS; cases hS) hS)) (fun i x p σ Hc hx hP hp => ?_) (fun σ Hc h => ?_)⟩
  · rw [List.getElem?_map] at hx
    obtain ⟨qd, hqd, rfl⟩ := Option.map_eq_some_iff.mp hx
    obtain ⟨n, k, hn, hk, hrw⟩ := hrow i qd hqd
    have hi : i < ns.length := (List.getElem?_eq_some_iff.mp hn).1
    have hno : nameOk n = true := G.2.1 n (List.mem_of_getElem? hn)
    have hko : nameOk k = true := G.2.2.2 k (List.mem_of_getElem? hk)
    have hout : n ∉ ns.take i := fun z => by
      obtain ⟨j, hj, e⟩ := List.getElem_of_mem z
      have hj2 : j < i := by rw [List.length_take] at hj; omega
      rw [List.getElem_take] at e
      have := (List.getElem?_eq_some_iff.mp hn).2
      exact absurd ((List.getElem_inj G.2.2.1).mp (e.trans this.symm)) (by omega)
    have hv : valV (numsOf (ns.take i)) (skey n) = none := nums_none _ n (G.2.2.1.sublist (List.take_sublist _ _)) hout
    have nq : qd ≠ a := fun z => by subst z; rw [ha] at hrw; cases hrw
    have hP' := hP.same (same_new hp (.tup [.int (i : Nat), .ref qd]))
    obtain ⟨⟨x, y, z, u, rfl⟩, hB, h1, h2, kk, h3, h4⟩ := hP'
    have hpp : upd Hc p (.tup [.int (i : Nat), .ref qd]) p = some (.tup [.int (i : Nat), .ref qd]) := upd_same
    generalize upd Hc p (.tup [.int (i : Nat), .ref qd]) = Hd at hB h1 h2 h3 hpp ⊢
    have hq : Hd qd = some (.tup [sv n, sv k]) := hB _ _ nq hrw
    refine ⟨p, _, rfl, SqT.of hpp, rfl, _, _, rfl, _, _, rfl, rfl, ?_⟩
    refine ⟨_, rfl, qd, [sv n, sv k], 0, sv n, rfl, rfl, SqT.of hq, rfl, ?_⟩
    refine ⟨_, rfl, qd, [sv n, sv k], 1, sv k, rfl, rfl, SqT.of hq, rfl, ?_⟩
    refine ⟨_, rfl, _, rfl, .inl ⟨n, rfl, ok_asc hno, by have := (ok_len hno).2; omega, fun H1 s1 => ?_⟩⟩
    rw [hno]
    refine ⟨_, rfl, iteF ⟨_, rfl, _, rfl, a, c_Stock, dx, _, .ref d1, rfl, s1 _ _ h1, O_Stock.cls, O_Stock.no _ (by simp), fs_numbers d1 d2, d1, _, rfl, DGet.k (k := skey n) (s1 _ _ h2), ?_⟩⟩
    rw [hv]
    refine ⟨_, rfl, iteF ?_⟩
    refine ⟨_, rfl, _, rfl, .inl ⟨k, rfl, ok_asc hko, by have := (ok_len hko).2; omega, fun H2 s2 => ?_⟩⟩
    rw [hko]
    refine ⟨_, rfl, iteF ?_⟩
    have s12 := s1.trans s2
    have g1 := s12 _ _ h1
    have g2 := s12 _ _ h2
    have g3 := s12 _ _ h3
    have gB := hB.same s12
    refine ⟨_, rfl, _, rfl, a, c_Stock, dx, _, .ref d1, rfl, g1, O_Stock.cls, O_Stock.no _ (by simp), fs_numbers d1 d2, _, rfl, d1, _, rfl, DPut.k (k := skey n) g2 (by rw [numsOf_len, List.length_take]; exact small_dict (by have := G.1; omega)), ?_⟩
    rw [putK_new _ hv]
    have e1 : numsOf (ns.take i) ++ [(skey n, V.int (i : Nat))] = numsOf (ns.take (i + 1)) := by
      rw [List.take_add_one, hn]
      show _ = numsOf (ns.take i ++ [n])
      rw [numsOf_snoc, List.length_take, Nat.min_eq_left (Nat.le_of_lt hi)]
    rw [e1]
    have k1 : upd H2 d1 (.dK (numsOf (ns.take (i + 1)))) a = some (.ins c_Stock dx (fsStock d1 d2)) := by rw [upd_ne (Ne.symm n1)]; exact g1
    have k3 : upd H2 d1 (.dK (numsOf (ns.take (i + 1)))) d2 = some (.dK kk) := by rw [upd_ne n12]; exact g3
    refine ⟨_, rfl, a, c_Stock, dx, _, .ref d2, rfl, k1, O_Stock.cls, O_Stock.no _ (by simp), fs_kinds d1 d2, d2, rfl, .inl ⟨_, .inl k3⟩, _, rfl, _, DGet.k (k := skey k) k3, ?_⟩
    have eo : ((valV kk (skey k)).getD (.int 0)) = nv (maskN ks k i) := by
      rw [h4.2 k]
      by_cases hm : k ∈ ks.take i
      · rw [if_pos hm]; rfl
      · rw [if_neg hm, mask_out hm]; rfl
    rw [eo]
    refine ⟨_, rfl, i, rfl, rfl, by have := G.1; omega, _, _, rfl, rfl, ?_⟩
    refine ⟨_, rfl, a, c_Stock, dx, _, .ref d2, rfl, k1, O_Stock.cls, O_Stock.no _ (by simp), fs_kinds d1 d2, _, rfl, d2, _, rfl, DPut.k (k := skey k) k3 (small_dict (by have := h4.1; have := G.1; omega)), ?_⟩
    refine ⟨⟨_, _, _, _, rfl⟩, (gB.put hd1).put e2, ?_, ?_, _, upd_same, kinds_put h4 hk⟩
    · rw [upd_ne (Ne.symm n2)]; exact k1
    · rw [upd_ne (Ne.symm n12), upd_same]
  · obtain ⟨_, hB, h1, h2, kk, h3, h4⟩ := h
    rw [List.length_map, hl1] at h2 h4
    refine q Hc hB ⟨dx, d1, d2, kk, h1, ?_, h3, by rw [hl2]; exact h4, hl2, G⟩
    rw [List.take_length] at h2; exact h2
end
noncomputable def low (l : List Nat) : Bool := l.all fun c => decide (97 ≤ c) && decide (c ≤ 122)
theorem nameOk_of {l : List Nat} (h1 : 1 ≤ l.length) (h2 : l.length ≤ 8) (h : low l = true) : nameOk l = true := by
  unfold nameOk
  rw [decide_eq_true h1, decide_eq_true h2]
  exact h
theorem low_app {l m : List Nat} (h : low l = true) (h2 : low m = true) : low (l ++ m) = true := by unfold low at *; rw [List.all_append, h, h2]; rfl
theorem low_sub {l m : List Nat} (h : low l = true) (hs : ∀ c ∈ m, c ∈ l) : low m = true := by
  unfold low at *
  rw [List.all_eq_true] at *
  exact fun c hc => h c (hs c hc)
noncomputable def itc (c : Int) : Nat → Int
  | 0 => c
  | k + 1 => itc c k / 26
noncomputable def dig (c : Int) (k : Nat) : Nat := 97 + (itc c k % 26).toNat
noncomputable def wordL (c : Int) (n : Nat) : List Nat := (List.range n).map (dig c)
theorem wordL_len (c : Int) (n : Nat) : (wordL c n).length = n := by simp [wordL]
theorem dig_low (c : Int) (k : Nat) : 97 ≤ dig c k ∧ dig c k ≤ 122 := by
  unfold dig
  have h1 := Int.emod_nonneg (itc c k) (show (26 : Int) ≠ 0 by decide)
  have h2 := Int.emod_lt_of_pos (itc c k) (show (0 : Int) < 26 by decide)
  omega
theorem wordL_low (c : Int) (n : Nat) : low (wordL c n) = true := by
  unfold low wordL
  rw [List.all_eq_true]
  intro x hx
  obtain ⟨k, _, rfl⟩ := List.mem_map.mp hx
  have := dig_low c k
  simp only [Bool.and_eq_true, decide_eq_true_eq]; exact this
theorem wordL_succ (c : Int) (n : Nat) : wordL c (n + 1) = wordL c n ++ [dig c n] := by simp [wordL, List.range_succ]
theorem wordL_ok {c : Int} {n : Nat} (h1 : 1 ≤ n) (h2 : n ≤ 8) : nameOk (wordL c n) = true := nameOk_of (by rw [wordL_len]; exact h1) (by rw [wordL_len]; exact h2) (wordL_low c n)
noncomputable def GoodN (ns : List (List Nat)) (m : Nat) : Prop := ns.length = m ∧ (∀ n ∈ ns, nameOk n = true) ∧ ns.Nodup
theorem GoodN.reverse {ns : List (List Nat)} {m : Nat} (h : GoodN ns m) : GoodN ns.reverse m := ⟨by rw [List.length_reverse]; exact h.1, fun n hn => h.2.1 n (List.mem_reverse.mp hn), by rw [List.nodup_iff_pairwise_ne, List.pairwise_reverse]; exact (List.nodup_iff_pairwise_ne.mp h.2.2).imp fun h e => h e.symm⟩
theorem good_map {f : Nat → List Nat} {m : Nat} (h1 : ∀ k, k < m → nameOk (f k) = true) (h2 : ∀ i j, i < m → j < m → f i = f j → i = j) : GoodN ((List.range m).map f) m := by
  refine ⟨by simp, fun n hn => ?_, ?_⟩
  · obtain ⟨k, hk, rfl⟩ := List.mem_map.mp hn
    exact h1 k (List.mem_range.mp hk)
  · rw [List.nodup_iff_pairwise_ne, List.pairwise_map]
    refine List.Pairwise.imp_of_mem (fun {a b} ha hb hne e => hne (h2 a b (List.mem_range.mp ha) (List.mem_range.mp hb) e)) (List.nodup_iff_pairwise_ne.mp List.nodup_range)
theorem good_pre (b : List Nat) (m : Nat) (hm : m ≤ 6) (hb : b.length = 8) (hl : low b = true) : GoodN ((List.range m).map fun k => b.take (k + 1)) m := by
  refine good_map (fun k hk => nameOk_of (by rw [List.length_take]; omega) (by rw [List.length_take]; omega) (low_sub hl fun c hc => List.mem_of_mem_take hc)) fun i j hi hj e => ?_
  have := congrArg List.length e
  rw [List.length_take, List.length_take] at this
  omega
noncomputable def wds : List (List Nat) := ["up", "to", "of", "for", "each", "any", "one", "nothing"].map fun x : String => (Str.ofString x).cps.toList
noncomputable def goodB (ns : List (List Nat)) (m : Nat) : Bool := decide (ns.length = m) && (ns.all nameOk && decide ns.Nodup)
theorem goodB_ok {ns : List (List Nat)} {m : Nat} (h : goodB ns m = true) : GoodN ns m := by
  unfold goodB at h
  simp only [Bool.and_eq_true, decide_eq_true_eq] at h
  exact ⟨h.1, List.all_eq_true.mp h.2.1, h.2.2⟩
theorem good_wds : ∀ a, a < 8 → ∀ m, m < 7 → goodB (((wds ++ wds).drop a).take m) m = true := by decide +kernel
noncomputable def third (b : List Nat) (size at_ : Nat) (x m : Int) (k : Nat) : List Nat := (b.take at_ ++ wordL (x + (k : Int) * m) 1) ++ (b.drop (at_ + 1)).take (size - (at_ + 1))
theorem good_third {b : List Nat} {size at_ m : Nat} {x st : Int} (hb : b.length = 8) (hl : low b = true) (h1 : 1 ≤ size) (h2 : size ≤ 8) (h3 : at_ < size) (hm : m ≤ 6) (hx : 0 ≤ x ∧ x < 26) (hs : 1 ≤ st ∧ st ≤ 4) :
    GoodN ((List.range m).map (third b size at_ x st)) m := by
  have hlen : ∀ k, (third b size at_ x st k).length = size := fun k => by
    unfold third
    simp only [List.length_append, List.length_take, List.length_drop, wordL_len]
    omega
  refine good_map (fun k hk => nameOk_of (by rw [hlen]; exact h1) (by rw [hlen]; exact h2) ?_) fun i j hi hj e => ?_
  · exact low_app (low_app (low_sub hl fun c hc => List.mem_of_mem_take hc) (wordL_low _ _)) (low_sub hl fun c hc => List.mem_of_mem_drop (List.mem_of_mem_take hc))
  · unfold third at e
    have e1 := (List.append_inj e (by simp [wordL_len])).1
    have e2 := (List.append_inj e1 rfl).2
    have e3 : dig (x + (i : Int) * st) 0 = dig (x + (j : Int) * st) 0 := by
      have : [dig (x + (i : Int) * st) 0] = [dig (x + (j : Int) * st) 0] := e2
      simpa using this
    unfold dig itc at e3
    have b1 := Int.emod_nonneg (x + (i : Int) * st) (show (26 : Int) ≠ 0 by decide)
    have b2 := Int.emod_nonneg (x + (j : Int) * st) (show (26 : Int) ≠ 0 by decide)
    obtain ⟨s1, s2⟩ := hs
    have hst : st = 1 ∨ st = 2 ∨ st = 3 ∨ st = 4 := by omega
    rcases hst with rfl | rfl | rfl | rfl <;> omega
theorem cut_take (l : List Nat) (k : Nat) : cutL l none (some (k : Int)) = l.take k := by
  unfold cutL
  rw [HT.sIx_nat, HT.sIx_none, List.drop_zero, Nat.sub_zero]
  by_cases h : k ≤ l.length
  · rw [Nat.min_eq_left h]
  · rw [Nat.min_eq_right (by omega), List.take_of_length_le (Nat.le_refl _), List.take_of_length_le (by omega)]
theorem cut_mid (l : List Nat) (a b : Nat) (ha : a ≤ l.length) (hb : b ≤ l.length) : cutL l (some (a : Int)) (some (b : Int)) = (l.drop a).take (b - a) := by
  unfold cutL
  rw [HT.sIx_nat, HT.sIx_nat, Nat.min_eq_left ha, Nat.min_eq_left hb]
noncomputable def sp_L_word (_K : PySem.W.Frag) : Sp := fun vs H Q _ => ∃ (c : Int) (n : Nat), vs = [.int c, .int (n : Int)] ∧ n ≤ 8 ∧ ∀ H', Same H H' → Q (sv (wordL c n)) H'
noncomputable def sp_L_names (K : PySem.W.Frag) : Sp := fun vs H Q _ => ∃ (a : Addr) (sc : List Int) (m : Nat), vs = [.ref a, .int (m : Int)] ∧ SqL K H a (sc.map V.int) ∧ m ≤ 6 ∧ ∀ l H' ns, Same H H' → H l = none → H' l = some (.lst (ns.map sv)) → GoodN ns m → Q (.ref l) H'
noncomputable def sp_L_kinds (K : PySem.W.Frag) : Sp := fun vs H Q _ => ∃ (a l : Addr) (sc : List Int) (ns : List (List Nat)), vs = [.ref a, .ref l] ∧ SqL K H a (sc.map V.int) ∧ H l = some (.lst (ns.map sv)) ∧ ns.length ≤ 6 ∧ (∀ n ∈ ns, nameOk n = true) ∧
  ∀ (p : Addr) (H' : Hp) (ks : List (List Nat)), Same H H' → H p = none → H' p = some (.lst (ks.map sv)) → ks.length = ns.length → (∀ k ∈ ks, nameOk k = true) → Q (.ref p) H'
section
variable {P : Program} {w : World} {K : PySem.W.Frag} {mg : Str → Option Value} {base : Heap}
theorem lett_at (i : Nat) (h : i < 26) : atI (Str.ofString "abcdefghijklmnopqrstuvwxyz").cps.toList (i : Int) = some (97 + i) := by
  have z : ∀ i, i < 26 → (Str.ofString "abcdefghijklmnopqrstuvwxyz").cps.toList[i]? = some (97 + i) := by decide +kernel
  exact atI_nat (z i h)
theorem ok_L_word {f : Addr} {fd : FuncData} (F : Fun K "_law_word" "_law_word" s_L_word f fd) (m_self : mg "_law_word" = some (.ref f)) (m_range : mg "range" = none) (m_divmod : mg "divmod" = none) : DefOk P w K mg base 1 "_law_word" ["_law_cell_here", "_law_size"] [] (sp_L_word K) := by
  refine F.def_okQ m_self (bnd2 F fun _ _ _ _ _ _ _ _ => rfl) sc_L_word (fun vs H Q E h => ?_) (fun cdv A outer s H vs Q E hr h => ?_)
  · obtain ⟨c, n, rfl, _⟩ := h; rfl
  obtain ⟨c, n, rfl, hn, q⟩ := h
  refine ⟨_, (R.pss_cons (R.ps_set (i := 2) sc_L_word.nd rfl (Or.inl rfl) R.pe_str)
    (R.pss_cons (R.ps_set (i := 3) sc_L_word.nd rfl (Or.inl rfl) R.pe_str)
    (R.pss_cons (R.ps_for PassesOwn.never rfl (R.pi_range1 rfl m_range (R.pa_c (R.pv 1) R.pa_nil)) (R.pg_name (i := 4) sc_L_word.nd rfl (Or.inl rfl)) (R.pss_cons (R.ps_asg (R.pe_cB call_divmod rfl m_divmod (boot_divmod) (R.pa_c (R.pv 0) (R.pa_c R.pe_int R.pa_nil))) (R.pg_tup K 2 rfl (R.pgs_cons (R.pg_name (i := 0) sc_L_word.nd rfl (Or.inl rfl)) (R.pgs_cons (R.pg_name (i := 5) sc_L_word.nd rfl (Or.inl rfl)) R.pgs_nil))))
      (R.pss_one (R.ps_set (i := 3) sc_L_word.nd rfl (Or.inl rfl) (R.pe_op op_add_str (R.pv 3) (R.pe_ix ix_str (R.pv 2) (R.pv 5) (fun _ _ => rfl)))))))
    (R.pss_one (R.ps_ret (R.pv 3)))))), ?_⟩
  refine ⟨_, rfl, _, rfl, by omega, by omega, ?_⟩
  refine for_range (fun i σ H2 => (∃ x y, σ = [some (.int (itc c i)), some (.int (n : Int)), some (.str "abcdefghijklmnopqrstuvwxyz"), some (sv (wordL c i)), x, y]) ∧ Same H H2) ⟨⟨_, _, rfl⟩, Same.refl _⟩ (fun i σ H2 hi hP => ?_) (fun σ H2 hP => ?_)
  · obtain ⟨⟨x, y, rfl⟩, s2⟩ := hP
    have hi : i < n := by simpa using hi
    refine ⟨_, rfl, _, _, rfl, ⟨by decide, by decide⟩, fun p hp => ⟨p, _, rfl, SqT.of upd_same, rfl, _, _, rfl, _, _, rfl, rfl, ?_⟩⟩
    have b1 := Int.emod_nonneg (itc c i) (show (26 : Int) ≠ 0 by decide)
    have b2 := Int.emod_lt_of_pos (itc c i) (show (0 : Int) < 26 by decide)
    have e : itc c i % 26 = (((itc c i % 26).toNat : Nat) : Int) := by omega
    refine ⟨_, rfl, _, rfl, _, rfl, _, _, dig c i, rfl, rfl, by decide, ?_, _, _, rfl, rfl, ?_, ?_⟩
    · rw [e]; exact lett_at _ (by omega)
    · show (tx (wordL c i)).length + 1 ≤ sizeLine
      rw [tx_len, wordL_len, sizeLine_eq]; omega
    · have e5 : sv (wordL c (i + 1)) = V.str (tx (wordL c i) ++ ⟨#[dig c i]⟩) := by
        show V.str (tx (wordL c (i + 1))) = _
        rw [wordL_succ, ← tx_app]; rfl
      rw [e5]
      exact ⟨⟨_, _, rfl⟩, s2.trans (same_new hp _)⟩
  · obtain ⟨⟨x, y, rfl⟩, s2⟩ := hP
    have e : (((n : Int)).toNat) = n := by simp
    rw [e]
    exact ⟨_, rfl, q H2 s2⟩
theorem len8 {l : List Nat} (h : l.length ≤ 8) : l.length ≤ sizeLine := by rw [sizeLine_eq]; omega
theorem sback {H H' : Hp} {l : Addr} (S : Same H H') (h : H' l = none) : H l = none := by
  cases e : H l with
  | none => rfl
  | some o => rw [S _ _ e] at h; cases h
theorem cutV_nat (xs : List V) (a m : Nat) (h : a + m ≤ xs.length) : cutV xs (some (a : Int)) (some ((a + m : Nat) : Int)) = (xs.drop a).take m := by
  unfold cutV
  rw [HT.sIx_nat, HT.sIx_nat, Nat.min_eq_left (show a ≤ xs.length by omega), Nat.min_eq_left h, Nat.add_sub_cancel_left]
theorem wds_sv : [V.str "up", V.str "to", V.str "of", V.str "for", V.str "each", V.str "any", V.str "one", V.str "nothing"] = wds.map sv := by
  have z : ∀ x : String, sv (Str.ofString x).cps.toList = V.str (Str.ofString x) := fun x => congrArg V.str (tx_of _).symm
  unfold wds
  simp only [List.map_cons, List.map_nil, z]
theorem modn (c : Int) (m : Nat) (h : 0 < m) : ∃ u : Nat, c % (m : Int) = (u : Int) ∧ u < m := by
  have h1 := Int.emod_nonneg c (show (m : Int) ≠ 0 by omega)
  have h2 := Int.emod_lt_of_pos c (show (0 : Int) < (m : Int) by omega)
  exact ⟨(c % (m : Int)).toNat, by omega, by omega⟩
theorem ok_L_names {f : Addr} {fd : FuncData} (F : Fun K "_law_names" "_law_names" s_L_names f fd) (m_self : mg "_law_names" = some (.ref f)) (m_range : mg "range" = none) (m_list : mg "list" = none) (m_reversed : mg "reversed" = none)
    (D_L_cell : DefOk P w K mg base 1 "_law_cell" ["_law_script", "_law_k"] [] (sp_L_cell K))
    (D_L_word : DefOk P w K mg base 1 "_law_word" ["_law_cell_here", "_law_size"] [] (sp_L_word K)) : DefOk P w K mg base 2 "_law_names" ["_law_script", "_law_many"] [] (sp_L_names K) := by
  refine F.def_okQ m_self (bnd2 F fun _ _ _ _ _ _ _ _ => rfl) sc_L_names (fun vs H Q E h => ?_) (fun cdv A outer s H vs Q E hr h => ?_)
  · obtain ⟨a, sc, m, rfl, _⟩ := h; rfl
  obtain ⟨a, sc, m, rfl, hS, hm, q⟩ := h
  refine ⟨_, (R.pss_cons (R.ps_set (i := 2) sc_L_names.nd rfl (Or.inl rfl) (R.pe_op op_mod (R.pe_callD D_L_cell hr (by first | decide | omega) rfl (R.pa_c (R.pv 0) (R.pa_c R.pe_int R.pa_nil))) R.pe_int))
    (R.pss_cons (R.ps_set (i := 3) sc_L_names.nd rfl (Or.inl rfl) (R.pe_callD D_L_cell hr (by first | decide | omega) rfl (R.pa_c (R.pv 0) (R.pa_c R.pe_int R.pa_nil))))
    (R.pss_cons (R.ps_set (i := 4) sc_L_names.nd rfl (Or.inr rfl) (R.pe_callD D_L_word hr (by first | decide | omega) rfl (R.pa_c (R.pe_callD D_L_cell hr (by first | decide | omega) rfl (R.pa_c (R.pv 0) (R.pa_c R.pe_int R.pa_nil))) (R.pa_c R.pe_int R.pa_nil))))
    (R.pss_cons (R.ps_if (R.pt_cmpR op_eq (R.pv 2) R.pe_int (nomark _)) (R.pss_cons (R.ps_compE (i := 5) (defScope s_L_names) ["_law_script", "_law_many", "_law_way", "_law_cell_here", "_law_base", "_law_found", "_law_some", "_law_size", "_law_at", "_law_k", "_law_letter"] ["_law_k"] ["_law_base"] [4] sc_L_names.nd rfl (Or.inl rfl) rfl rfl rfl rfl rfl ⟨s.heap.objs.size + 1, rfl⟩ rfl rfl (by decide +kernel) (R.pi_range1 rfl m_range (R.pa_c (R.pv 1) R.pa_nil)) (fun C s2 H2 fp => (R.pg_name (i := 0) (show List.Nodup (["_law_k", "_law_base"] : List Str) from by decide +kernel) rfl (Or.inl rfl))) (fun C s2 H2 fp => R.pf_nil) (fun C s2 H2 fp => (R.pe_slice sl_str (R.pv 1) R.po_none (R.po_some (R.pe_op op_add (R.pv 0) R.pe_int)))))
      (R.pss_cons (R.ps_if (R.pt_cmpR op_eq (R.pe_op op_mod (R.pv 3) R.pe_int) R.pe_int (nomark _)) (R.pss_one (R.ps_set (i := 5) sc_L_names.nd rfl (Or.inl rfl) (R.pe_listrev rfl rfl m_list rfl m_reversed (R.pv 5)))) R.pss_nil)
      (R.pss_one (R.ps_ret (R.pv 5))))) R.pss_nil)
    (R.pss_cons (R.ps_if (R.pt_cmpR op_eq (R.pv 2) R.pe_int (nomark _)) (R.pss_cons (R.ps_set (i := 6) sc_L_names.nd rfl (Or.inl rfl) (R.pe_op op_rep (R.pe_lst (R.pa_c R.pe_str (R.pa_c R.pe_str (R.pa_c R.pe_str (R.pa_c R.pe_str (R.pa_c R.pe_str (R.pa_c R.pe_str (R.pa_c R.pe_str (R.pa_c R.pe_str R.pa_nil))))))))) R.pe_int))
      (R.pss_one (R.ps_ret (R.pe_slice sl_list (R.pv 6) (R.po_some (R.pe_op (opE op_mod) (R.pv 3) R.pe_int)) (R.po_some (R.pe_op (opE0 op_add) (R.pe_op (opE op_mod) (R.pv 3) R.pe_int) (R.pv 1))))))) R.pss_nil)
    (R.pss_cons (R.ps_set (i := 7) sc_L_names.nd rfl (Or.inl rfl) (R.pe_op (opE0 op_add) R.pe_int (R.pe_op (opE op_mod) (R.pv 3) R.pe_int)))
    (R.pss_cons (R.ps_set (i := 8) sc_L_names.nd rfl (Or.inl rfl) (R.pe_op (opE op_mod) (R.pe_op op_fdiv (R.pv 3) R.pe_int) (R.pv 7)))
    (R.pss_cons (R.ps_set (i := 5) sc_L_names.nd rfl (Or.inl rfl) (R.pe_lst R.pa_nil))
    (R.pss_cons (R.ps_for PassesOwn.never rfl (R.pi_range1 rfl m_range (R.pa_c (R.pv 1) R.pa_nil)) (R.pg_name (i := 9) sc_L_names.nd rfl (Or.inl rfl)) (R.pss_cons (R.ps_set (i := 10) sc_L_names.nd rfl (Or.inl rfl) (R.pe_callD D_L_word hr (by first | decide | omega) rfl (R.pa_c (R.pe_op op_add (R.pe_op op_mod (R.pe_op op_fdiv (R.pv 3) R.pe_int) R.pe_int) (R.pe_op op_mulB (R.pv 9) (R.pe_op op_add R.pe_int (R.pe_op op_mod (R.pe_op op_fdiv (R.pv 3) R.pe_int) R.pe_int)))) (R.pa_c R.pe_int R.pa_nil))))
      (R.pss_one (R.ps_expr (R.pe_append (R.pv 5) (R.pa_c (R.pe_op op_add_str (R.pe_op op_add_str (R.pe_slice sl_str (R.pv 4) R.po_none (R.po_some (R.pv 8))) (R.pv 10)) (R.pe_slice sl_str (R.pv 4) (R.po_some (R.pe_op op_add (R.pv 8) R.pe_int)) (R.po_some (R.pv 7)))) R.pa_nil))))))
    (R.pss_one (R.ps_ret (R.pv 5)))))))))))), ?_⟩
  refine ⟨_, rfl, a, sc, 1, rfl, hS, by decide, fun H1 s1 => ⟨_, _, rfl, rfl, (by show (0 : Int) < 4; decide), ?_⟩⟩
  refine ⟨_, rfl, a, sc, 3, rfl, s1.seq hS, by decide, fun H2 s2 => ?_⟩
  have s12 := s1.trans s2
  refine ⟨_, rfl, a, sc, 2, rfl, s12.seq hS, by decide, fun H3 s3 => ⟨_, 8, rfl, by decide, fun H4 s4 => ?_⟩⟩
  have s14 := s12.trans (s3.trans s4)
  have hb := wordL_len (cellN sc 2) 8
  have hlb := wordL_low (cellN sc 2) 8
  have c0 := cellN_nonneg sc 3
  generalize wordL (cellN sc 2) 8 = b at hb hlb ⊢
  generalize cellN sc 1 % 4 = way
  generalize cellN sc 3 = c at c0 ⊢
  have em : ((m : Int)).toNat = m := by simp
  obtain ⟨u, hu, hu8⟩ := modn c 8 (by decide)
  refine ⟨_, rfl, rfl, _, rfl, ite2 (fun _ => ?_) (fun _ => ?_)⟩
  · refine ⟨_, rfl, (m : Int), rfl, by omega, by omega, fun l hl => ?_⟩
    rw [em]
    refine comp_rng_map (fun _ => true) (fun k => sv (b.take (k + 1))) (by omega) hl (fun k H5 hk s5 C kk => kk H5 (Same.refl _)) (fun k H5 hk _ s5 C kk => ?_) (fun H5 s5 e5 => ?_)
    · refine ⟨_, rfl, _, rfl, _, _, rfl, rfl, _, rfl, b, rfl, len8 (by omega), ?_⟩
      have e : (0 + (k : Int) + 1) = ((k + 1 : Nat) : Int) := by push_cast; omega
      rw [e, cut_take]
      exact kk H5 (Same.refl _)
    · have e6 : H5 l = some (.lst (((List.range m).map fun k => b.take (k + 1)).map sv)) := by
        rw [e5, List.filter_eq_self.mpr (fun _ _ => rfl), List.map_map]; rfl
      have hl0 : H l = none := sback s14 hl
      have hg := good_pre b m hm hb hlb
      refine ⟨_, rfl, _, _, rfl, rfl, (by show (0 : Int) < 2; decide), rfl, _, rfl, ite2 (fun _ => ?_) (fun _ => ?_)⟩
      · refine ⟨_, rfl, l, _, rfl, e6, fun p hp => ?_⟩
        have e7 : upd H5 p (.lst (((List.range m).map fun k => b.take (k + 1)).map sv).reverse) p = some (.lst ((((List.range m).map fun k => b.take (k + 1)).reverse).map sv)) := by rw [upd_same, List.map_reverse]
        exact ⟨_, rfl, q p _ _ ((s14.trans s5).trans (same_new hp _)) (sback (s14.trans s5) hp) e7 hg.reverse⟩
      · exact ⟨_, rfl, q l H5 _ (s14.trans s5) hl0 e6 hg⟩
  · refine ⟨_, rfl, rfl, _, rfl, ite2 (fun _ => ?_) (fun _ => ?_)⟩
    · refine ⟨(by show 8 ≤ sizeLine; decide), fun p1 hp1 => ⟨p1, 2, _, rfl, rfl, upd_same, by decide, by decide, (by show 8 * 2 ≤ sizeLine; decide), fun p2 hp2 => ?_⟩⟩
      have e8 : (c % 8 : Int) = ((u : Nat) : Int) := hu
      refine ⟨_, rfl, _, rfl, _, _, nv u, rfl, rfl, (by show (0 : Int) < 8; decide), congrArg V.int e8, _, rfl, _, rfl, _, _, nv u, rfl, rfl, (by show (0 : Int) < 8; decide), congrArg V.int e8, _, rfl, _, _, nv (u + m), rfl, rfl, ?_, _, rfl, p2, _, rfl, SqL.of upd_same, fun p3 hp3 => ?_⟩
      · show V.int ((u : Int) + (m : Int)) = V.int ((u + m : Nat) : Int)
        push_cast; rfl
      have e9 : (List.replicate (Int.toNat 2) [V.str "up", V.str "to", V.str "of", V.str "for", V.str "each", V.str "any", V.str "one", V.str "nothing"]).flatten = (wds ++ wds).map sv := by
        rw [wds_sv, List.map_append]
        show (List.replicate 2 (wds.map sv)).flatten = _
        simp [List.replicate]
      have hlw : (wds ++ wds).length = 16 := by decide
      rw [e9, cutV_nat _ u m (by rw [List.length_map, hlw]; omega), ← List.map_drop, ← List.map_take]
      refine q p3 _ (((wds ++ wds).drop u).take m) (((s14.trans (same_new hp1 _)).trans (same_new hp2 _)).trans (same_new hp3 _)) (sback ((s14.trans (same_new hp1 _)).trans (same_new hp2 _)) hp3) upd_same (goodB_ok (good_wds u hu8 m (by omega)))
    · obtain ⟨v, hv, hv8⟩ := modn (c / 8) (1 + u) (by omega)
      have hx1 := Int.emod_nonneg (c / 64) (show (26 : Int) ≠ 0 by decide)
      have hx2 := Int.emod_lt_of_pos (c / 64) (show (0 : Int) < 26 by decide)
      have hy1 := Int.emod_nonneg (c / 1664) (show (4 : Int) ≠ 0 by decide)
      have hy2 := Int.emod_lt_of_pos (c / 1664) (show (0 : Int) < 4 by decide)
      have hg := good_third (m := m) (x := c / 64 % 26) (st := 1 + c / 1664 % 4) hb hlb (size := 1 + u) (at_ := v) (by omega) (by omega) hv8 hm ⟨hx1, hx2⟩ (by omega)
      refine ⟨_, rfl, _, _, nv u, rfl, rfl, (by show (0 : Int) < 8; decide), congrArg V.int hu, _, _, nv (1 + u), rfl, rfl, ?_, ?_⟩
      · show V.int ((1 : Int) + (u : Int)) = V.int ((1 + u : Nat) : Int)
        push_cast; rfl
      refine ⟨_, rfl, _, _, rfl, rfl, ⟨by decide, by decide⟩, _, rfl, _, _, nv v, rfl, rfl, ?_, congrArg V.int hv, ?_⟩
      · show (0 : Int) < ((1 + u : Nat) : Int)
        omega
      refine ⟨(by show 0 ≤ sizeLine; decide), fun l hl => ?_⟩
      have hl0 := sback s14 hl
      refine ⟨_, rfl, (m : Int), rfl, by omega, by omega, ?_⟩
      rw [em]
      refine for_range (fun i σ H5 => (∃ z x y, σ = [some (.ref a), some (.int (m : Int)), z, some (.int c), some (sv b), some (.ref l), none, some (nv (1 + u)), some (nv v), x, y]) ∧ Same H H5 ∧ H5 l = some (.lst (((List.range i).map (third b (1 + u) v (c / 64 % 26) (1 + c / 1664 % 4))).map sv))) ⟨⟨_, _, _, rfl⟩, s14.trans (same_new hl _), upd_same⟩ (fun i σ H5 hi hP => ?_) (fun σ H5 hP => ?_)
      · obtain ⟨⟨z, x, y, rfl⟩, s5, e5⟩ := hP
        refine ⟨_, rfl, _, _, rfl, rfl, ⟨by decide, by decide⟩, _, _, rfl, rfl, (by show (0 : Int) < 26; decide), _, rfl, _, rfl, _, _, rfl, rfl, ⟨by decide, by decide⟩, _, _, rfl, rfl, (by show (0 : Int) < 4; decide), _, _, rfl, rfl, _, _, rfl, rfl, mulOk_small (by omega), _, _, rfl, rfl, _, 1, rfl, by decide, fun H6 s6 => ?_⟩
        have e0 : (0 + (i : Int)) = (i : Int) := by omega
        have e6 := s6 _ _ e5
        have lb : (tx (cutL b none (some (v : Int)))).length ≤ 8 := by rw [tx_len]; exact Nat.le_trans (cutL_len _ _ _) (by omega)
        have lc : (tx (cutL b (some ((v : Int) + 1)) (some ((1 + u : Nat) : Int)))).length ≤ 8 := by rw [tx_len]; exact Nat.le_trans (cutL_len _ _ _) (by omega)
        have lw : (tx (wordL (c / 64 % 26 + (0 + (i : Int)) * (1 + c / 1664 % 4)) 1)).length = 1 := by rw [tx_len, wordL_len]
        refine ⟨_, rfl, .inl ⟨rfl, _, SqL.of e6⟩, _, rfl, _, rfl, _, rfl, b, rfl, len8 (by omega), _, rfl, _, _, rfl, rfl, (by rw [sizeLine_eq]; omega), _, rfl, _, rfl, _, _, rfl, rfl, _, rfl, _, rfl, _, rfl, b, rfl, len8 (by omega), _, _, rfl, rfl, ?_, l, _, _, rfl, rfl, e6, ?_, ?_⟩
        · rw [tx_app, tx_len, List.length_append, wordL_len, sizeLine_eq]
          rw [tx_len] at lb
          omega
        · rw [List.length_map, List.length_map, List.length_range, sizeLine_eq]
          omega
        · refine ⟨⟨_, _, _, rfl⟩, (s5.trans s6).upd hl0 _, ?_⟩
          rw [upd_same, tx_app, tx_app, List.range_succ, List.map_append, List.map_append]
          have e7 : cutL b none (some (v : Int)) = b.take v := cut_take b v
          have e8 : cutL b (some ((v : Int) + 1)) (some ((1 + u : Nat) : Int)) = (b.drop (v + 1)).take (1 + u - (v + 1)) := by
            have := cut_mid b (v + 1) (1 + u) (by omega) (by omega)
            push_cast at this ⊢
            exact this
          rw [e7, e8, e0]
          rfl
      · obtain ⟨⟨z, x, y, rfl⟩, s5, e5⟩ := hP
        exact ⟨_, rfl, q l H5 _ s5 hl0 e5 hg⟩
theorem ok_L_kinds {f : Addr} {fd : FuncData} (F : Fun K "_law_kinds" "_law_kinds" s_L_kinds f fd) (m_self : mg "_law_kinds" = some (.ref f)) (m_range : mg "range" = none) (m_len : mg "len" = none)
    (D_L_word : DefOk P w K mg base 1 "_law_word" ["_law_cell_here", "_law_size"] [] (sp_L_word K))
    (D_L_cell : DefOk P w K mg base 1 "_law_cell" ["_law_script", "_law_k"] [] (sp_L_cell K)) : DefOk P w K mg base 2 "_law_kinds" ["_law_script", "_law_names_here"] [] (sp_L_kinds K) := by
  refine F.def_okQ m_self (bnd2 F fun _ _ _ _ _ _ _ _ => rfl) sc_L_kinds (fun vs H Q E h => ?_) (fun cdv A outer s H vs Q E hr h => ?_)
  · obtain ⟨a, l, sc, ns, rfl, _⟩ := h; rfl
  obtain ⟨a, l, sc, ns, rfl, hS, hl, hm, hok, q⟩ := h
  refine ⟨_, (R.pss_cons (R.ps_set (i := 2) sc_L_kinds.nd rfl (Or.inr rfl) (R.pe_lst (R.pa_c (R.pe_callD D_L_word hr (by first | decide | omega) rfl (R.pa_c (R.pe_callD D_L_cell hr (by first | decide | omega) rfl (R.pa_c (R.pv 0) (R.pa_c R.pe_int R.pa_nil))) (R.pa_c (R.pe_op (opE0 op_add) R.pe_int (R.pe_op op_mod (R.pe_callD D_L_cell hr (by first | decide | omega) rfl (R.pa_c (R.pv 0) (R.pa_c R.pe_int R.pa_nil))) R.pe_int)) R.pa_nil))) (R.pa_c (R.pe_ix (R.ixL K) (R.pe_op op_cat (R.pv 1) (R.pe_lst (R.pa_c R.pe_str R.pa_nil))) R.pe_int (fun _ _ => rfl)) (R.pa_c R.pe_str R.pa_nil)))))
    (R.pss_one (R.ps_ret (R.pe_comp (defScope s_L_kinds) ["_law_script", "_law_names_here", "_law_pool"] ["_law_k"] ["_law_pool", "_law_script"] [2, 0] rfl rfl rfl ⟨s.heap.objs.size + 1, rfl⟩ rfl rfl (by decide +kernel) (R.pi_range1 rfl m_range (R.pa_c (R.pe_cB call_len_seq rfl m_len PySem.boot_len (R.pa_c (R.pv 1) R.pa_nil)) R.pa_nil)) (fun C s2 H2 fp => (R.pg_name (i := 0) (show List.Nodup (["_law_k", "_law_pool", "_law_script"] : List Str) from by decide +kernel) rfl (Or.inl rfl))) (fun C s2 H2 fp => R.pf_nil) (fun C s2 H2 fp => (R.pe_ix (R.ixL K) (R.pv 1) (R.pe_op (opE op_mod) (R.pe_op op_fdiv (R.pe_callD D_L_cell hr (by first | decide | omega) rfl (R.pa_c (R.pv 2) (R.pa_c R.pe_int R.pa_nil))) (R.pe_op op_add R.pe_int (R.pe_op op_mulB (R.pv 0) (R.pv 0)))) R.pe_int) (fun _ _ => rfl))))))), ?_⟩
  obtain ⟨u, hu, hu8⟩ := modn (cellN sc 4) 8 (by decide)
  refine ⟨_, rfl, a, sc, 4, rfl, hS, by decide, fun H1 s1 => ⟨_, rfl, a, sc, 4, rfl, s1.seq hS, by decide, fun H2 s2 => ?_⟩⟩
  refine ⟨_, _, rfl, rfl, (by show (0 : Int) < 8; decide), _, _, nv (1 + u), rfl, rfl, ?_, ?_⟩
  · show V.int ((1 : Int) + cellN sc 4 % 8) = V.int ((1 + u : Nat) : Int)
    have : cellN sc 4 % 8 = (u : Int) := hu
    rw [this]; push_cast; rfl
  refine ⟨_, 1 + u, rfl, by omega, fun H3 s3 => ?_⟩
  have hw : nameOk (wordL (cellN sc 4) (1 + u)) = true := wordL_ok (by omega) (by omega)
  generalize wordL (cellN sc 4) (1 + u) = wd at hw ⊢
  have s13 := (s1.trans s2).trans s3
  refine ⟨_, rfl, (by show 1 ≤ sizeLine; decide), fun p1 hp1 => ⟨l, p1, _, _, rfl, rfl, same_new hp1 _ _ _ (s13 _ _ hl), upd_same, ?_, fun p2 hp2 => ?_⟩⟩
  · rw [List.length_map, sizeLine_eq]
    show ns.length + 1 ≤ _
    omega
  obtain ⟨n0, hn0, e0⟩ : ∃ n0, nameOk n0 = true ∧ (ns.map sv ++ [V.str "any"])[0]? = some (sv n0) := by
    cases ns with
    | nil => exact ⟨(Str.ofString "any").cps.toList, by decide, by show some (V.str (Str.ofString "any")) = _; rw [tx_of (Str.ofString "any")]; simp [tx_list]⟩
    | cons n ns => exact ⟨n, hok n (by simp), rfl⟩
  refine ⟨p2, _, 0, sv n0, rfl, rfl, SqL.of upd_same, atI_nat (j := 0) e0, (by show 3 ≤ sizeLine; decide), fun p3 hp3 => ?_⟩
  have s4 := ((s13.trans (same_new hp1 _)).trans (same_new hp2 _)).trans (same_new hp3 (.lst [sv wd, sv n0, V.str "one"]))
  have e3 : upd (upd (upd H3 p1 (.lst [V.str "any"])) p2 (.lst (ns.map sv ++ [V.str "any"]))) p3 (.lst [sv wd, sv n0, V.str "one"]) p3 = some (.lst [sv wd, sv n0, V.str "one"]) := upd_same
  generalize upd (upd (upd H3 p1 (.lst [V.str "any"])) p2 (.lst (ns.map sv ++ [V.str "any"]))) p3 (.lst [sv wd, sv n0, V.str "one"]) = H4 at s4 e3 ⊢
  have eone : V.str "one" = sv (Str.ofString "one").cps.toList := congrArg V.str (tx_of _)
  rw [eone] at e3
  have hone : nameOk (Str.ofString "one").cps.toList = true := by decide
  generalize (Str.ofString "one").cps.toList = one at e3 hone
  refine ⟨_, rfl, l, _, rfl, .inl (SqL.of (s4 _ _ hl)), _, rfl, by rw [List.length_map]; omega, by rw [List.length_map]; omega, fun p hp => ?_⟩
  have en : (((ns.map sv).length : Nat) : Int).toNat = ns.length := by rw [List.length_map]; simp
  rw [en]
  have pick : ∀ k : Nat, ∃ v : Nat, cellN sc 5 / (1 + (0 + (k : Int)) * (0 + (k : Int))) % 3 = (v : Int) ∧ v < 3 := fun k => modn _ 3 (by decide)
  refine comp_rng_map (fun _ => true) (fun k => sv ([wd, n0, one].getD (cellN sc 5 / (1 + (0 + (k : Int)) * (0 + (k : Int))) % 3).toNat wd)) (by omega) hp (fun k H5 hk s5 C kk => kk H5 (Same.refl _)) (fun k H5 hk _ s5 C kk => ?_) (fun H5 s5 e5 => ?_)
  · obtain ⟨v, hv, hv3⟩ := pick k
    have hk2 : k ≤ 5 := by omega
    have hkk : (0 + (k : Int)) * (0 + (k : Int)) ≤ 25 := by
      have : k * k ≤ 5 * 5 := Nat.mul_le_mul hk2 hk2
      rw [Int.zero_add]
      exact_mod_cast this
    have hk0 : 0 ≤ (0 + (k : Int)) * (0 + (k : Int)) := Int.mul_nonneg (by omega) (by omega)
    refine ⟨_, rfl, _, rfl, a, sc, 5, rfl, (s4.trans s5).seq hS, by decide, fun H6 s6 => ?_⟩
    refine ⟨_, rfl, _, rfl, _, _, rfl, rfl, mulOk_small (by omega), _, _, rfl, rfl, _, _, rfl, rfl, ⟨by omega, by omega⟩, _, _, nv v, rfl, rfl, (by show (0 : Int) < 3; decide), congrArg V.int hv, p3, _, _, sv ([wd, n0, one].getD v wd), rfl, rfl, SqL.of ((s5.trans s6) _ _ e3), atI_nat ?_, ?_⟩
    · have : ∀ v, v < 3 → [sv wd, sv n0, sv one][v]? = some (sv ([wd, n0, one].getD v wd)) := fun v h => by
        match v, h with
        | 0, _ => rfl
        | 1, _ => rfl
        | 2, _ => rfl
      exact this v hv3
    · have z := kk H6 s6
      rw [hv, Int.toNat_natCast] at z
      exact z
  · refine q p H5 ((List.range ns.length).map fun k : Nat => [wd, n0, one].getD (cellN sc 5 / (1 + (0 + (k : Int)) * (0 + (k : Int))) % 3).toNat wd) (s4.trans s5) (sback s4 hp) ?_ (by simp) fun k hk => ?_
    · rw [e5, List.filter_eq_self.mpr (fun _ _ => rfl), List.map_map]; rfl
    · obtain ⟨j, _, rfl⟩ := List.mem_map.mp hk
      obtain ⟨v, hv, hv3⟩ := pick j
      rw [hv, Int.toNat_natCast]
      have : ∀ v, v < 3 → nameOk ([wd, n0, one].getD v wd) = true := fun v h => by
        match v, h with
        | 0, _ => exact hw
        | 1, _ => exact hn0
        | 2, _ => exact hone
      exact this v hv3
end
end My


set_option Elab.async false
set_option linter.all false
set_option maxRecDepth 100000
set_option maxHeartbeats 4000000
namespace My
open PySem PySem.Spec PyProof.Rows L2 GM
/-- a list of names -/
noncomputable def NmAt (K : PySem.W.Frag) (H : Hp) (nl : Addr) (ns : List Str) : Prop := SqL K H nl (ns.map V.str) ∧ NsOk ns ∧ ns.length ≤ 20
theorem NmAt.same {K : PySem.W.Frag} {H H' : Hp} {nl : Addr} {ns : List Str} (h : NmAt K H nl ns) (S : Same H H') : NmAt K H' nl ns := ⟨S.seq h.1, h.2⟩
theorem sz {n : Nat} (h : n ≤ 100000) : n ≤ sizeLine := by rw [sizeLine_eq]; omega
theorem empty_len : Str.empty.length = 0 := rfl
theorem getD_name {ns : List Str} {k : Nat} (h : k < ns.length) : atI (ns.map V.str) (k : Int) = some (V.str (ns.getD k Str.empty)) := by
  refine at_nat ?_
  rw [List.getElem?_map, List.getElem?_eq_getElem h, List.getD_eq_getElem?_getD, List.getElem?_eq_getElem h]; rfl
noncomputable def sp_P_place_words (K : PySem.W.Frag) : Sp := fun vs H Q _ => ∃ (b : Nat) (nl : Addr) (ns : List Str), vs = [nv b, .ref nl] ∧ b < 64 ∧ NmAt K H nl ns ∧ (∀ k ∈ things b, k < ns.length) ∧ ∀ H', Same H H' → Q (.str (placeT ns b)) H'
noncomputable def sp_M_Bid_words (_K : PySem.W.Frag) (_c : Addr) : Sp := fun vs H Q _ => ∃ (a : Addr) (v : V), vs = [.ref a, v] ∧ Q (.str (Str.ofString "nothing")) H
noncomputable def sp_M_Only_words (K : PySem.W.Frag) (c : Addr) : Sp := fun vs H Q _ => ∃ (a dx : Addr) (b : Nat) (m : Int) (nl : Addr) (ns : List Str), vs = [.ref a, .ref nl] ∧ H a = some (.ins c dx (fsOnly b m)) ∧ FormOk (.only b m) ∧ NmAt K H nl ns ∧ (∀ k ∈ things b, k < ns.length) ∧ ∀ H', Same H H' → Q (.str (formT ns (.only b m))) H'
noncomputable def sp_M_SoMany_words (K : PySem.W.Frag) (c : Addr) : Sp := fun vs H Q _ => ∃ (a dx : Addr) (k l : Nat) (m : Int) (nl : Addr) (ns : List Str), vs = [.ref a, .ref nl] ∧ H a = some (.ins c dx (fsSome k l m)) ∧ FormOk (.some k l m) ∧ NmAt K H nl ns ∧ (∀ x ∈ things k, x < ns.length) ∧ ∀ H', Same H H' → Q (.str (formT ns (.some k l m))) H'
noncomputable def sp_M_UpTo_words (K : PySem.W.Frag) (c : Addr) : Sp := fun vs H Q _ => ∃ (a dx : Addr) (k l : Nat) (m : Int) (nl : Addr) (ns : List Str), vs = [.ref a, .ref nl] ∧ H a = some (.ins c dx (fsMost k l m)) ∧ FormOk (.most k l m) ∧ NmAt K H nl ns ∧ (∀ x ∈ things k, x < ns.length) ∧ ∀ H', Same H H' → Q (.str (formT ns (.most k l m))) H'
noncomputable def spSevW (K : PySem.W.Frag) (any : Bool) (c_Bid c_Only c_SoMany c_UpTo c_Several c_AnyOf c_OneOf c_Stock : Addr) (d : Nat) : Sp := fun vs H Q _ => ∃ (a : Addr) (ts : List Tr) (A : Addr → Prop) (nl : Addr) (ns : List Str) (m : Nat), vs = [.ref a, .ref nl] ∧ IsTr c_Bid c_Only c_SoMany c_UpTo c_AnyOf c_OneOf A H d a (.node any ts) ∧ tallyL ts ≤ 100 ∧ NmAt K H nl ns ∧ m ≤ 6 ∧ m ≤ ns.length ∧ Sub (spokenL ts) m ∧ ∀ H', Same H H' → Q (.str (textT ns (.node any ts))) H'
noncomputable def spOverW (K : PySem.W.Frag) (c_Bid c_Only c_SoMany c_UpTo c_Several c_AnyOf c_OneOf c_Stock : Addr) (d : Nat) : Sp := fun vs H Q _ => ∃ (l : Addr) (bs : List Addr) (ts : List Tr) (A : Addr → Prop) (nl : Addr) (ns : List Str) (m : Nat), vs = [.ref l, .ref nl] ∧ H l = some (.lst (bs.map V.ref)) ∧ All2 (IsTr c_Bid c_Only c_SoMany c_UpTo c_AnyOf c_OneOf A H d) bs ts ∧ tallyL ts ≤ 100 ∧ NmAt K H nl ns ∧ m ≤ 6 ∧ m ≤ ns.length ∧ Sub (spokenL ts) m ∧ ∀ H', Same H H' → Q (.str (Txt.join (Str.ofString "; ") (ts.map (textT ns)))) H'
noncomputable def TWd (K : PySem.W.Frag) (c_Bid c_Only c_SoMany c_UpTo c_Several c_AnyOf c_OneOf c_Stock : Addr) (d : Nat) : Addr → Sp → Prop := fun C sp => (C = c_Bid ∧ sp = sp_M_Bid_words K c_Bid) ∨ (C = c_Only ∧ sp = sp_M_Only_words K c_Only) ∨ (C = c_SoMany ∧ sp = sp_M_SoMany_words K c_SoMany) ∨ (C = c_UpTo ∧ sp = sp_M_UpTo_words K c_UpTo) ∨ (C = c_AnyOf ∧ sp = spSevW K true c_Bid c_Only c_SoMany c_UpTo c_Several c_AnyOf c_OneOf c_Stock d) ∨ (C = c_OneOf ∧ sp = spSevW K false c_Bid c_Only c_SoMany c_UpTo c_Several c_AnyOf c_OneOf c_Stock d)
noncomputable def T_words (K : PySem.W.Frag) (c_Bid c_Only c_SoMany c_UpTo c_Several c_AnyOf c_OneOf c_Stock : Addr) : Addr → Sp → Prop := TWd K c_Bid c_Only c_SoMany c_UpTo c_Several c_AnyOf c_OneOf c_Stock 5
theorem IsTr.ok {c1 c2 c3 c4 c5 c6 : Addr} {A : Addr → Prop} {H : Hp} : ∀ (d : Nat) {a : Addr} {t : Tr}, IsTr c1 c2 c3 c4 c5 c6 A H d a t → okT t
  | 0, _, _, h => h.elim
  | _ + 1, a, .leaf f, h => okT_leaf.mpr h.1
  | d + 1, a, .node any ts, h => by
    obtain ⟨dx, l, bs, e1, e2, e3, e4⟩ := h
    exact okT_node.mpr (okL_of fun t ht => by obtain ⟨x, hx⟩ := e4.mem ht; exact IsTr.ok d hx)
theorem FT.ok {A : Addr → Prop} {H : Hp} : ∀ (d : Nat) {a : Addr} {t : Tr}, FT A H d a t → okT t
  | 0, _, _, h => h.elim
  | _ + 1, a, .leaf f, h => okT_leaf.mpr h.1
  | d + 1, a, .node any ts, h => by
    obtain ⟨l, bs, e1, e2, e3, e4⟩ := h
    exact okT_node.mpr (okL_of fun t ht => by obtain ⟨x, hx⟩ := e4.mem ht; exact FT.ok d hx)
section
variable {P : Program} {w : World} {K : PySem.W.Frag} {mg : Str → Option Value} {base : Heap}
variable {c_Bid c_Only c_SoMany c_UpTo c_Several c_AnyOf c_OneOf c_Stock : Addr}
theorem ok_P_place_words {f : Addr} {fd : FuncData} (F : Fun K "place_words" "place_words" s_P_place_words f fd) (m_self : mg "place_words" = some (.ref f))
    (D_P_things_in : DefOk P w K mg base 2 "things_in" ["bundle"] [] (sp_P_things_in K)) : DefOk P w K mg base 3 "place_words" ["bundle", "names"] [] (sp_P_place_words K) := by
  refine F.def_okQ m_self (bnd2 F fun _ _ _ _ _ _ _ _ => rfl) sc_P_place_words (fun vs H Q E h => ?_) (fun cdv A outer s H vs Q E hr h => ?_)
  · obtain ⟨b, nl, ns, rfl, _⟩ := h; rfl
  obtain ⟨b, nl, ns, rfl, hb, hN, hk, q⟩ := h
  refine ⟨_, (R.pss_one (R.ps_ret (R.pe_join K R.pe_str (R.pe_comp (defScope s_P_place_words) ["bundle", "names"] ["number"] ["names"] [1] rfl rfl rfl ⟨s.heap.objs.size + 1, rfl⟩ rfl rfl (by decide +kernel) (R.pi_list (R.pe_callD D_P_things_in hr (by first | decide | omega) rfl (R.pa_c (R.pv 0) R.pa_nil))) (fun C s2 H2 fp => (R.pg_name (i := 0) (show List.Nodup (["number", "names"] : List Str) from by decide +kernel) rfl (Or.inl rfl))) (fun C s2 H2 fp => R.pf_nil) (fun C s2 H2 fp => (R.pe_ix (R.ixL K) (R.pv 1) (R.pv 0) (fun _ _ => rfl))))))), ?_⟩
  refine ⟨Str.ofString "+", rfl, _, rfl, b, rfl, hb, fun l H1 s1 h1 e1 => ⟨l, rfl, ⟨_, SqL.of e1⟩, fun l2 h2 => ?_⟩⟩
  have hN1 := hN.same s1
  refine comp_lst_map nv (things b) (fun _ => true) (fun k => .str (ns.getD k Str.empty)) (SqL.of e1) (by have := things_len b; omega) h2 ?_ ?_ ?_
  · intro k hk' H2 s2 C hC; exact hC _ (Same.refl _)
  · intro k hk' _ H2 s2 C hC
    exact ⟨_, rfl, _, rfl, nl, _, _, _, rfl, rfl, (hN1.same s2).1, getD_name (hk k hk'), hC _ (Same.refl _)⟩
  · intro H2 s2 e2
    have em : (((things b).filter fun _ => true).map fun k => V.str (ns.getD k Str.empty)) = ((things b).map fun k => ns.getD k Str.empty).map V.str := by
      rw [List.filter_eq_self.mpr (fun _ _ => rfl), List.map_map]; rfl
    rw [em] at e2
    exact ⟨l2, _, rfl, SqL.of e2, (place_fits hN.2.1 b).1, q H2 (s1.trans s2)⟩
theorem ok_M_Bid_words {f : Addr} {fd : FuncData} (F : Fun K "words" "Bid.words" s_M_Bid_words f fd)
    (O_Bid : Own K mg "Bid" c_Bid [])
    (O_Only : Own K mg "Only" c_Only ["bundle", "amount"])
    (O_SoMany : Own K mg "SoMany" c_SoMany ["kind", "least", "amount"])
    (O_UpTo : Own K mg "UpTo" c_UpTo ["kind", "most", "each"])
    (O_Several : Own K mg "Several" c_Several ["bids"])
    (O_AnyOf : Own K mg "AnyOf" c_AnyOf ["bids"])
    (O_OneOf : Own K mg "OneOf" c_OneOf ["bids"])
    (O_Stock : Own K mg "Stock" c_Stock ["numbers", "kinds"]) : FnOk P w K mg base CX0 1 f fd ["self", "names"] (sp_M_Bid_words K c_Bid) := by
  refine F.okQ sc_M_Bid_words (fun vs H Q E h => ?_) (fun cdv A outer s H vs Q E hr h => ?_)
  · obtain ⟨a, v, rfl, _⟩ := h; rfl
  obtain ⟨a, v, rfl, q⟩ := h
  exact ⟨_, (R.pss_one (R.ps_ret R.pe_str)), q⟩
theorem ok_M_Only_words {f : Addr} {fd : FuncData} (F : Fun K "words" "Only.words" s_M_Only_words f fd)
    (D_P_place_words : DefOk P w K mg base 3 "place_words" ["bundle", "names"] [] (sp_P_place_words K))
    (O_Bid : Own K mg "Bid" c_Bid [])
    (O_Only : Own K mg "Only" c_Only ["bundle", "amount"])
    (O_SoMany : Own K mg "SoMany" c_SoMany ["kind", "least", "amount"])
    (O_UpTo : Own K mg "UpTo" c_UpTo ["kind", "most", "each"])
    (O_Several : Own K mg "Several" c_Several ["bids"])
    (O_AnyOf : Own K mg "AnyOf" c_AnyOf ["bids"])
    (O_OneOf : Own K mg "OneOf" c_OneOf ["bids"])
    (O_Stock : Own K mg "Stock" c_Stock ["numbers", "kinds"]) : FnOk P w K mg base CX0 4 f fd ["self", "names"] (sp_M_Only_words K c_Only) := by
  refine F.okQ sc_M_Only_words (fun vs H Q E h => ?_) (fun cdv A outer s H vs Q E hr h => ?_)
  · obtain ⟨a, dx, b, m, nl, ns, rfl, _⟩ := h; rfl
  obtain ⟨a, dx, b, m, nl, ns, rfl, e, ok, hN, hk, q⟩ := h
  refine ⟨_, (R.pss_cons (R.ps_set (i := 2) sc_M_Only_words.nd rfl (Or.inl rfl) (R.pe_callD D_P_place_words hr (by first | decide | omega) rfl (R.pa_c (R.pe_fld K (R.pv 0)) (R.pa_c (R.pv 1) R.pa_nil))))
    (R.pss_cons (R.ps_set (i := 3) sc_M_Only_words.nd rfl (Or.inl rfl) (R.pe_fld K (R.pv 0)))
    (R.pss_one (R.ps_ret (R.pe_joined (R.fps_cons (R.pe_fs (R.pv 2)) (R.fps_cons R.pe_str (R.fps_cons (R.pe_fv (R.pv 3)) R.fps_nil)))))))), ?_⟩
  obtain ⟨l1, l2, l3, l4, l5, _⟩ := lens
  have pl := (place_fits hN.2.1 b).2
  have ml := int_len ok.2.2.lo ok.2.2.hi
  refine ⟨_, rfl, a, c_Only, dx, _, nv b, rfl, e, O_Only.cls, O_Only.no _ (mem_at 0 rfl), rfl, _, rfl, b, nl, ns, rfl, by have := ok.2.1; omega, hN, hk, fun H1 s1 => ?_⟩
  refine ⟨_, rfl, a, c_Only, dx, _, .int m, rfl, s1 _ _ e, O_Only.cls, O_Only.no _ (mem_at 1 rfl), rfl, ?_⟩
  refine ⟨_, rfl, placeT ns b, rfl, sz (by omega), placeT ns b, rfl, sz (by rw [strLen_append, empty_len]; omega), Str.ofString " for ", rfl, sz (by rw [strLen_append, strLen_append, empty_len]; omega), ?_⟩
  refine ⟨_, rfl, m, rfl, int_log ok.2.2.lo ok.2.2.hi, Str.ofString (toString m), rfl, sz (by rw [strLen_append, strLen_append, strLen_append, empty_len]; omega), sz (by rw [strLen_append, strLen_append, strLen_append, empty_len]; omega), ?_⟩
  rw [empty_app]
  exact q H1 s1
theorem ok_M_SoMany_words {f : Addr} {fd : FuncData} (F : Fun K "words" "SoMany.words" s_M_SoMany_words f fd)
    (D_P_place_words : DefOk P w K mg base 3 "place_words" ["bundle", "names"] [] (sp_P_place_words K))
    (O_Bid : Own K mg "Bid" c_Bid [])
    (O_Only : Own K mg "Only" c_Only ["bundle", "amount"])
    (O_SoMany : Own K mg "SoMany" c_SoMany ["kind", "least", "amount"])
    (O_UpTo : Own K mg "UpTo" c_UpTo ["kind", "most", "each"])
    (O_Several : Own K mg "Several" c_Several ["bids"])
    (O_AnyOf : Own K mg "AnyOf" c_AnyOf ["bids"])
    (O_OneOf : Own K mg "OneOf" c_OneOf ["bids"])
    (O_Stock : Own K mg "Stock" c_Stock ["numbers", "kinds"]) : FnOk P w K mg base CX0 4 f fd ["self", "names"] (sp_M_SoMany_words K c_SoMany) := by
  refine F.okQ sc_M_SoMany_words (fun vs H Q E h => ?_) (fun cdv A outer s H vs Q E hr h => ?_)
  · obtain ⟨a, dx, k, l, m, nl, ns, rfl, _⟩ := h; rfl
  obtain ⟨a, dx, k, l, m, nl, ns, rfl, e, ok, hN, hk, q⟩ := h
  refine ⟨_, (R.pss_cons (R.ps_set (i := 2) sc_M_SoMany_words.nd rfl (Or.inl rfl) (R.pe_callD D_P_place_words hr (by first | decide | omega) rfl (R.pa_c (R.pe_fld K (R.pv 0)) (R.pa_c (R.pv 1) R.pa_nil))))
    (R.pss_cons (R.ps_set (i := 3) sc_M_SoMany_words.nd rfl (Or.inl rfl) (R.pe_fld K (R.pv 0)))
    (R.pss_cons (R.ps_set (i := 4) sc_M_SoMany_words.nd rfl (Or.inl rfl) (R.pe_fld K (R.pv 0)))
    (R.pss_one (R.ps_ret (R.pe_joined (R.fps_cons (R.pe_fv (R.pv 3)) (R.fps_cons R.pe_str (R.fps_cons (R.pe_fs (R.pv 2)) (R.fps_cons R.pe_str (R.fps_cons (R.pe_fv (R.pv 4)) R.fps_nil))))))))))), ?_⟩
  obtain ⟨l1, l2, l3, l4, l5, _⟩ := lens
  have pl := (place_fits hN.2.1 k).2
  have ml := int_len ok.2.2.2.2.lo ok.2.2.2.2.hi
  have lo : (0 : Int) ≤ ((l : Nat) : Int) := by omega
  have hi : ((l : Nat) : Int) ≤ 10 ^ 9 := by have := ok.2.2.2.1; omega
  have ll := int_len lo hi
  refine ⟨_, rfl, a, c_SoMany, dx, _, nv k, rfl, e, O_SoMany.cls, O_SoMany.no _ (mem_at 0 rfl), rfl, _, rfl, k, nl, ns, rfl, by have := ok.2.1; omega, hN, hk, fun H1 s1 => ?_⟩
  refine ⟨_, rfl, a, c_SoMany, dx, _, nv l, rfl, s1 _ _ e, O_SoMany.cls, O_SoMany.no _ (mem_at 1 rfl), rfl, ?_⟩
  refine ⟨_, rfl, a, c_SoMany, dx, _, .int m, rfl, s1 _ _ e, O_SoMany.cls, O_SoMany.no _ (mem_at 2 rfl), rfl, ?_⟩
  refine ⟨_, rfl, _, rfl, int_log lo hi, Str.ofString (toString ((l : Nat) : Int)), rfl, sz (by rw [strLen_append, empty_len]; omega), Str.ofString " of ", rfl, sz (by rw [strLen_append, strLen_append, empty_len]; omega), ?_⟩
  refine ⟨_, rfl, placeT ns k, rfl, sz (by omega), placeT ns k, rfl, sz (by rw [strLen_append, strLen_append, strLen_append, empty_len]; omega), Str.ofString " for ", rfl, sz (by rw [strLen_append, strLen_append, strLen_append, strLen_append, empty_len]; omega), ?_⟩
  refine ⟨_, rfl, m, rfl, int_log ok.2.2.2.2.lo ok.2.2.2.2.hi, Str.ofString (toString m), rfl, sz (by rw [strLen_append, strLen_append, strLen_append, strLen_append, strLen_append, empty_len]; omega), sz (by rw [strLen_append, strLen_append, strLen_append, strLen_append, strLen_append, empty_len]; omega), ?_⟩
  rw [empty_app]
  exact q H1 s1
theorem ok_M_UpTo_words {f : Addr} {fd : FuncData} (F : Fun K "words" "UpTo.words" s_M_UpTo_words f fd)
    (D_P_place_words : DefOk P w K mg base 3 "place_words" ["bundle", "names"] [] (sp_P_place_words K))
    (O_Bid : Own K mg "Bid" c_Bid [])
    (O_Only : Own K mg "Only" c_Only ["bundle", "amount"])
    (O_SoMany : Own K mg "SoMany" c_SoMany ["kind", "least", "amount"])
    (O_UpTo : Own K mg "UpTo" c_UpTo ["kind", "most", "each"])
    (O_Several : Own K mg "Several" c_Several ["bids"])
    (O_AnyOf : Own K mg "AnyOf" c_AnyOf ["bids"])
    (O_OneOf : Own K mg "OneOf" c_OneOf ["bids"])
    (O_Stock : Own K mg "Stock" c_Stock ["numbers", "kinds"]) : FnOk P w K mg base CX0 4 f fd ["self", "names"] (sp_M_UpTo_words K c_UpTo) := by
  refine F.okQ sc_M_UpTo_words (fun vs H Q E h => ?_) (fun cdv A outer s H vs Q E hr h => ?_)
  · obtain ⟨a, dx, k, l, m, nl, ns, rfl, _⟩ := h; rfl
  obtain ⟨a, dx, k, l, m, nl, ns, rfl, e, ok, hN, hk, q⟩ := h
  refine ⟨_, (R.pss_cons (R.ps_set (i := 2) sc_M_UpTo_words.nd rfl (Or.inl rfl) (R.pe_callD D_P_place_words hr (by first | decide | omega) rfl (R.pa_c (R.pe_fld K (R.pv 0)) (R.pa_c (R.pv 1) R.pa_nil))))
    (R.pss_cons (R.ps_set (i := 3) sc_M_UpTo_words.nd rfl (Or.inl rfl) (R.pe_fld K (R.pv 0)))
    (R.pss_cons (R.ps_set (i := 4) sc_M_UpTo_words.nd rfl (Or.inl rfl) (R.pe_fld K (R.pv 0)))
    (R.pss_one (R.ps_ret (R.pe_joined (R.fps_cons R.pe_str (R.fps_cons (R.pe_fv (R.pv 3)) (R.fps_cons R.pe_str (R.fps_cons (R.pe_fs (R.pv 2)) (R.fps_cons R.pe_str (R.fps_cons (R.pe_fv (R.pv 4)) (R.fps_cons R.pe_str R.fps_nil))))))))))))), ?_⟩
  obtain ⟨l1, l2, l3, l4, l5, _⟩ := lens
  have pl := (place_fits hN.2.1 k).2
  have ml := int_len ok.2.2.2.2.lo ok.2.2.2.2.hi
  have lo : (0 : Int) ≤ ((l : Nat) : Int) := by omega
  have hi : ((l : Nat) : Int) ≤ 10 ^ 9 := by have := ok.2.2.2.1; omega
  have ll := int_len lo hi
  refine ⟨_, rfl, a, c_UpTo, dx, _, nv k, rfl, e, O_UpTo.cls, O_UpTo.no _ (mem_at 0 rfl), rfl, _, rfl, k, nl, ns, rfl, by have := ok.2.1; omega, hN, hk, fun H1 s1 => ?_⟩
  refine ⟨_, rfl, a, c_UpTo, dx, _, nv l, rfl, s1 _ _ e, O_UpTo.cls, O_UpTo.no _ (mem_at 1 rfl), rfl, ?_⟩
  refine ⟨_, rfl, a, c_UpTo, dx, _, .int m, rfl, s1 _ _ e, O_UpTo.cls, O_UpTo.no _ (mem_at 2 rfl), rfl, ?_⟩
  refine ⟨Str.ofString "up to ", rfl, sz (by rw [strLen_append, empty_len]; omega), ?_⟩
  refine ⟨_, rfl, _, rfl, int_log lo hi, Str.ofString (toString ((l : Nat) : Int)), rfl, sz (by rw [strLen_append, strLen_append, empty_len]; omega), Str.ofString " of ", rfl, sz (by rw [strLen_append, strLen_append, strLen_append, empty_len]; omega), ?_⟩
  refine ⟨_, rfl, placeT ns k, rfl, sz (by omega), placeT ns k, rfl, sz (by rw [strLen_append, strLen_append, strLen_append, strLen_append, empty_len]; omega), Str.ofString " for ", rfl, sz (by rw [strLen_append, strLen_append, strLen_append, strLen_append, strLen_append, empty_len]; omega), ?_⟩
  refine ⟨_, rfl, m, rfl, int_log ok.2.2.2.2.lo ok.2.2.2.2.hi, Str.ofString (toString m), rfl, sz (by rw [strLen_append, strLen_append, strLen_append, strLen_append, strLen_append, strLen_append, empty_len]; omega), Str.ofString " each", rfl, sz (by rw [strLen_append, strLen_append, strLen_append, strLen_append, strLen_append, strLen_append, strLen_append, empty_len]; omega), sz (by rw [strLen_append, strLen_append, strLen_append, strLen_append, strLen_append, strLen_append, strLen_append, empty_len]; omega), ?_⟩
  rw [empty_app]
  exact q H1 s1
theorem ask_words (K : PySem.W.Frag) {c_Bid c_Only c_SoMany c_UpTo c_Several c_AnyOf c_OneOf c_Stock : Addr} {A : Addr → Prop} {H : Hp} {d : Nat} {b : Addr} {t : Tr} {m : Nat} (hb : IsTr c_Bid c_Only c_SoMany c_UpTo c_AnyOf c_OneOf A H d b t) (few : tallyT t ≤ 100) (hm : m ≤ 6) (hs : Sub (spokenT t) m) :
    ∃ (C dx : Addr) (fs : List (Str × V)) (sp : Sp), H b = some (.ins C dx fs) ∧ fs.lookup ("words" : Str) = none ∧ TWd K c_Bid c_Only c_SoMany c_UpTo c_Several c_AnyOf c_OneOf c_Stock d C sp ∧ ∀ (H1 : Hp) (nl : Addr) (ns : List Str), Same H H1 → NmAt K H1 nl ns → m ≤ ns.length → ∀ Q : VK, (∀ H', Same H1 H' → Q (.str (textT ns t)) H') → sp [.ref b, .ref nl] H1 Q E0 := by
  cases d with
  | zero => exact hb.elim
  | succ d =>
    cases t with
    | leaf f =>
      obtain ⟨ok, hb⟩ := hb
      simp only [textT_leaf]
      have hth : ∀ (ns : List Str), m ≤ ns.length → ∀ x, spokenF f = x → x ≤ 63 → ∀ k ∈ things x, k < ns.length := fun ns hmn x e hx k hk => by
        have hs' : Sub x m := by rw [← e]; exact hs
        have := subM_things m (by omega) x (by omega) hs' k hk
        omega
      cases f with
      | none =>
        obtain ⟨dx, e⟩ := hb
        exact ⟨_, dx, _, _, e, rfl, .inl ⟨rfl, rfl⟩, fun H1 nl ns S hN hmn Q q => ⟨b, .ref nl, rfl, q H1 (Same.refl H1)⟩⟩
      | only x z =>
        obtain ⟨dx, e⟩ := hb
        exact ⟨_, dx, _, _, e, rfl, .inr (.inl ⟨rfl, rfl⟩), fun H1 nl ns S hN hmn Q q => ⟨b, dx, x, z, nl, ns, rfl, S _ _ e, ok, hN, hth ns hmn x rfl ok.2.1, q⟩⟩
      | some x l z =>
        obtain ⟨dx, e⟩ := hb
        exact ⟨_, dx, _, _, e, rfl, .inr (.inr (.inl ⟨rfl, rfl⟩)), fun H1 nl ns S hN hmn Q q => ⟨b, dx, x, l, z, nl, ns, rfl, S _ _ e, ok, hN, hth ns hmn x rfl ok.2.1, q⟩⟩
      | most x l z =>
        obtain ⟨dx, e⟩ := hb
        exact ⟨_, dx, _, _, e, rfl, .inr (.inr (.inr (.inl ⟨rfl, rfl⟩))), fun H1 nl ns S hN hmn Q q => ⟨b, dx, x, l, z, nl, ns, rfl, S _ _ e, ok, hN, hth ns hmn x rfl ok.2.1, q⟩⟩
    | node any ts =>
      have hb' := hb
      obtain ⟨dx, l, bs, e1, e2, e3, e4⟩ := hb
      have few2 : tallyL ts ≤ 100 := by have : 1 + tallyL ts ≤ 100 := few; omega
      cases any
      · exact ⟨_, dx, _, _, e1, rfl, .inr (.inr (.inr (.inr (.inr ⟨rfl, rfl⟩)))), fun H1 nl ns S hN hmn Q q => ⟨b, ts, A, nl, ns, m, rfl, IsTr.same S hb', few2, hN, hm, hmn, hs, q⟩⟩
      · exact ⟨_, dx, _, _, e1, rfl, .inr (.inr (.inr (.inr (.inl ⟨rfl, rfl⟩)))), fun H1 nl ns S hN hmn Q q => ⟨b, ts, A, nl, ns, m, rfl, IsTr.same S hb', few2, hN, hm, hmn, hs, q⟩⟩
theorem ok_P_list_words (d : Nat) {f : Addr} {fd : FuncData} (F : Fun K "list_words" "list_words" s_P_list_words f fd) (m_self : mg "list_words" = some (.ref f)) 
    (O_Bid : Own K mg "Bid" c_Bid [])
    (O_Only : Own K mg "Only" c_Only ["bundle", "amount"])
    (O_SoMany : Own K mg "SoMany" c_SoMany ["kind", "least", "amount"])
    (O_UpTo : Own K mg "UpTo" c_UpTo ["kind", "most", "each"])
    (O_Several : Own K mg "Several" c_Several ["bids"])
    (O_AnyOf : Own K mg "AnyOf" c_AnyOf ["bids"])
    (O_OneOf : Own K mg "OneOf" c_OneOf ["bids"])
    (O_Stock : Own K mg "Stock" c_Stock ["numbers", "kinds"])
    (hT_words : ∀ C sp, TWd K c_Bid c_Only c_SoMany c_UpTo c_Several c_AnyOf c_OneOf c_Stock d C sp → ∃ ps, MethD P w K mg base (2 * d + 4) C "words" ps sp) : DefOk P w K mg base (2 * d + 5) "list_words" ["bids", "names"] [] (spOverW K c_Bid c_Only c_SoMany c_UpTo c_Several c_AnyOf c_OneOf c_Stock d) := by
  refine F.def_okQ m_self (bnd2 F fun _ _ _ _ _ _ _ _ => rfl) sc_P_list_words (fun vs H Q E h => ?_) (fun cdv A outer s H vs Q E hr h => ?_)
  · obtain ⟨l, bs, ts, A, nl, ns, m, rfl, _⟩ := h; rfl
  obtain ⟨l, bs, ts, A, nl, ns, m, rfl, hl, hB, few, hN, hm, hmn, hs, q⟩ := h
  have tl := tally_len ts
  refine ⟨_, (R.pss_one (R.ps_ret (R.pe_join K R.pe_str (R.pe_comp (defScope s_P_list_words) ["bids", "names"] ["bid"] ["names"] [1] rfl rfl rfl ⟨s.heap.objs.size + 1, rfl⟩ rfl rfl (by decide +kernel) (R.pi_list (R.pv 0)) (fun C s2 H2 fp => (R.pg_name (i := 0) (show List.Nodup (["bid", "names"] : List Str) from by decide +kernel) rfl (Or.inl rfl))) (fun C s2 H2 fp => R.pf_nil) (fun C s2 H2 fp => (R.pe_methV (R.pv 0) hT_words hr (by first | decide | omega) (R.pa_c (R.pv 1) R.pa_nil))))))), ?_⟩
  refine ⟨Str.ofString "; ", rfl, _, rfl, l, rfl, ⟨_, SqL.of hl⟩, fun l2 h2 => ?_⟩
  refine comp_lst1 (xs := bs.map V.ref) (fun k H' => Same H H' ∧ H' l2 = some (.lst (((ts.take k).map (textT ns)).map V.str))) ⟨same_new h2 _, upd_same⟩ (fun k H' _ z => SqL.of (z.1 _ _ hl)) ?_ ?_
  · rintro k v H1 hv ⟨s1, e1⟩ K1 K0 k1 k0
    obtain ⟨b, t, rfl, hb, ht, ib⟩ := hB.at hv
    have mt := tally_mem (List.mem_of_getElem? ht)
    obtain ⟨C, dx, ff, sp, g1, g2, g3, g4⟩ := ask_words K (c_Several := c_Several) (c_Stock := c_Stock) (ib.same s1) (by omega) hm (hs.mem t (List.mem_of_getElem? ht))
    refine ⟨_, rfl, b, C, dx, ff, sp, rfl, g1, g2, g3, _, rfl, g4 H1 nl ns (Same.refl _) (hN.same s1) hmn _ fun H3 s3 => k1 _ _ _ (s3 _ _ e1) ?_ ⟨(s1.trans s3).upd h2 _, ?_⟩⟩
    · rw [List.length_map, List.length_map, List.length_take]; exact small1000 (by omega)
    · rw [upd_same, List.take_succ, ht, List.map_append, List.map_append]; rfl
  · rintro H1 ⟨s1, e1⟩
    rw [List.length_map, hB.1, List.take_length] at e1
    have ok : ∀ t ∈ ts, okT t := fun t ht => by
      obtain ⟨x, hx⟩ := hB.mem ht
      exact IsTr.ok _ hx
    exact ⟨l2, _, rfl, SqL.of e1, (texts_fit hN.2.1 ok few).1, q H1 s1⟩
theorem ok_M_AnyOf_words (d : Nat) {f : Addr} {fd : FuncData} (F : Fun K "words" "AnyOf.words" s_M_AnyOf_words f fd) (D_P_list_words : DefOk P w K mg base (2 * d + 5) "list_words" ["bids", "names"] [] (spOverW K c_Bid c_Only c_SoMany c_UpTo c_Several c_AnyOf c_OneOf c_Stock d)) 
    (O_Bid : Own K mg "Bid" c_Bid [])
    (O_Only : Own K mg "Only" c_Only ["bundle", "amount"])
    (O_SoMany : Own K mg "SoMany" c_SoMany ["kind", "least", "amount"])
    (O_UpTo : Own K mg "UpTo" c_UpTo ["kind", "most", "each"])
    (O_Several : Own K mg "Several" c_Several ["bids"])
    (O_AnyOf : Own K mg "AnyOf" c_AnyOf ["bids"])
    (O_OneOf : Own K mg "OneOf" c_OneOf ["bids"])
    (O_Stock : Own K mg "Stock" c_Stock ["numbers", "kinds"]) :
    FnOk P w K mg base CX0 (2 * d + 6) f fd ["self", "names"] (spSevW K true c_Bid c_Only c_SoMany c_UpTo c_Several c_AnyOf c_OneOf c_Stock (d + 1)) := by
  refine F.okQ sc_M_AnyOf_words (fun vs H Q E h => ?_) (fun cdv A outer s H vs Q E hr h => ?_)
  · obtain ⟨a, ts, A, nl, ns, m, rfl, _⟩ := h; rfl
  obtain ⟨a, ts, A, nl, ns, m, rfl, hT, few, hN, hm, hmn, hs, q⟩ := h
  have ok := okL_mem (okT_node.mp (IsTr.ok _ hT))
  obtain ⟨dx, l, bs, e1, e2, e3, e4⟩ := hT
  obtain ⟨_, _, _, _, _, l6, l7, l8, l9⟩ := lens
  have jl := (texts_fit hN.2.1 ok few).2
  refine ⟨_, (R.pss_cons (R.ps_set (i := 2) sc_M_AnyOf_words.nd rfl (Or.inl rfl) (R.pe_callD D_P_list_words hr (by first | decide | omega) rfl (R.pa_c (R.pe_fld K (R.pv 0)) (R.pa_c (R.pv 1) R.pa_nil))))
    (R.pss_one (R.ps_ret (R.pe_joined (R.fps_cons R.pe_str (R.fps_cons (R.pe_fs (R.pv 2)) (R.fps_cons R.pe_str R.fps_nil))))))), ?_⟩
  refine ⟨_, rfl, a, c_AnyOf, dx, _, .ref l, rfl, e1, O_AnyOf.cls, O_AnyOf.no _ (mem_at 0 rfl), rfl, _, rfl, l, bs, ts, A, nl, ns, m, rfl, e3, e4, few, hN, hm, hmn, hs, fun H1 s1 => ?_⟩
  refine ⟨Str.ofString "any(", rfl, sz (by rw [strLen_append, empty_len]; omega), _, rfl, Txt.join (Str.ofString "; ") (ts.map (textT ns)), rfl, sz (by omega), Txt.join (Str.ofString "; ") (ts.map (textT ns)), rfl, sz (by rw [strLen_append, strLen_append, empty_len]; omega), Str.ofString ")", rfl, sz (by rw [strLen_append, strLen_append, strLen_append, empty_len]; omega), sz (by rw [strLen_append, strLen_append, strLen_append, empty_len]; omega), ?_⟩
  rw [empty_app]
  have z := q H1 s1
  rw [textT_node] at z
  exact z
theorem ok_M_OneOf_words (d : Nat) {f : Addr} {fd : FuncData} (F : Fun K "words" "OneOf.words" s_M_OneOf_words f fd) (D_P_list_words : DefOk P w K mg base (2 * d + 5) "list_words" ["bids", "names"] [] (spOverW K c_Bid c_Only c_SoMany c_UpTo c_Several c_AnyOf c_OneOf c_Stock d)) 
    (O_Bid : Own K mg "Bid" c_Bid [])
    (O_Only : Own K mg "Only" c_Only ["bundle", "amount"])
    (O_SoMany : Own K mg "SoMany" c_SoMany ["kind", "least", "amount"])
    (O_UpTo : Own K mg "UpTo" c_UpTo ["kind", "most", "each"])
    (O_Several : Own K mg "Several" c_Several ["bids"])
    (O_AnyOf : Own K mg "AnyOf" c_AnyOf ["bids"])
    (O_OneOf : Own K mg "OneOf" c_OneOf ["bids"])
    (O_Stock : Own K mg "Stock" c_Stock ["numbers", "kinds"]) :
    FnOk P w K mg base CX0 (2 * d + 6) f fd ["self", "names"] (spSevW K false c_Bid c_Only c_SoMany c_UpTo c_Several c_AnyOf c_OneOf c_Stock (d + 1)) := by
  refine F.okQ sc_M_OneOf_words (fun vs H Q E h => ?_) (fun cdv A outer s H vs Q E hr h => ?_)
  · obtain ⟨a, ts, A, nl, ns, m, rfl, _⟩ := h; rfl
  obtain ⟨a, ts, A, nl, ns, m, rfl, hT, few, hN, hm, hmn, hs, q⟩ := h
  have ok := okL_mem (okT_node.mp (IsTr.ok _ hT))
  obtain ⟨dx, l, bs, e1, e2, e3, e4⟩ := hT
  obtain ⟨_, _, _, _, _, l6, l7, l8, l9⟩ := lens
  have jl := (texts_fit hN.2.1 ok few).2
  refine ⟨_, (R.pss_cons (R.ps_set (i := 2) sc_M_OneOf_words.nd rfl (Or.inl rfl) (R.pe_callD D_P_list_words hr (by first | decide | omega) rfl (R.pa_c (R.pe_fld K (R.pv 0)) (R.pa_c (R.pv 1) R.pa_nil))))
    (R.pss_one (R.ps_ret (R.pe_joined (R.fps_cons R.pe_str (R.fps_cons (R.pe_fs (R.pv 2)) (R.fps_cons R.pe_str R.fps_nil))))))), ?_⟩
  refine ⟨_, rfl, a, c_OneOf, dx, _, .ref l, rfl, e1, O_OneOf.cls, O_OneOf.no _ (mem_at 0 rfl), rfl, _, rfl, l, bs, ts, A, nl, ns, m, rfl, e3, e4, few, hN, hm, hmn, hs, fun H1 s1 => ?_⟩
  refine ⟨Str.ofString "one(", rfl, sz (by rw [strLen_append, empty_len]; omega), _, rfl, Txt.join (Str.ofString "; ") (ts.map (textT ns)), rfl, sz (by omega), Txt.join (Str.ofString "; ") (ts.map (textT ns)), rfl, sz (by rw [strLen_append, strLen_append, empty_len]; omega), Str.ofString ")", rfl, sz (by rw [strLen_append, strLen_append, strLen_append, empty_len]; omega), sz (by rw [strLen_append, strLen_append, strLen_append, empty_len]; omega), ?_⟩
  rw [empty_app]
  have z := q H1 s1
  rw [textT_node] at z
  exact z
theorem fam_words {f1 f2 f3 f4 f5 f6 f7 : Addr} {d1 d2 d3 d4 d5 d6 d7 : FuncData} (F1 : Fun K "words" "Bid.words" s_M_Bid_words f1 d1) (F2 : Fun K "words" "Only.words" s_M_Only_words f2 d2) (F3 : Fun K "words" "SoMany.words" s_M_SoMany_words f3 d3) (F4 : Fun K "words" "UpTo.words" s_M_UpTo_words f4 d4)
    (F5 : Fun K "words" "AnyOf.words" s_M_AnyOf_words f5 d5) (F6 : Fun K "words" "OneOf.words" s_M_OneOf_words f6 d6) (F7 : Fun K "list_words" "list_words" s_P_list_words f7 d7) (g7 : mg "list_words" = some (.ref f7))
    (D_P_place_words : DefOk P w K mg base 3 "place_words" ["bundle", "names"] [] (sp_P_place_words K)) 
    (O_Bid : Own K mg "Bid" c_Bid [])
    (O_Only : Own K mg "Only" c_Only ["bundle", "amount"])
    (O_SoMany : Own K mg "SoMany" c_SoMany ["kind", "least", "amount"])
    (O_UpTo : Own K mg "UpTo" c_UpTo ["kind", "most", "each"])
    (O_Several : Own K mg "Several" c_Several ["bids"])
    (O_AnyOf : Own K mg "AnyOf" c_AnyOf ["bids"])
    (O_OneOf : Own K mg "OneOf" c_OneOf ["bids"])
    (O_Stock : Own K mg "Stock" c_Stock ["numbers", "kinds"])
    (M1 : Meth K c_Bid "words" f1) (M2 : Meth K c_Only "words" f2) (M3 : Meth K c_SoMany "words" f3) (M4 : Meth K c_UpTo "words" f4) (M5 : Meth K c_AnyOf "words" f5) (M6 : Meth K c_OneOf "words" f6) :
    ∀ d, ∀ C sp, TWd K c_Bid c_Only c_SoMany c_UpTo c_Several c_AnyOf c_OneOf c_Stock d C sp → ∃ ps, MethD P w K mg base (2 * d + 4) C "words" ps sp := by
  have l1 := ok_M_Bid_words (P := P) (w := w) (base := base) (mg := mg) F1 O_Bid O_Only O_SoMany O_UpTo O_Several O_AnyOf O_OneOf O_Stock
  have l2 := ok_M_Only_words (P := P) (w := w) (base := base) (mg := mg) F2 D_P_place_words O_Bid O_Only O_SoMany O_UpTo O_Several O_AnyOf O_OneOf O_Stock
  have l3 := ok_M_SoMany_words (P := P) (w := w) (base := base) (mg := mg) F3 D_P_place_words O_Bid O_Only O_SoMany O_UpTo O_Several O_AnyOf O_OneOf O_Stock
  have l4 := ok_M_UpTo_words (P := P) (w := w) (base := base) (mg := mg) F4 D_P_place_words O_Bid O_Only O_SoMany O_UpTo O_Several O_AnyOf O_OneOf O_Stock
  have b1 : Binds K d1 ["self", "names"] [] := bnd2 F1 fun _ _ _ _ _ _ _ _ => rfl
  have b2 : Binds K d2 ["self", "names"] [] := bnd2 F2 fun _ _ _ _ _ _ _ _ => rfl
  have b3 : Binds K d3 ["self", "names"] [] := bnd2 F3 fun _ _ _ _ _ _ _ _ => rfl
  have b4 : Binds K d4 ["self", "names"] [] := bnd2 F4 fun _ _ _ _ _ _ _ _ => rfl
  have b5 : Binds K d5 ["self", "names"] [] := bnd2 F5 fun _ _ _ _ _ _ _ _ => rfl
  have b6 : Binds K d6 ["self", "names"] [] := bnd2 F6 fun _ _ _ _ _ _ _ _ => rfl
  have put : ∀ d, FnOk P w K mg base CX0 (2 * d + 4) f5 d5 ["self", "names"] (spSevW K true c_Bid c_Only c_SoMany c_UpTo c_Several c_AnyOf c_OneOf c_Stock d) → FnOk P w K mg base CX0 (2 * d + 4) f6 d6 ["self", "names"] (spSevW K false c_Bid c_Only c_SoMany c_UpTo c_Several c_AnyOf c_OneOf c_Stock d) → ∀ C sp, TWd K c_Bid c_Only c_SoMany c_UpTo c_Several c_AnyOf c_OneOf c_Stock d C sp → ∃ ps, MethD P w K mg base (2 * d + 4) C "words" ps sp := by
    intro d h5 h6 C sp hT
    rcases hT with ⟨rfl, rfl⟩ | ⟨rfl, rfl⟩ | ⟨rfl, rfl⟩ | ⟨rfl, rfl⟩ | ⟨rfl, rfl⟩ | ⟨rfl, rfl⟩
    · exact ⟨_, f1, d1, l1.mono (by omega), b1, M1, O_Bid.cls⟩
    · exact ⟨_, f2, d2, l2.mono (by omega), b2, M2, O_Only.cls⟩
    · exact ⟨_, f3, d3, l3.mono (by omega), b3, M3, O_SoMany.cls⟩
    · exact ⟨_, f4, d4, l4.mono (by omega), b4, M4, O_UpTo.cls⟩
    · exact ⟨_, f5, d5, h5, b5, M5, O_AnyOf.cls⟩
    · exact ⟨_, f6, d6, h6, b6, M6, O_OneOf.cls⟩
  intro d
  induction d with
  | zero =>
    refine put 0 (F5.okQ sc_M_AnyOf_words (fun vs H Q E h => ?_) (fun cdv A outer s H vs Q E hr h => ?_)) (F6.okQ sc_M_OneOf_words (fun vs H Q E h => ?_) (fun cdv A outer s H vs Q E hr h => ?_))
    · obtain ⟨a, ts, A, nl, ns, m, rfl, _⟩ := h; rfl
    · obtain ⟨a, ts, A, nl, ns, m, rfl, hT, _⟩ := h; exact hT.elim
    · obtain ⟨a, ts, A, nl, ns, m, rfl, _⟩ := h; rfl
    · obtain ⟨a, ts, A, nl, ns, m, rfl, hT, _⟩ := h; exact hT.elim
  | succ d ih =>
    have D := ok_P_list_words d F7 g7 O_Bid O_Only O_SoMany O_UpTo O_Several O_AnyOf O_OneOf O_Stock ih
    exact put (d + 1) (ok_M_AnyOf_words d F5 D O_Bid O_Only O_SoMany O_UpTo O_Several O_AnyOf O_OneOf O_Stock) (ok_M_OneOf_words d F6 D O_Bid O_Only O_SoMany O_UpTo O_Several O_AnyOf O_OneOf O_Stock)
end
end My


set_option Elab.async false
set_option linter.all false
set_option maxRecDepth 100000
set_option maxHeartbeats 4000000
namespace My
open PySem PySem.Spec PyProof.Rows L2 GM
noncomputable def T_names (K : PySem.W.Frag) (c_Bid c_Only c_SoMany c_UpTo c_Several c_AnyOf c_OneOf c_Stock : Addr) : Addr → Sp → Prop := fun C sp => (C = c_Stock ∧ sp = sp_M_Stock_names K c_Stock)
theorem bits_are : ∀ b < 64, ∀ k < 6, decide (b / 2 ^ k &&& 1 = 1) = b.testBit k := by decide +kernel
theorem sub_le : ∀ m < 7, ∀ b < 64, b ≤ 2 ^ m - 1 → b ||| (2 ^ m - 1) = 2 ^ m - 1 := by decide +kernel
theorem names_map (ns : List (List Nat)) : ns.map sv = (ns.map tx).map V.str := by rw [List.map_map]; rfl
theorem nm_names {K : PySem.W.Frag} {H : Hp} {l : Addr} {ns : List (List Nat)} (h : H l = some (.lst (ns.map sv))) (ok : ∀ n ∈ ns, nameOk n = true) (few : ns.length ≤ 6) : NmAt K H l (ns.map tx) := by
  refine ⟨SqL.of (by rw [← names_map]; exact h), fun x hx => ?_, by rw [List.length_map]; omega⟩
  obtain ⟨n, hn, rfl⟩ := List.mem_map.mp hx
  have := ok_len (ok n hn)
  rw [tx_len]; omega
noncomputable def sp_P_shown_bid (K : PySem.W.Frag) (c_Bid c_Only c_SoMany c_UpTo c_Several c_AnyOf c_OneOf c_Stock : Addr) : Sp := fun vs H Q _ => ∃ (b a : Addr) (t : Tr) (A : Addr → Prop) (ns ks : List (List Nat)), vs = [.ref b, .ref a] ∧ IsTr c_Bid c_Only c_SoMany c_UpTo c_AnyOf c_OneOf A H 5 b t ∧ tallyT t ≤ 100 ∧ IsStock c_Stock H a ns ks ∧ Sub (spokenT t) ns.length ∧ ∀ H', Same H H' → Q (.str (textT (ns.map tx) t)) H'
noncomputable def sp_L_leaf (_K : PySem.W.Frag) : Sp := fun vs H Q _ => ∃ (c d : Int) (m : Nat), vs = [.int c, .int d, nv (2 ^ m - 1)] ∧ m ≤ 6 ∧ ∀ p H' t, Same H H' → depthT t = 1 → tallyT t = 1 → FT (fun l => H l = none) H' 1 p t → Sub (spokenT t) m → Q (.ref p) H'
noncomputable def sp_L_place (K : PySem.W.Frag) : Sp := sp_P_place_words K
noncomputable def spTxt (K : PySem.W.Frag) (d : Nat) : Sp := fun vs H Q _ => ∃ (p : Addr) (t : Tr) (A : Addr → Prop) (nl : Addr) (ns : List Str) (m : Nat), vs = [.ref p, .ref nl] ∧ FT A H d p t ∧ tallyT t ≤ 100 ∧ NmAt K H nl ns ∧ m ≤ 6 ∧ m ≤ ns.length ∧ Sub (spokenT t) m ∧ ∀ H', Same H H' → Q (.str (textT ns t)) H'
noncomputable def sp_L_text (K : PySem.W.Frag) : Sp := spTxt K 4
noncomputable def sp_L_form (K : PySem.W.Frag) : Sp := fun vs H Q _ => ∃ (a : Addr) (sc : List Int) (m : Nat), vs = [.ref a, nv (2 ^ m - 1)] ∧ SqL K H a (sc.map V.int) ∧ m ≤ 6 ∧ ∀ p H' t, Same H H' → FT (fun _ => True) H' 4 p t → depthT t ≤ 4 → tallyT t ≤ 24 → Sub (spokenT t) m → Q (.ref p) H'
noncomputable def sp_L_good (K : PySem.W.Frag) (c_Bid c_Only c_SoMany c_UpTo c_Several c_AnyOf c_OneOf c_Stock : Addr) : Sp := fun vs H Q _ => ∃ (b a nl : Addr) (t : Tr) (A : Addr → Prop) (ns ks : List (List Nat)) (nx : List Str), vs = [.ref b, .ref a, .ref nl, .str (textT (ns.map tx) t)] ∧ IsTr c_Bid c_Only c_SoMany c_UpTo c_AnyOf c_OneOf A H 5 b t ∧ tallyT t ≤ 100 ∧ IsStock c_Stock H a ns ks ∧ Sub (spokenT t) ns.length ∧ NmAt K H nl nx ∧ ns.length ≤ nx.length ∧ textT nx t = textT (ns.map tx) t ∧ ∀ H', Same H H' → Q (.bl true) H'
section
variable {P : Program} {w : World} {K : PySem.W.Frag} {mg : Str → Option Value} {base : Heap}
variable {c_Bid c_Only c_SoMany c_UpTo c_Several c_AnyOf c_OneOf c_Stock : Addr}
theorem ok_P_shown_bid {f : Addr} {fd : FuncData} (F : Fun K "shown_bid" "shown_bid" s_P_shown_bid f fd) (m_self : mg "shown_bid" = some (.ref f))
    (O_Bid : Own K mg "Bid" c_Bid [])
    (O_Only : Own K mg "Only" c_Only ["bundle", "amount"])
    (O_SoMany : Own K mg "SoMany" c_SoMany ["kind", "least", "amount"])
    (O_UpTo : Own K mg "UpTo" c_UpTo ["kind", "most", "each"])
    (O_Several : Own K mg "Several" c_Several ["bids"])
    (O_AnyOf : Own K mg "AnyOf" c_AnyOf ["bids"])
    (O_OneOf : Own K mg "OneOf" c_OneOf ["bids"])
    (O_Stock : Own K mg "Stock" c_Stock ["numbers", "kinds"])
    (hT_words : ∀ C sp, T_words K c_Bid c_Only c_SoMany c_UpTo c_Several c_AnyOf c_OneOf c_Stock C sp → ∃ ps, MethD P w K mg base 14 C "words" ps sp)
    (hT_names : ∀ C sp, T_names K c_Bid c_Only c_SoMany c_UpTo c_Several c_AnyOf c_OneOf c_Stock C sp → ∃ ps, MethD P w K mg base 1 C "names" ps sp) : DefOk P w K mg base 15 "shown_bid" ["bid", "stock"] [] (sp_P_shown_bid K c_Bid c_Only c_SoMany c_UpTo c_Several c_AnyOf c_OneOf c_Stock) := by
  refine F.def_okQ m_self (bnd2 F fun _ _ _ _ _ _ _ _ => rfl) sc_P_shown_bid (fun vs H Q E h => ?_) (fun cdv A outer s H vs Q E hr h => ?_)
  · obtain ⟨b, a, t, A, ns, ks, rfl, _⟩ := h; rfl
  obtain ⟨b, a, t, A, ns, ks, rfl, hT, few, hSt, hs, q⟩ := h
  refine ⟨_, (R.pss_one (R.ps_ret (R.pe_methV (R.pv 0) hT_words hr (by first | decide | omega) (R.pa_c (R.pe_methV0 (R.pv 1) hT_names hr (by first | decide | omega)) R.pa_nil)))), ?_⟩
  have hG := hSt
  obtain ⟨dx, d1, d2, kk, e1, e2, e3, e4, e5, g6, gok, gnd, gko⟩ := hG
  obtain ⟨C, dx', ff, sp, g1, g2, g3, g4⟩ := ask_words K (c_Several := c_Several) (c_Stock := c_Stock) hT few g6 hs
  refine ⟨_, rfl, b, C, dx', ff, sp, rfl, g1, g2, g3, _, rfl, a, c_Stock, dx, _, sp_M_Stock_names K c_Stock, rfl, e1, rfl, ⟨rfl, rfl⟩, a, ns, ks, rfl, hSt, fun l hl => ?_⟩
  have s1 := same_new hl (.lst (ns.map sv))
  exact g4 _ l (ns.map tx) s1 (nm_names upd_same gok g6) (by rw [List.length_map]; exact Nat.le_refl _) _ fun H' s' => q H' (s1.trans s')
theorem ok_L_place {f : Addr} {fd : FuncData} (F : Fun K "_law_place" "_law_place" s_L_place f fd) (m_self : mg "_law_place" = some (.ref f)) (m_range : mg "range" = none) : DefOk P w K mg base 1 "_law_place" ["_law_bundle", "_law_names_here"] [] (sp_L_place K) := by
  refine F.def_okQ m_self (bnd2 F fun _ _ _ _ _ _ _ _ => rfl) sc_L_place (fun vs H Q E h => ?_) (fun cdv A outer s H vs Q E hr h => ?_)
  · obtain ⟨b, nl, ns, rfl, _⟩ := h; rfl
  obtain ⟨b, nl, ns, rfl, hb, hN, hk, q⟩ := h
  refine ⟨_, (R.pss_one (R.ps_ret (R.pe_join K R.pe_str (R.pe_comp (defScope s_L_place) ["_law_bundle", "_law_names_here"] ["_law_k"] ["_law_bundle", "_law_names_here"] [0, 1] rfl rfl rfl ⟨s.heap.objs.size + 1, rfl⟩ rfl rfl (by decide +kernel) (R.pi_range1 rfl m_range (R.pa_c R.pe_int R.pa_nil)) (fun C s2 H2 fp => (R.pg_name (i := 0) (show List.Nodup (["_law_k", "_law_bundle", "_law_names_here"] : List Str) from by decide +kernel) rfl (Or.inl rfl))) (fun C s2 H2 fp => (R.pf_one (R.pt_cmpR op_eq (R.pe_op op_andN (R.pe_op op_shrN (R.pv 1) (R.pv 0)) R.pe_int) R.pe_int (nomark _)))) (fun C s2 H2 fp => (R.pe_ix (R.ixL K) (R.pv 2) (R.pv 0) (fun _ _ => rfl))))))), ?_⟩
  refine ⟨Str.ofString "+", rfl, 6, rfl, by decide, by decide, fun l2 h2 => ?_⟩
  refine comp_rng_map (n := 6) (lo := 0) (fun k => b.testBit k) (fun k => .str (ns.getD k Str.empty)) (by decide) h2 ?_ ?_ ?_
  · intro k H1 hk6 s1 C hC
    rw [Int.zero_add]
    have z := hC H1 (Same.refl _)
    refine ⟨_, rfl, _, rfl, b, k, rfl, rfl, _, 1, rfl, rfl, rfl, _, rfl, ?_⟩
    rw [← bits_are b hb k hk6] at z
    rw [show decide (V.int ((b / 2 ^ k &&& 1 : Nat) : Int) = V.int 1) = decide (b / 2 ^ k &&& 1 = 1) from int_eq_nat (b := 1)]
    exact z
  · intro k H1 hk6 hp s1 C hC
    rw [Int.zero_add]
    have hm : k ∈ things b := List.mem_filter.mpr ⟨List.mem_range.mpr hk6, hp⟩
    exact ⟨_, rfl, _, rfl, nl, _, _, _, rfl, rfl, (hN.same s1).1, getD_name (hk k hm), hC _ (Same.refl _)⟩
  · intro H1 s1 e1
    have em : (((List.range 6).filter fun k => b.testBit k).map fun k => V.str (ns.getD k Str.empty)) = ((things b).map fun k => ns.getD k Str.empty).map V.str := by
      rw [List.map_map]; rfl
    rw [em] at e1
    exact ⟨l2, _, rfl, SqL.of e1, (place_fits hN.2.1 b).1, q H1 s1⟩
theorem ok_L_leaf {f : Addr} {fd : FuncData} (F : Fun K "_law_leaf" "_law_leaf" s_L_leaf f fd) (m_self : mg "_law_leaf" = some (.ref f))
    (D_L_amount : DefOk P w K mg base 1 "_law_amount" ["_law_cell_here"] [] (sp_L_amount K)) : DefOk P w K mg base 2 "_law_leaf" ["_law_cell_here", "_law_other", "_law_last"] [] (sp_L_leaf K) := by
  refine F.def_okQ m_self (bnd3 F fun _ _ _ _ _ _ _ _ _ => rfl) sc_L_leaf (fun vs H Q E h => ?_) (fun cdv A outer s H vs Q E hr h => ?_)
  · obtain ⟨c, d, m, rfl, _⟩ := h; rfl
  obtain ⟨c, d, m, rfl, hm6, q⟩ := h
  refine ⟨_, (R.pss_cons (R.ps_set (i := 3) sc_L_leaf.nd rfl (Or.inl rfl) (R.pe_ix (R.ixL K) (R.pe_lst (R.pa_c R.pe_str (R.pa_c R.pe_str (R.pa_c R.pe_str (R.pa_c R.pe_str (R.pa_c R.pe_str (R.pa_c R.pe_str (R.pa_c R.pe_str (R.pa_c R.pe_str (R.pa_c R.pe_str R.pa_nil)))))))))) (R.pe_op (opE op_mod) (R.pv 0) R.pe_int) (fun _ _ => rfl)))
    (R.pss_cons (R.ps_if (R.pt_cmpR op_gt (R.pe_op (opE op_mod) (R.pv 0) R.pe_int) R.pe_int (nomark _)) (R.pss_one (R.ps_ret (R.pe_tup (R.pa_c (R.pv 3) (R.pa_c (R.pe_lst R.pa_nil) R.pa_nil))))) R.pss_nil)
    (R.pss_cons (R.ps_if (R.pt_cmpR op_eq (R.pv 2) R.pe_int (nomark _)) (R.pss_one (R.ps_ret (R.pe_tup (R.pa_c R.pe_str (R.pa_c R.pe_int (R.pa_c R.pe_int (R.pa_c R.pe_int R.pa_nil))))))) R.pss_nil)
    (R.pss_one (R.ps_ret (R.pe_tup (R.pa_c (R.pv 3) (R.pa_c (R.pe_op (opE0 op_add) R.pe_int (R.pe_op (opE op_mod) (R.pe_op op_fdiv (R.pv 0) R.pe_int) (R.pv 2))) (R.pa_c (R.pe_op (opE0 op_add) R.pe_int (R.pe_op (opE op_mod) (R.pe_op op_fdiv (R.pv 0) R.pe_int) R.pe_int)) (R.pa_c (R.pe_callD D_L_amount hr (by first | decide | omega) rfl (R.pa_c (R.pv 1) R.pa_nil)) R.pa_nil)))))))))), ?_⟩
  obtain ⟨f64, fpos⟩ := pow6 hm6
  obtain ⟨z, ez, hz⟩ := mod_nat c 9 (by decide)
  obtain ⟨n, en, hn⟩ := mod_nat (c / 567) 6 (by decide)
  refine ⟨(by show 9 ≤ sizeLine; decide), fun l hl => ?_⟩
  have s1 := same_new hl (.lst [V.str "none", .str "only", .str "some", .str "most", .str "only", .str "some", .str "most", .str "any", .str "one"])
  obtain ⟨wd, ew, hf⟩ : ∃ wd : Str, atI [V.str "none", .str "only", .str "some", .str "most", .str "only", .str "some", .str "most", .str "any", .str "one"] (z : Int) = some (.str wd) ∧ ((z ≤ 6 ∧ ∀ b : Nat, 1 + b ≤ 63 → ∃ f, wd = word f ∧ FormOk f ∧ Fits f (1 + b) (1 + n) (amountBy d) ∧ (spokenF f = 0 ∨ spokenF f = 1 + b)) ∨ (6 < z ∧ ∃ any, wd = wordN any)) := by
    have am : AmtOk (amountBy d) := ⟨amountBy_nonneg d, amountBy_le d⟩
    have o1 : ∀ b : Nat, 1 + b ≤ 63 → ∃ f, ("only" : Str) = word f ∧ FormOk f ∧ Fits f (1 + b) (1 + n) (amountBy d) ∧ (spokenF f = 0 ∨ spokenF f = 1 + b) := fun b hb => ⟨.only (1 + b) (amountBy d), rfl, ⟨by omega, by omega, am⟩, ⟨rfl, rfl⟩, .inr rfl⟩
    have o2 : ∀ b : Nat, 1 + b ≤ 63 → ∃ f, ("some" : Str) = word f ∧ FormOk f ∧ Fits f (1 + b) (1 + n) (amountBy d) ∧ (spokenF f = 0 ∨ spokenF f = 1 + b) := fun b hb => ⟨.some (1 + b) (1 + n) (amountBy d), rfl, ⟨by omega, by omega, by omega, by omega, am⟩, ⟨rfl, rfl, rfl⟩, .inr rfl⟩
    have o3 : ∀ b : Nat, 1 + b ≤ 63 → ∃ f, ("most" : Str) = word f ∧ FormOk f ∧ Fits f (1 + b) (1 + n) (amountBy d) ∧ (spokenF f = 0 ∨ spokenF f = 1 + b) := fun b hb => ⟨.most (1 + b) (1 + n) (amountBy d), rfl, ⟨by omega, by omega, by omega, by omega, am⟩, ⟨rfl, rfl, rfl⟩, .inr rfl⟩
    rcases (by omega : z = 0 ∨ z = 1 ∨ z = 2 ∨ z = 3 ∨ z = 4 ∨ z = 5 ∨ z = 6 ∨ z = 7 ∨ z = 8) with e | e | e | e | e | e | e | e | e <;> subst e
    · exact ⟨_, rfl, .inl ⟨by decide, fun b _ => ⟨.none, rfl, trivial, trivial, .inl rfl⟩⟩⟩
    · exact ⟨_, rfl, .inl ⟨by decide, o1⟩⟩
    · exact ⟨_, rfl, .inl ⟨by decide, o2⟩⟩
    · exact ⟨_, rfl, .inl ⟨by decide, o3⟩⟩
    · exact ⟨_, rfl, .inl ⟨by decide, o1⟩⟩
    · exact ⟨_, rfl, .inl ⟨by decide, o2⟩⟩
    · exact ⟨_, rfl, .inl ⟨by decide, o3⟩⟩
    · exact ⟨_, rfl, .inr ⟨by decide, true, rfl⟩⟩
    · exact ⟨_, rfl, .inr ⟨by decide, false, rfl⟩⟩
  have s0 : L2.Sub 0 m := by unfold L2.Sub; rw [Nat.zero_or]
  refine ⟨_, rfl, _, _, nv z, rfl, rfl, (by show (0 : Int) < 9; decide), congrArg V.int ez, l, _, _, _, rfl, rfl, SqL.of upd_same, ew, ?_⟩
  refine ⟨_, rfl, _, _, nv z, rfl, rfl, (by show (0 : Int) < 9; decide), congrArg V.int ez, _, _, rfl, rfl, _, rfl, ?_⟩
  refine ite2 (fun cw => ?_) (fun cw => ?_)
  · have c' : (6 : Int) < (z : Int) := of_decide_eq_true cw
    rcases hf with ⟨h6, _⟩ | ⟨_, any, rfl⟩
    · omega
    refine ⟨_, rfl, (by show 0 ≤ sizeLine; decide), fun l2 hl2 => ⟨(by show 2 ≤ sizeLine; decide), fun p hp => ?_⟩⟩
    refine q p _ (.node any []) ((s1.trans (same_new hl2 _)).trans (same_new hp _)) rfl rfl ⟨l2, [], upd_same, s1.free hl2, ?_, All2.nil⟩ s0
    exact same_new hp _ _ _ upd_same
  · rcases hf with ⟨h6, hf⟩ | ⟨h6, _⟩
    · refine ⟨_, rfl, rfl, _, rfl, ?_⟩
      by_cases hm0 : 2 ^ m - 1 = 0
      · rw [show decide (nv (2 ^ m - 1) = V.int 0) = true from decide_eq_true (by rw [hm0]; rfl)]
        refine iteT ⟨(by show 4 ≤ sizeLine; decide), fun p hp => ?_⟩
        exact q p _ (.leaf .none) (s1.trans (same_new hp _)) rfl rfl ⟨trivial, 0, 1, 0, upd_same, by decide, trivial⟩ s0
      rw [show decide (nv (2 ^ m - 1) = V.int 0) = false from decide_eq_false (fun y => hm0 (by have := V.int.inj y; omega))]
      refine iteF ?_
      obtain ⟨b, eb, hb⟩ := mod_nat (c / 9) (2 ^ m - 1) (by omega)
      obtain ⟨f, rfl, ok, fit, hsp⟩ := hf b (by omega)
      refine ⟨_, rfl, _, rfl, _, _, rfl, rfl, ⟨by decide, by decide⟩, _, rfl, _, _, nv b, rfl, rfl, (by show (0 : Int) < ((2 ^ m - 1 : Nat) : Int); omega), congrArg V.int eb, _, _, nv (1 + b), rfl, rfl, rfl, ?_⟩
      refine ⟨_, rfl, _, _, rfl, rfl, ⟨by decide, by decide⟩, _, _, nv n, rfl, rfl, (by show (0 : Int) < 6; decide), congrArg V.int en, _, _, nv (1 + n), rfl, rfl, rfl, _, rfl, d, rfl, (by show 4 ≤ sizeLine; decide), fun p hp => ?_⟩
      refine q p _ (.leaf f) (s1.trans (same_new hp _)) rfl rfl ⟨ok, 1 + b, 1 + n, amountBy d, upd_same, by omega, fit⟩ ?_
      show Sub (spokenF f) m
      rcases hsp with e | e <;> rw [e]
      · exact s0
      · exact sub_le m (by omega) (1 + b) (by omega) (by omega)
    · exact absurd (decide_eq_true (show (6 : Int) < (z : Int) by omega)) cw
theorem ok_L_good {f : Addr} {fd : FuncData} (F : Fun K "_law_good" "_law_good" s_L_good f fd) (m_self : mg "_law_good" = some (.ref f)) (m_list : mg "list" = none) (m_isinstance : mg "isinstance" = none) (m_str : mg "str" = none)
    (D_P_shown_bid : DefOk P w K mg base 15 "shown_bid" ["bid", "stock"] [] (sp_P_shown_bid K c_Bid c_Only c_SoMany c_UpTo c_Several c_AnyOf c_OneOf c_Stock))
    (O_Bid : Own K mg "Bid" c_Bid [])
    (O_Only : Own K mg "Only" c_Only ["bundle", "amount"])
    (O_SoMany : Own K mg "SoMany" c_SoMany ["kind", "least", "amount"])
    (O_UpTo : Own K mg "UpTo" c_UpTo ["kind", "most", "each"])
    (O_Several : Own K mg "Several" c_Several ["bids"])
    (O_AnyOf : Own K mg "AnyOf" c_AnyOf ["bids"])
    (O_OneOf : Own K mg "OneOf" c_OneOf ["bids"])
    (O_Stock : Own K mg "Stock" c_Stock ["numbers", "kinds"])
    (hT_words : ∀ C sp, T_words K c_Bid c_Only c_SoMany c_UpTo c_Several c_AnyOf c_OneOf c_Stock C sp → ∃ ps, MethD P w K mg base 14 C "words" ps sp) : DefOk P w K mg base 16 "_law_good" ["_law_bid", "_law_stock", "_law_names_here", "_law_due"] [] (sp_L_good K c_Bid c_Only c_SoMany c_UpTo c_Several c_AnyOf c_OneOf c_Stock) := by
  refine F.def_okQ m_self (bnd4 F fun _ _ _ _ _ _ _ _ _ _ => rfl) sc_L_good (fun vs H Q E h => ?_) (fun cdv A outer s H vs Q E hr h => ?_)
  · obtain ⟨b, a, nl, t, A, ns, ks, nx, rfl, _⟩ := h; rfl
  obtain ⟨b, a, nl, t, A, ns, ks, nx, rfl, hT, few, hSt, hs, hN, hlen, htx, q⟩ := h
  refine ⟨_, (R.pss_cons (R.ps_set (i := 4) sc_L_good.nd rfl (Or.inl rfl) (R.pe_cTy call_list_of rfl m_list (boot_list) (R.pa_c (R.pv 2) R.pa_nil)))
    (R.pss_cons (R.ps_set (i := 5) sc_L_good.nd rfl (Or.inl rfl) (R.pe_methV (R.pv 0) hT_words hr (by first | decide | omega) (R.pa_c (R.pv 4) R.pa_nil)))
    (R.pss_cons (R.ps_if (R.pt (R.pw_or (R.pt_not (R.pt_val (R.pe_isi .str rfl m_isinstance rfl m_str (R.pv 5)))) (R.pw_or (R.pt_cmpR op_ne (R.pv 5) (R.pv 3) (nomark _)) (R.pw_or1 (R.pt_cmpR (op_neS hr.units0) (R.pv 4) (R.pv 2) (nomark _)))))) (R.pss_one (R.ps_ret R.pe_bl)) R.pss_nil)
    (R.pss_cons (R.ps_expr (R.pe_clear (R.pv 4)))
    (R.pss_cons (R.ps_set (i := 5) sc_L_good.nd rfl (Or.inl rfl) (R.pe_callD D_P_shown_bid hr (by first | decide | omega) rfl (R.pa_c (R.pv 0) (R.pa_c (R.pv 1) R.pa_nil))))
    (R.pss_one (R.ps_ret (R.pe_and (R.pe_isi .str rfl m_isinstance rfl m_str (R.pv 5)) (R.pe_one (R.pe_cmpR op_eq (R.pv 5) (R.pv 3) (nomark _))))))))))), ?_⟩
  have hG := hSt
  obtain ⟨dx, d1, d2, kk, e1, e2, e3, e4, e5, g6, gok, gnd, gko⟩ := hG
  refine ⟨_, rfl, nl, _, rfl, .inl hN.1, fun lh hh => ?_⟩
  have s1 := same_new hh (.lst (nx.map V.str))
  have eh : upd H lh (.lst (nx.map V.str)) lh = some (.lst (nx.map V.str)) := upd_same
  generalize upd H lh (.lst (nx.map V.str)) = H1 at s1 eh ⊢
  have hT1 := IsTr.same s1 hT
  have hN1 : NmAt K H1 lh nx := ⟨SqL.of eh, hN.2⟩
  obtain ⟨C, dx', ff, sp, g1, g2, g3, g4⟩ := ask_words K (c_Several := c_Several) (c_Stock := c_Stock) hT1 few g6 hs
  refine ⟨_, rfl, b, C, dx', ff, sp, rfl, g1, g2, g3, _, rfl, g4 H1 lh nx (Same.refl _) hN1 hlen _ fun H2 s2 => ?_⟩
  rw [htx]
  have eh2 := s2 _ _ eh
  refine ⟨_, rfl, _, .str, rfl, TyOf.str _, _, rfl, iteF ?_⟩
  refine ⟨_, rfl, _, rfl, rfl, _, rfl, ?_⟩
  rw [decide_eq_true rfl]
  refine iteF ?_
  refine ⟨_, rfl, _, rfl, lh, nl, nx, nx, rfl, rfl, SqL.of eh2, (s1.trans s2).seq hN.1, _, rfl, ?_⟩
  rw [if_pos rfl, decide_eq_true rfl]
  refine iteF ?_
  refine ⟨_, rfl, .inl ⟨rfl, _, SqL.of eh2⟩, lh, _, rfl, rfl, eh2, ?_⟩
  have s3 : Same H (upd H2 lh (.lst [])) := (s1.trans s2).upd hh _
  refine ⟨_, rfl, _, rfl, b, a, t, A, ns, ks, rfl, IsTr.same s3 hT, few, IsStock.same s3 hSt, hs, fun H4 s4 => ?_⟩
  refine ⟨_, rfl, _, .str, rfl, TyOf.str _, _, rfl, iteT ?_⟩
  refine ⟨_, rfl, _, rfl, rfl, ?_⟩
  rw [decide_eq_true rfl]
  exact q H4 (s3.trans s4)
end
end My


set_option Elab.async false
set_option linter.all false
set_option maxRecDepth 100000
set_option maxHeartbeats 4000000
namespace My
open PySem PySem.Spec PyProof.Rows L2 GM
theorem word_head (any : Bool) : wordN any ++ Str.ofString "(" = headW any := by cases any <;> decide
theorem word_len (any : Bool) : (wordN any).length = 3 := by cases any <;> rfl
theorem par_len : (Str.ofString "(").length = 1 := rfl
theorem spoken_snoc (ts : List Tr) (t : Tr) : spokenL (ts ++ [t]) = spokenL ts ||| spokenT t := by
  rw [spokenL_append]; show _ ||| (spokenT t ||| 0) = _; rw [Nat.or_zero]
theorem Sub.or2 {x y m : Nat} (h1 : L2.Sub x m) (h2 : L2.Sub y m) : L2.Sub (x ||| y) m := by
  unfold L2.Sub at *
  rw [Nat.or_assoc, h2, h1]
section
variable {P : Program} {w : World} {K : PySem.W.Frag} {mg : Str → Option Value} {base : Heap}
theorem ok_L_text (d : Nat) {f : Addr} {fd : FuncData} (F : Fun K "_law_text" "_law_text" s_L_text f fd) (m_self : mg "_law_text" = some (.ref f)) (m_str : mg "str" = none)
    (D_L_place : DefOk P w K mg base 1 "_law_place" ["_law_bundle", "_law_names_here"] [] (sp_L_place K)) (D_L_text : DefOk P w K mg base (8 + d) "_law_text" ["_law_form_here", "_law_names_here"] [] (spTxt K d)) : DefOk P w K mg base (8 + d + 1) "_law_text" ["_law_form_here", "_law_names_here"] [] (spTxt K (d + 1)) := by
  refine F.def_okQ m_self (bnd2 F fun _ _ _ _ _ _ _ _ => rfl) sc_L_text (fun vs H Q E h => ?_) (fun cdv A outer s H vs Q E hr h => ?_)
  · obtain ⟨p, t, A, nl, ns, m, rfl, _⟩ := h; rfl
  obtain ⟨p, t, A, nl, ns, m, rfl, hF, few, hN, hm, hmn, hs, q⟩ := h
  refine ⟨_, (R.pss_cons (R.ps_if (R.pt_cmpR op_eq (R.pe_ix (R.ixT K) (R.pv 0) R.pe_int (fun _ _ => rfl)) R.pe_str (nomark _)) (R.pss_one (R.ps_ret R.pe_str)) R.pss_nil)
    (R.pss_cons (R.ps_if (R.pt_cmpR op_in_seq (R.pe_ix (R.ixT K) (R.pv 0) R.pe_int (fun _ _ => rfl)) (R.pe_tup (R.pa_c R.pe_str (R.pa_c R.pe_str R.pa_nil))) (by with_unfolding_all rfl)) (R.pss_one (R.ps_ret (R.pe_op op_add_str (R.pe_op op_add_str (R.pe_op op_add_str (R.pe_ix (R.ixT K) (R.pv 0) R.pe_int (fun _ _ => rfl)) R.pe_str) (R.pe_join K R.pe_str (R.pe_comp (defScope s_L_text) ["_law_form_here", "_law_names_here", "_law_place_here"] ["_law_part"] ["_law_names_here"] [1] rfl rfl rfl ⟨s.heap.objs.size + 1, rfl⟩ rfl rfl (by decide +kernel) (R.pi_list (R.pe_ix (R.ixT K) (R.pv 0) R.pe_int (fun _ _ => rfl))) (fun C s2 H2 fp => (R.pg_name (i := 0) (show List.Nodup (["_law_part", "_law_names_here"] : List Str) from by decide +kernel) rfl (Or.inl rfl))) (fun C s2 H2 fp => R.pf_nil) (fun C s2 H2 fp => (R.pe_callD D_L_text hr (by first | decide | omega) rfl (R.pa_c (R.pv 0) (R.pa_c (R.pv 1) R.pa_nil))))))) R.pe_str))) R.pss_nil)
    (R.pss_cons (R.ps_set (i := 2) sc_L_text.nd rfl (Or.inl rfl) (R.pe_callD D_L_place hr (by first | decide | omega) rfl (R.pa_c (R.pe_ix (R.ixT K) (R.pv 0) R.pe_int (fun _ _ => rfl)) (R.pa_c (R.pv 1) R.pa_nil))))
    (R.pss_cons (R.ps_if (R.pt_cmpR op_eq (R.pe_ix (R.ixT K) (R.pv 0) R.pe_int (fun _ _ => rfl)) R.pe_str (nomark _)) (R.pss_one (R.ps_ret (R.pe_op op_add_str (R.pe_op op_add_str (R.pv 2) R.pe_str) (R.pe_cTy call_str_int rfl m_str (boot_str) (R.pa_c (R.pe_ix (R.ixT K) (R.pv 0) R.pe_int (fun _ _ => rfl)) R.pa_nil))))) R.pss_nil)
    (R.pss_cons (R.ps_if (R.pt_cmpR op_eq (R.pe_ix (R.ixT K) (R.pv 0) R.pe_int (fun _ _ => rfl)) R.pe_str (nomark _)) (R.pss_one (R.ps_ret (R.pe_op op_add_str (R.pe_op op_add_str (R.pe_op op_add_str (R.pe_op op_add_str (R.pe_cTy call_str_int rfl m_str (boot_str) (R.pa_c (R.pe_ix (R.ixT K) (R.pv 0) R.pe_int (fun _ _ => rfl)) R.pa_nil)) R.pe_str) (R.pv 2)) R.pe_str) (R.pe_cTy call_str_int rfl m_str (boot_str) (R.pa_c (R.pe_ix (R.ixT K) (R.pv 0) R.pe_int (fun _ _ => rfl)) R.pa_nil))))) R.pss_nil)
    (R.pss_one (R.ps_ret (R.pe_op op_add_str (R.pe_op op_add_str (R.pe_op op_add_str (R.pe_op op_add_str (R.pe_op op_add_str (R.pe_op op_add_str R.pe_str (R.pe_cTy call_str_int rfl m_str (boot_str) (R.pa_c (R.pe_ix (R.ixT K) (R.pv 0) R.pe_int (fun _ _ => rfl)) R.pa_nil))) R.pe_str) (R.pv 2)) R.pe_str) (R.pe_cTy call_str_int rfl m_str (boot_str) (R.pa_c (R.pe_ix (R.ixT K) (R.pv 0) R.pe_int (fun _ _ => rfl)) R.pa_nil))) R.pe_str)))))))), ?_⟩
  obtain ⟨n1, n2, n3, n4, n5, n6, n7, n8, n9⟩ := lens
  cases t with
  | leaf f =>
    obtain ⟨okf, k0, l0, z0, hp, h63, fit⟩ := hF
    simp only [textT_leaf] at q
    have hth : ∀ x, spokenF f = x → x ≤ 63 → ∀ k ∈ things x, k < ns.length := fun x e hx k hk => by
      have hs' : L2.Sub x m := by rw [← e]; exact hs
      have := subM_things m (by omega) x (by omega) hs' k hk
      omega
    cases f with
    | none => exact ⟨_, rfl, p, _, _, _, rfl, rfl, SqT.of hp, rfl, rfl, _, rfl, iteT (q H (Same.refl H))⟩
    | only b z =>
      obtain ⟨rfl, rfl⟩ := fit
      obtain ⟨b1, b2, hz⟩ := okf
      have pl := (place_fits hN.2.1 b).2
      have zl := int_len hz.lo hz.hi
      refine ⟨_, rfl, p, _, _, _, rfl, rfl, SqT.of hp, rfl, rfl, _, rfl, iteF ?_⟩
      refine ⟨_, rfl, p, _, _, _, rfl, rfl, SqT.of hp, rfl, (by show 2 ≤ sizeLine; decide), fun tt htt => ⟨tt, _, rfl, .inr (SqT.of upd_same), rfl, rfl, _, rfl, iteF ?_⟩⟩
      have s1 := same_new htt (.tup [V.str "any", V.str "one"])
      refine ⟨_, rfl, p, _, _, _, rfl, rfl, SqT.of (s1 _ _ hp), rfl, _, rfl, b, nl, ns, rfl, by omega, hN.same s1, hth b rfl b2, fun H2 s2 => ?_⟩
      have hp2 := s2 _ _ (s1 _ _ hp)
      refine ⟨_, rfl, p, _, _, _, rfl, rfl, SqT.of hp2, rfl, rfl, _, rfl, iteT ?_⟩
      refine ⟨_, rfl, placeT ns b, Str.ofString " for ", rfl, rfl, sz (by omega), _, rfl, p, _, _, _, rfl, rfl, SqT.of hp2, rfl, z, rfl, int_log hz.lo hz.hi, _, Str.ofString (toString z), rfl, rfl, sz (by rw [strLen_append]; omega), ?_⟩
      exact q H2 (s1.trans s2)
    | some b l z =>
      obtain ⟨rfl, rfl, rfl⟩ := fit
      obtain ⟨b1, b2, c1, c2, hz⟩ := okf
      have pl := (place_fits hN.2.1 b).2
      have zl := int_len hz.lo hz.hi
      have lo : (0 : Int) ≤ ((l : Nat) : Int) := by omega
      have hi : ((l : Nat) : Int) ≤ 10 ^ 9 := by omega
      have ll := int_len lo hi
      refine ⟨_, rfl, p, _, _, _, rfl, rfl, SqT.of hp, rfl, rfl, _, rfl, iteF ?_⟩
      refine ⟨_, rfl, p, _, _, _, rfl, rfl, SqT.of hp, rfl, (by show 2 ≤ sizeLine; decide), fun tt htt => ⟨tt, _, rfl, .inr (SqT.of upd_same), rfl, rfl, _, rfl, iteF ?_⟩⟩
      have s1 := same_new htt (.tup [V.str "any", V.str "one"])
      refine ⟨_, rfl, p, _, _, _, rfl, rfl, SqT.of (s1 _ _ hp), rfl, _, rfl, b, nl, ns, rfl, by omega, hN.same s1, hth b rfl b2, fun H2 s2 => ?_⟩
      have hp2 := s2 _ _ (s1 _ _ hp)
      refine ⟨_, rfl, p, _, _, _, rfl, rfl, SqT.of hp2, rfl, rfl, _, rfl, iteF ?_⟩
      refine ⟨_, rfl, p, _, _, _, rfl, rfl, SqT.of hp2, rfl, rfl, _, rfl, iteT ?_⟩
      refine ⟨_, rfl, p, _, _, _, rfl, rfl, SqT.of hp2, rfl, _, rfl, int_log lo hi, Str.ofString (toString ((l : Nat) : Int)), Str.ofString " of ", rfl, rfl, sz (by omega), ?_⟩
      refine ⟨_, rfl, _, placeT ns b, rfl, rfl, sz (by rw [strLen_append]; omega), _, Str.ofString " for ", rfl, rfl, sz (by rw [strLen_append, strLen_append]; omega), ?_⟩
      refine ⟨_, rfl, p, _, _, _, rfl, rfl, SqT.of hp2, rfl, z, rfl, int_log hz.lo hz.hi, _, Str.ofString (toString z), rfl, rfl, sz (by rw [strLen_append, strLen_append, strLen_append]; omega), ?_⟩
      exact q H2 (s1.trans s2)
    | most b l z =>
      obtain ⟨rfl, rfl, rfl⟩ := fit
      obtain ⟨b1, b2, c1, c2, hz⟩ := okf
      have pl := (place_fits hN.2.1 b).2
      have zl := int_len hz.lo hz.hi
      have lo : (0 : Int) ≤ ((l : Nat) : Int) := by omega
      have hi : ((l : Nat) : Int) ≤ 10 ^ 9 := by omega
      have ll := int_len lo hi
      refine ⟨_, rfl, p, _, _, _, rfl, rfl, SqT.of hp, rfl, rfl, _, rfl, iteF ?_⟩
      refine ⟨_, rfl, p, _, _, _, rfl, rfl, SqT.of hp, rfl, (by show 2 ≤ sizeLine; decide), fun tt htt => ⟨tt, _, rfl, .inr (SqT.of upd_same), rfl, rfl, _, rfl, iteF ?_⟩⟩
      have s1 := same_new htt (.tup [V.str "any", V.str "one"])
      refine ⟨_, rfl, p, _, _, _, rfl, rfl, SqT.of (s1 _ _ hp), rfl, _, rfl, b, nl, ns, rfl, by omega, hN.same s1, hth b rfl b2, fun H2 s2 => ?_⟩
      have hp2 := s2 _ _ (s1 _ _ hp)
      refine ⟨_, rfl, p, _, _, _, rfl, rfl, SqT.of hp2, rfl, rfl, _, rfl, iteF ?_⟩
      refine ⟨_, rfl, p, _, _, _, rfl, rfl, SqT.of hp2, rfl, rfl, _, rfl, iteF ?_⟩
      refine ⟨_, rfl, p, _, _, _, rfl, rfl, SqT.of hp2, rfl, _, rfl, int_log lo hi, Str.ofString "up to ", Str.ofString (toString ((l : Nat) : Int)), rfl, rfl, sz (by omega), ?_⟩
      refine ⟨_, Str.ofString " of ", rfl, rfl, sz (by rw [strLen_append]; omega), ?_⟩
      refine ⟨_, rfl, _, placeT ns b, rfl, rfl, sz (by rw [strLen_append, strLen_append]; omega), _, Str.ofString " for ", rfl, rfl, sz (by rw [strLen_append, strLen_append, strLen_append]; omega), ?_⟩
      refine ⟨_, rfl, p, _, _, _, rfl, rfl, SqT.of hp2, rfl, z, rfl, int_log hz.lo hz.hi, _, Str.ofString (toString z), rfl, rfl, sz (by rw [strLen_append, strLen_append, strLen_append, strLen_append]; omega), _, Str.ofString " each", rfl, rfl, sz (by rw [strLen_append, strLen_append, strLen_append, strLen_append, strLen_append]; omega), ?_⟩
      exact q H2 (s1.trans s2)
  | node any ts =>
    have hok := okL_mem (okT_node.mp (FT.ok _ hF))
    obtain ⟨l, ps, hp, hA, hl, hPs⟩ := hF
    have few' : 1 + tallyL ts ≤ 100 := few
    have tl := tally_len ts
    have hs' : L2.Sub (spokenL ts) m := hs
    have wl := word_len any
    have c1 : decide (V.str (wordN any) = V.str "none") = false := by cases any <;> decide
    have c2 : inV (V.str (wordN any)) [V.str "any", V.str "one"] = true := by cases any <;> decide
    refine ⟨_, rfl, p, _, _, _, rfl, rfl, SqT.of hp, rfl, rfl, _, rfl, ?_⟩
    rw [c1]
    refine iteF ?_
    refine ⟨_, rfl, p, _, _, _, rfl, rfl, SqT.of hp, rfl, (by show 2 ≤ sizeLine; decide), fun tt htt => ⟨tt, _, rfl, .inr (SqT.of upd_same), rfl, rfl, _, rfl, ?_⟩⟩
    rw [if_neg Bool.false_ne_true, c2]
    refine iteT ?_
    have s1 := same_new htt (.tup [V.str "any", V.str "one"])
    have hp1 := s1 _ _ hp
    have hl1 := s1 _ _ hl
    generalize upd H tt (.tup [V.str "any", V.str "one"]) = H1 at s1 hp1 hl1 ⊢
    refine ⟨_, rfl, p, _, _, _, rfl, rfl, SqT.of hp1, rfl, wordN any, Str.ofString "(", rfl, rfl, sz (by rw [par_len]; omega), ?_⟩
    refine ⟨Str.ofString "; ", rfl, _, rfl, p, _, _, _, rfl, rfl, SqT.of hp1, rfl, l, rfl, ⟨_, SqL.of hl1⟩, fun l2 h2 => ?_⟩
    refine comp_lst1 (xs := ps.map V.ref) (fun k H' => Same H1 H' ∧ H' l2 = some (.lst (((ts.take k).map (textT ns)).map V.str))) ⟨same_new h2 _, upd_same⟩ (fun k H' _ z => SqL.of (z.1 _ _ hl1)) ?_ ?_
    · rintro k v H2 hv ⟨s2, e2⟩ K1 K0 k1 k0
      obtain ⟨b, t, rfl, hb, ht, ib⟩ := hPs.at hv
      have mt := tally_mem (List.mem_of_getElem? ht)
      have s12 := s1.trans s2
      refine ⟨_, rfl, _, rfl, b, t, A, nl, ns, m, rfl, FT.same s12 ib, by omega, hN.same s12, hm, hmn, hs'.mem t (List.mem_of_getElem? ht), fun H3 s3 => k1 _ _ _ (s3 _ _ e2) ?_ ⟨(s2.trans s3).upd h2 _, ?_⟩⟩
      · rw [List.length_map, List.length_map, List.length_take]; exact small1000 (by omega)
      · rw [upd_same, List.take_succ, ht, List.map_append, List.map_append]; rfl
    · rintro H2 ⟨s2, e2⟩
      rw [List.length_map, hPs.1, List.take_length] at e2
      obtain ⟨jo, jl⟩ := texts_fit hN.2.1 hok (show tallyL ts ≤ 100 by omega)
      refine ⟨l2, _, rfl, SqL.of e2, jo, _, _, rfl, rfl, sz (by rw [strLen_append, par_len]; omega), _, Str.ofString ")", rfl, rfl, sz (by rw [strLen_append, strLen_append, par_len]; omega), ?_⟩
      have z := q H2 (s1.trans s2)
      rw [textT_node, ← word_head] at z
      exact z
theorem fam_L_text {f : Addr} {fd : FuncData} (F : Fun K "_law_text" "_law_text" s_L_text f fd) (m_self : mg "_law_text" = some (.ref f)) (m_str : mg "str" = none)
    (D_L_place : DefOk P w K mg base 1 "_law_place" ["_law_bundle", "_law_names_here"] [] (sp_L_place K)) : ∀ d, DefOk P w K mg base (8 + d) "_law_text" ["_law_form_here", "_law_names_here"] [] (spTxt K d) := by
  intro d
  induction d with
  | zero =>
    refine F.def_okQ m_self (bnd2 F fun _ _ _ _ _ _ _ _ => rfl) sc_L_text (fun vs H Q E h => ?_) (fun cdv A outer s H vs Q E hr h => ?_)
    · obtain ⟨p, t, A, nl, ns, m, rfl, _⟩ := h; rfl
    · obtain ⟨p, t, A, nl, ns, m, rfl, hT, _⟩ := h; exact hT.elim
  | succ d ih => exact ok_L_text d F m_self m_str D_L_place ih
theorem ok_L_form {f : Addr} {fd : FuncData} (F : Fun K "_law_form" "_law_form" s_L_form f fd) (m_self : mg "_law_form" = some (.ref f)) (m_range : mg "range" = none)
    (D_L_cell : DefOk P w K mg base 1 "_law_cell" ["_law_script", "_law_k"] [] (sp_L_cell K))
    (D_L_grouped : DefOk P w K mg base 1 "_law_grouped" ["_law_forms", "_law_cell_here"] [] (sp_L_grouped K))
    (D_L_leaf : DefOk P w K mg base 2 "_law_leaf" ["_law_cell_here", "_law_other", "_law_last"] [] (sp_L_leaf K)) : DefOk P w K mg base 3 "_law_form" ["_law_script", "_law_last"] [] (sp_L_form K) := by
  refine F.def_okQ m_self (bnd2 F fun _ _ _ _ _ _ _ _ => rfl) sc_L_form (fun vs H Q E h => ?_) (fun cdv A outer s H vs Q E hr h => ?_)
  · obtain ⟨a, sc, m, rfl, _⟩ := h; rfl
  obtain ⟨a, sc, m, rfl, hS, hm6, q⟩ := h
  refine ⟨_, (R.pss_cons (R.ps_set (i := 2) sc_L_form.nd rfl (Or.inl rfl) (R.pe_callD D_L_cell hr (by first | decide | omega) rfl (R.pa_c (R.pv 0) (R.pa_c R.pe_int R.pa_nil))))
    (R.pss_cons (R.ps_set (i := 3) sc_L_form.nd rfl (Or.inl rfl) (R.pe_lst R.pa_nil))
    (R.pss_cons (R.ps_for PassesOwn.never rfl (R.pi_range1 rfl m_range (R.pa_c (R.pe_op (opE0 op_add) R.pe_int (R.pe_op (opE op_mod) (R.pv 2) R.pe_int)) R.pa_nil)) (R.pg_name (i := 4) sc_L_form.nd rfl (Or.inl rfl)) (R.pss_one (R.ps_expr (R.pe_append (R.pv 3) (R.pa_c (R.pe_callD D_L_leaf hr (by first | decide | omega) rfl (R.pa_c (R.pe_callD D_L_cell hr (by first | decide | omega) rfl (R.pa_c (R.pv 0) (R.pa_c (R.pe_op (opE0 op_add) R.pe_int (R.pe_op op_mulB R.pe_int (R.pv 4))) R.pa_nil))) (R.pa_c (R.pe_callD D_L_cell hr (by first | decide | omega) rfl (R.pa_c (R.pv 0) (R.pa_c (R.pe_op (opE0 op_add) R.pe_int (R.pe_op op_mulB R.pe_int (R.pv 4))) R.pa_nil))) (R.pa_c (R.pv 1) R.pa_nil)))) R.pa_nil)))))
    (R.pss_cons (R.ps_if (R.pt_cmpR op_eq (R.pe_op op_mod (R.pe_op op_fdiv (R.pv 2) R.pe_int) R.pe_int) R.pe_int (nomark _)) (R.pss_one (R.ps_ret (R.pe_ix (R.ixL K) (R.pv 3) R.pe_int (fun _ _ => rfl)))) R.pss_nil)
    (R.pss_cons (R.ps_set (i := 3) sc_L_form.nd rfl (Or.inl rfl) (R.pe_callD D_L_grouped hr (by first | decide | omega) rfl (R.pa_c (R.pe_callD D_L_grouped hr (by first | decide | omega) rfl (R.pa_c (R.pv 3) (R.pa_c (R.pe_callD D_L_cell hr (by first | decide | omega) rfl (R.pa_c (R.pv 0) (R.pa_c R.pe_int R.pa_nil))) R.pa_nil))) (R.pa_c (R.pe_callD D_L_cell hr (by first | decide | omega) rfl (R.pa_c (R.pv 0) (R.pa_c R.pe_int R.pa_nil))) R.pa_nil))))
    (R.pss_one (R.ps_ret (R.pe_tup (R.pa_c (R.pe_ix (R.ixL K) (R.pe_lst (R.pa_c R.pe_str (R.pa_c R.pe_str R.pa_nil))) (R.pe_op (opE op_mod) (R.pe_op op_fdiv (R.pv 2) R.pe_int) R.pe_int) (fun _ _ => rfl)) (R.pa_c (R.pv 3) R.pa_nil)))))))))), ?_⟩
  refine ⟨_, rfl, a, sc, 9, rfl, hS, by decide, fun H1 s1 => ?_⟩
  have hS1 := s1.seq hS
  generalize cellN sc 9 = cw
  refine ⟨(by show 0 ≤ sizeLine; decide), fun lf hf => ?_⟩
  have hf0 : H lf = none := s1.free hf
  have s2 := s1.trans (same_new hf (.lst []))
  obtain ⟨c7, ec7, hc7⟩ := mod_nat cw 7 (by decide)
  refine ⟨_, rfl, _, _, nv c7, rfl, rfl, (by show (0 : Int) < 7; decide), congrArg V.int ec7, _, _, nv (1 + c7), rfl, rfl, rfl, _, rfl, by omega, by omega, ?_⟩
  rw [Int.toNat_natCast]
  refine for_range (n := 1 + c7) (lo := 0) (fun i σ H' => Same H H' ∧ (∃ (ps : List Addr) (ts : List Tr), H' lf = some (.lst (ps.map V.ref)) ∧ All2 (FT (fun x => x ≠ lf) H' 1) ps ts ∧ depthL ts ≤ 1 ∧ tallyL ts = i ∧ ts.length = i ∧ L2.Sub (spokenL ts) m) ∧ ∃ y, σ = [some (.ref a), some (nv (2 ^ m - 1)), some (.int cw), some (.ref lf), y]) ?_ ?_ ?_
  · exact ⟨s2, ⟨[], [], upd_same, All2.nil, Nat.zero_le _, rfl, rfl, by unfold L2.Sub; exact Nat.zero_or _⟩, _, rfl⟩
  · rintro k σ H3 hk ⟨s3, ⟨ps, ts, ef, hPs, hd, hy, hl, hsp⟩, y, rfl⟩
    rw [Int.zero_add]
    have hS3 := s3.seq hS
    have pl : ps.length = ts.length := hPs.1
    refine ⟨_, rfl, .inl ⟨rfl, _, SqL.of ef⟩, _, rfl, _, rfl, _, _, rfl, rfl, mulOk_small (by omega), _, _, nv (12 + 2 * k), rfl, rfl, (by show V.int ((12 : Int) + 2 * (k : Int)) = V.int ((12 + 2 * k : Nat) : Int); congr 1), a, sc, 12 + 2 * k, rfl, hS3, by omega, fun H4 s4 => ?_⟩
    have hS4 := s4.seq hS3
    refine ⟨_, rfl, _, rfl, _, _, rfl, rfl, mulOk_small (by omega), _, _, nv (13 + 2 * k), rfl, rfl, (by show V.int ((13 : Int) + 2 * (k : Int)) = V.int ((13 + 2 * k : Nat) : Int); congr 1), a, sc, 13 + 2 * k, rfl, hS4, by omega, fun H5 s5 => ?_⟩
    have s35 := s4.trans s5
    refine ⟨_, rfl, _, _, m, rfl, hm6, fun p H6 t s6 td ty hF hst => ?_⟩
    have s36 := s35.trans s6
    have ef6 := s36 _ _ ef
    refine ⟨lf, _, _, rfl, rfl, ef6, by rw [List.length_map]; exact small1000 (by omega), ?_⟩
    have nA : ¬ (lf ≠ lf) := fun z => z rfl
    have hF' : FT (fun x => x ≠ lf) H6 1 p t := hF.imp fun x zs hx e => by
      intro z
      rw [z] at hx
      have := s35 _ _ ef
      rw [hx] at this; cases this
    refine ⟨(s3.trans s36).upd hf0 _, ⟨ps ++ [p], ts ++ [t], by rw [upd_same, List.map_append]; rfl, (hPs.imp fun _ _ _ z => (FT.same s36 z).put ef6 nA).snoc (hF'.put ef6 nA), ?_, ?_, by rw [List.length_append, hl]; rfl, ?_⟩, _, rfl⟩
    · rw [depthL_append]; show max _ (max (depthT t) 0) ≤ 1; omega
    · rw [tallyL_append]; show tallyL ts + (tallyT t + 0) = k + 1; omega
    · rw [spoken_snoc]; exact Sub.or2 hsp hst
  · rintro σ H3 ⟨s3, ⟨ps, ts, ef, hPs, hd, hy, hl, hsp⟩, y, rfl⟩
    have hS3 := s3.seq hS
    have pl : ps.length = ts.length := hPs.1
    refine ⟨_, rfl, _, _, rfl, rfl, ⟨by decide, by decide⟩, _, _, rfl, rfl, (by show (0 : Int) < 4; decide), rfl, _, rfl, ite2 (fun _ => ?_) (fun _ => ?_)⟩
    · have hp0 : ps[0]? = some (ps[0]'(by omega)) := List.getElem?_eq_getElem _
      have ht0 : ts[0]? = some (ts[0]'(by omega)) := List.getElem?_eq_getElem _
      have f0 := hPs.2 0 _ _ hp0 ht0
      have d0 := depth_mem (List.mem_of_getElem? ht0)
      have y0 := tally_mem (List.mem_of_getElem? ht0)
      refine ⟨_, rfl, lf, _, _, _, rfl, rfl, SqL.of ef, at_nat (k := 0) (by rw [List.getElem?_map, hp0]; rfl), ?_⟩
      exact q _ H3 (ts[0]'(by omega)) s3 (FT.to _ 4 (f0.imp fun _ _ _ _ => trivial) (by omega)) (by omega) (by omega) (hsp.mem _ (List.mem_of_getElem? ht0))
    refine ⟨_, rfl, _, rfl, a, sc, 10, rfl, hS3, by decide, fun H4 s4 => ?_⟩
    refine ⟨lf, ps, ts, fun x => x ≠ lf, 1, _, rfl, s4 _ _ ef, hPs.imp fun _ _ _ z => FT.same s4 z, by omega, fun l2 H5 qs us s5 e5 hU du lu tu ⟨x1, hx1⟩ => ?_⟩
    have s45 := s4.trans s5
    refine ⟨_, rfl, a, sc, 11, rfl, s45.seq hS3, by decide, fun H6 s6 => ?_⟩
    refine ⟨l2, qs, us, fun _ => True, 2, _, rfl, s6 _ _ e5, hU.imp fun _ _ _ z => FT.same s6 z, by omega, fun l3 H7 rs ws s7 e7 hV dw lw tw ⟨x2, hx2⟩ => ?_⟩
    have s37 := (s45.trans s6).trans s7
    have hsw : L2.Sub (spokenL ws) m := by
      have h1 : L2.Sub (spokenL us ||| x1) m := by rw [hx1]; exact hsp
      have h2 : L2.Sub (spokenL ws ||| x2) m := by rw [hx2]; exact (L2.Sub.of_or h1).1
      exact (L2.Sub.of_or h2).1
    refine ⟨(by show 2 ≤ sizeLine; decide), fun lw2 hw => ?_⟩
    have s8 := same_new hw (.lst [V.str "any", V.str "one"])
    obtain ⟨w2, ew2, hw2⟩ := mod_nat (cw / 28) 2 (by decide)
    obtain ⟨any, ea⟩ : ∃ any, atI [V.str "any", V.str "one"] (w2 : Int) = some (.str (wordN any)) := by
      rcases (by omega : w2 = 0 ∨ w2 = 1) with e | e <;> subst e
      · exact ⟨true, rfl⟩
      · exact ⟨false, rfl⟩
    refine ⟨_, rfl, _, _, rfl, rfl, ⟨by decide, by decide⟩, _, _, nv w2, rfl, rfl, (by show (0 : Int) < 2; decide), congrArg V.int ew2, lw2, _, _, _, rfl, rfl, SqL.of upd_same, ea, _, rfl, (by show 2 ≤ sizeLine; decide), fun p hp => ?_⟩
    have s9 := same_new hp (.tup [V.str (wordN any), V.ref l3])
    have s89 := s8.trans s9
    refine q p _ (.node any ws) ((s3.trans s37).trans s89) ⟨l3, rs, upd_same, trivial, s89 _ _ e7, hV.imp fun _ _ _ z => FT.same s89 z⟩ ?_ ?_ hsw
    · show 1 + depthL ws ≤ 4; omega
    · show 1 + tallyL ws ≤ 24; omega
end
end My


set_option Elab.async false
set_option linter.all false
set_option maxRecDepth 100000
set_option maxHeartbeats 4000000
namespace My
open PySem PySem.Spec PyProof.Rows L2 GM
theorem stock_same {c a dx : Addr} {H H' : Hp} (h1 : H a = none) (h2 : H dx = none) (hB : But a (L2.upd (L2.upd H dx (.own a)) a (.ins c dx [])) H') : Same H H' := fun b o e => by
  have n1 := ne_of_none e h1
  have n2 := ne_of_none e h2
  exact hB b o n1 (by rw [upd_ne n1, upd_ne n2]; exact e)
theorem cutN (xs : List V) (m : Nat) : cutV xs none (some (m : Int)) = xs.take m := by
  unfold cutV
  rw [HT.sIx_nat, HT.sIx_none, List.drop_zero, Nat.sub_zero]
  by_cases h : m ≤ xs.length
  · rw [Nat.min_eq_left h]
  · rw [Nat.min_eq_right (by omega), List.take_length, List.take_of_length_le (by omega)]
theorem seq_join {c : TT} {t u : TS} {D : Ends} {σ : L2.St} {H : Hp} (M : L2.St → Hp → Prop) (h : (∀ σ' H', M σ' H' → u D σ' H') → tIfS c t tNext { D with nx := u D } σ H) (h2 : ∀ σ' H', M σ' H' → u D σ' H') : tSeq (tIfS c t tNext) u D σ H := h h2
theorem place_same {a b : List Str} {m x : Nat} (hm : m ≤ 6) (hx : x < 64) (hs : L2.Sub x m) (h : ∀ k, k < m → a.getD k Str.empty = b.getD k Str.empty) : placeT a x = placeT b x := by
  unfold placeT
  congr 1
  exact List.map_congr_left fun k hk => h k (subM_things m (by omega) x hx hs k hk)
theorem form_same {a b : List Str} {m : Nat} (hm : m ≤ 6) (h : ∀ k, k < m → a.getD k Str.empty = b.getD k Str.empty) {f : Form} (ok : FormOk f) (hs : L2.Sub (spokenF f) m) : formT a f = formT b f := by
  cases f with
  | none => rfl
  | only x z => show placeT a x ++ _ ++ _ = placeT b x ++ _ ++ _; rw [place_same (x := x) hm (by have := ok.2.1; omega) hs h]
  | some x l z => show _ ++ _ ++ placeT a x ++ _ ++ _ = _ ++ _ ++ placeT b x ++ _ ++ _; rw [place_same (x := x) hm (by have := ok.2.1; omega) hs h]
  | most x l z => show _ ++ _ ++ _ ++ placeT a x ++ _ ++ _ ++ _ = _ ++ _ ++ _ ++ placeT b x ++ _ ++ _ ++ _; rw [place_same (x := x) hm (by have := ok.2.1; omega) hs h]
mutual
theorem text_same {a b : List Str} {m : Nat} (hm : m ≤ 6) (h : ∀ k, k < m → a.getD k Str.empty = b.getD k Str.empty) : ∀ t : Tr, okT t → L2.Sub (spokenT t) m → textT a t = textT b t
  | .leaf f, ok, hs => by rw [textT_leaf, textT_leaf]; exact form_same hm h (okT_leaf.mp ok) hs
  | .node any ts, ok, hs => by rw [textT, textT, texts_same hm h ts (okL_mem (okT_node.mp ok)) hs]
theorem texts_same {a b : List Str} {m : Nat} (hm : m ≤ 6) (h : ∀ k, k < m → a.getD k Str.empty = b.getD k Str.empty) : ∀ ts : List Tr, (∀ t ∈ ts, okT t) → L2.Sub (spokenL ts) m → textL a ts = textL b ts
  | [], _, _ => by rw [textL, textL]
  | t :: ts, ok, hs => by
    obtain ⟨h1, h2⟩ := L2.Sub.of_or (show L2.Sub (spokenT t ||| spokenL ts) m from hs)
    rw [textL, textL, text_same hm h t (ok t (List.mem_cons_self ..)) h1, texts_same hm h ts (fun u hu => ok u (List.mem_cons_of_mem _ hu)) h2]
end
theorem fixed_words : formT [Str.ofString "a", Str.ofString "", Str.ofString "b"] (.most 5 2 (10 ^ 9)) = Str.ofString "up to 2 of a+b for 1000000000 each" := by decide +kernel
noncomputable def sp_law (K : PySem.W.Frag) : Sp := fun vs H Q _ => ∃ (a : Addr) (ns : List Int), vs = [.ref a] ∧ SqL K H a (ns.map V.int) ∧ ns.length ≤ 63 ∧ ∀ H', Q (.bl true) H'
section
variable {P : Program} {w : World} {K : PySem.W.Frag} {mg : Str → Option Value} {base : Heap}
variable {c_Bid c_Only c_SoMany c_UpTo c_Several c_AnyOf c_OneOf c_Stock : Addr}
theorem ok_law {f : Addr} {fd : FuncData} (F : Fun K "law" "law" s_law f fd) (m_self : mg "law" = some (.ref f)) (m_zip : mg "zip" = none) (m_len : mg "len" = none)
    (D_L_names : DefOk P w K mg base 2 "_law_names" ["_law_script", "_law_many"] [] (sp_L_names K))
    (D_L_form : DefOk P w K mg base 3 "_law_form" ["_law_script", "_law_last"] [] (sp_L_form K))
    (D_L_made : DefOk P w K mg base 18 "_law_made" ["_law_form_here"] [] (sp_L_made K c_Bid c_Only c_SoMany c_UpTo c_Several c_AnyOf c_OneOf c_Stock))
    (D_L_text : DefOk P w K mg base 12 "_law_text" ["_law_form_here", "_law_names_here"] [] (sp_L_text K))
    (D_L_good : DefOk P w K mg base 16 "_law_good" ["_law_bid", "_law_stock", "_law_names_here", "_law_due"] [] (sp_L_good K c_Bid c_Only c_SoMany c_UpTo c_Several c_AnyOf c_OneOf c_Stock))
    (D_L_cell : DefOk P w K mg base 1 "_law_cell" ["_law_script", "_law_k"] [] (sp_L_cell K))
    (D_P_shown_bid : DefOk P w K mg base 15 "shown_bid" ["bid", "stock"] [] (sp_P_shown_bid K c_Bid c_Only c_SoMany c_UpTo c_Several c_AnyOf c_OneOf c_Stock))
    (D_L_kinds : DefOk P w K mg base 2 "_law_kinds" ["_law_script", "_law_names_here"] [] (sp_L_kinds K))
    (O_Bid : Own K mg "Bid" c_Bid [])
    (O_Only : Own K mg "Only" c_Only ["bundle", "amount"])
    (O_SoMany : Own K mg "SoMany" c_SoMany ["kind", "least", "amount"])
    (O_UpTo : Own K mg "UpTo" c_UpTo ["kind", "most", "each"])
    (O_Several : Own K mg "Several" c_Several ["bids"])
    (O_AnyOf : Own K mg "AnyOf" c_AnyOf ["bids"])
    (O_OneOf : Own K mg "OneOf" c_OneOf ["bids"])
    (O_Stock : Own K mg "Stock" c_Stock ["numbers", "kinds"])
    (MK_Stock : MakeD P w K mg base 4 "Stock" c_Stock ["self", "rows"] (sp_M_Stock___init__ K c_Stock))
    (MK_UpTo : MakeD P w K mg base 4 "UpTo" c_UpTo ["self", "kind", "most", "each"] (sp_M_UpTo___init__ K c_UpTo))
    (hT_words : ∀ C sp, T_words K c_Bid c_Only c_SoMany c_UpTo c_Several c_AnyOf c_OneOf c_Stock C sp → ∃ ps, MethD P w K mg base 14 C "words" ps sp) : FnOk P w K mg base CX0 19 f fd ["_law_script"] (sp_law K) := by
  refine F.okQ sc_law (fun vs H Q E h => ?_) (fun cdv A outer s H vs Q E hr h => ?_)
  · obtain ⟨a, sc, rfl, _⟩ := h; rfl
  obtain ⟨a, sc, rfl, hS, _, q⟩ := h
  refine ⟨_, (R.pss_cons (R.ps_set (i := 1) sc_law.nd rfl (Or.inl rfl) (R.pe_callD D_L_names hr (by first | decide | omega) rfl (R.pa_c (R.pv 0) (R.pa_c (R.pe_op (opE op_mod) (R.pe_callD D_L_cell hr (by first | decide | omega) rfl (R.pa_c (R.pv 0) (R.pa_c R.pe_int R.pa_nil))) R.pe_int) R.pa_nil))))
    (R.pss_cons (R.ps_set (i := 2) sc_law.nd rfl (Or.inl rfl) (R.pe_makeD MK_Stock hr (by first | decide | omega) rfl (R.pa_c (R.pe_comp (defScope s_law) ["_law_script", "_law_names_here", "_law_stock", "_law_form_here", "_law_bid", "_law_more", "_law_due", "_law_turned"] ["_law_name", "_law_kind"] [] [] rfl rfl rfl ⟨s.heap.objs.size + 1, rfl⟩ rfl rfl (by decide +kernel) (R.pi_zip rfl m_zip (R.pa_c (R.pv 1) (R.pa_c (R.pe_callD D_L_kinds hr (by first | decide | omega) rfl (R.pa_c (R.pv 0) (R.pa_c (R.pv 1) R.pa_nil))) R.pa_nil))) (fun C s2 H2 fp => (R.pg_tup K 2 rfl (R.pgs_cons (R.pg_name (i := 0) (show List.Nodup (["_law_name", "_law_kind"] : List Str) from by decide +kernel) rfl (Or.inl rfl)) (R.pgs_cons (R.pg_name (i := 1) (show List.Nodup (["_law_name", "_law_kind"] : List Str) from by decide +kernel) rfl (Or.inl rfl)) R.pgs_nil)))) (fun C s2 H2 fp => R.pf_nil) (fun C s2 H2 fp => (R.pe_tup (R.pa_c (R.pv 0) (R.pa_c (R.pv 1) R.pa_nil))))) R.pa_nil)))
    (R.pss_cons (R.ps_set (i := 3) sc_law.nd rfl (Or.inl rfl) (R.pe_callD D_L_form hr (by first | decide | omega) rfl (R.pa_c (R.pv 0) (R.pa_c (R.pe_op (opE0 op_sub) (R.pe_op op_shlN R.pe_int (R.pe_cB call_len_seq rfl m_len PySem.boot_len (R.pa_c (R.pv 1) R.pa_nil))) R.pe_int) R.pa_nil))))
    (R.pss_cons (R.ps_set (i := 4) sc_law.nd rfl (Or.inl rfl) (R.pe_callD D_L_made hr (by first | decide | omega) rfl (R.pa_c (R.pv 3) R.pa_nil)))
    (R.pss_cons (R.ps_set (i := 5) sc_law.nd rfl (Or.inl rfl) (R.pe_slice sl_list (R.pe_lst (R.pa_c R.pe_str (R.pa_c R.pe_str (R.pa_c R.pe_str R.pa_nil)))) R.po_none (R.po_some (R.pe_op (opE op_mod) (R.pe_callD D_L_cell hr (by first | decide | omega) rfl (R.pa_c (R.pv 0) (R.pa_c R.pe_int R.pa_nil))) R.pe_int))))
    (R.pss_cons (R.ps_set (i := 6) sc_law.nd rfl (Or.inl rfl) (R.pe_callD D_L_text hr (by first | decide | omega) rfl (R.pa_c (R.pv 3) (R.pa_c (R.pv 1) R.pa_nil))))
    (R.pss_cons (R.ps_if (R.pt (R.pw_and (R.pt_cmpR op_eq (R.pe_op op_mod (R.pe_callD D_L_cell hr (by first | decide | omega) rfl (R.pa_c (R.pv 0) (R.pa_c R.pe_int R.pa_nil))) R.pe_int) R.pe_int (nomark _)) (R.pw_and1 (R.pt_cmpR op_ne (R.pe_callD D_P_shown_bid hr (by first | decide | omega) rfl (R.pa_c (R.pv 4) (R.pa_c (R.pv 2) R.pa_nil))) (R.pv 6) (nomark _))))) (R.pss_one (R.ps_ret R.pe_bl)) R.pss_nil)
    (R.pss_cons (R.ps_if (R.pt_not (R.pt_val (R.pe_callD D_L_good hr (by first | decide | omega) rfl (R.pa_c (R.pv 4) (R.pa_c (R.pv 2) (R.pa_c (R.pe_op op_cat (R.pv 1) (R.pv 5)) (R.pa_c (R.pv 6) R.pa_nil))))))) (R.pss_one (R.ps_ret R.pe_bl)) R.pss_nil)
    (R.pss_cons (R.ps_if (R.pt_cmpR op_ne (R.pe_methV (R.pe_makeD MK_UpTo hr (by first | decide | omega) rfl (R.pa_c R.pe_int (R.pa_c R.pe_int (R.pa_c (R.pe_op op_pow R.pe_int R.pe_int) R.pa_nil)))) hT_words hr (by first | decide | omega) (R.pa_c (R.pe_lst (R.pa_c R.pe_str (R.pa_c R.pe_str (R.pa_c R.pe_str R.pa_nil)))) R.pa_nil)) R.pe_str (nomark _)) (R.pss_one (R.ps_ret R.pe_bl)) R.pss_nil)
    (R.pss_cons (R.ps_compE (i := 7) (defScope s_law) ["_law_script", "_law_names_here", "_law_stock", "_law_form_here", "_law_bid", "_law_more", "_law_due", "_law_turned"] ["_law_name"] [] [] sc_law.nd rfl (Or.inl rfl) rfl rfl rfl rfl rfl ⟨s.heap.objs.size + 1, rfl⟩ rfl rfl (by decide +kernel) (R.pi_list (R.pv 1)) (fun C s2 H2 fp => (R.pg_name (i := 0) (show List.Nodup (["_law_name"] : List Str) from by decide +kernel) rfl (Or.inl rfl))) (fun C s2 H2 fp => R.pf_nil) (fun C s2 H2 fp => (R.pe_op op_add_str (R.pe_op op_add_str R.pe_str (R.pe_slice sl_str (R.pv 0) (R.po_some R.pe_int) R.po_none)) R.pe_str)))
    (R.pss_cons (R.ps_if (R.pt_cmpR op_ne (R.pe_methV (R.pv 4) hT_words hr (by first | decide | omega) (R.pa_c (R.pv 7) R.pa_nil)) (R.pe_callD D_L_text hr (by first | decide | omega) rfl (R.pa_c (R.pv 3) (R.pa_c (R.pv 7) R.pa_nil))) (nomark _)) (R.pss_one (R.ps_ret R.pe_bl)) R.pss_nil)
    (R.pss_one (R.ps_ret (R.pe_callD D_L_good hr (by first | decide | omega) rfl (R.pa_c (R.pv 4) (R.pa_c (R.pv 2) (R.pa_c (R.pv 1) (R.pa_c (R.pv 6) R.pa_nil)))))))))))))))))), ?_⟩
  obtain ⟨m, hm, hm7⟩ := modn (cellN sc 0) 7 (by decide)
  refine ⟨_, rfl, _, rfl, a, sc, 0, rfl, hS, by decide, fun H1 s1 => ⟨_, _, nv m, rfl, rfl, (by show (0 : Int) < 7; decide), congrArg V.int hm, a, sc, m, rfl, s1.seq hS, by omega, fun l H2 ns s2 hl0 hl hg => ?_⟩⟩
  have s12 := s1.trans s2
  have hgl := hg.1
  refine ⟨_, rfl, _, rfl, _, rfl, a, l, sc, ns, rfl, s12.seq hS, hl, by omega, hg.2.1, fun p H3 ks s3 hp0 hp hkl hko => ?_⟩
  have hl3 := s3 _ _ hl
  have s13 := s12.trans s3
  have hG : Good ns ks := ⟨by omega, hg.2.1, hg.2.2, hko⟩
  refine ⟨l, p, rfl, ⟨_, SqL.of hl3⟩, ⟨_, SqL.of hp⟩, fun r hr0 => ?_⟩
  refine comp_zip2 (by rw [List.length_map, List.length_map]; exact hkl.symm) (fun i Hc => Same H3 Hc ∧ ∃ ps : List Addr, Hc r = some (.lst (ps.map V.ref)) ∧ ps.length = i ∧ ∀ (j : Nat) (b : Addr), ps[j]? = some b → ∃ n k, ns[j]? = some n ∧ ks[j]? = some k ∧ Hc b = some (.tup [sv n, sv k]))
    ⟨same_new hr0 _, [], upd_same, rfl, fun j b e => by simp at e⟩ (fun i Hc _ h => ⟨SqL.of (h.1 _ _ hl3), SqL.of (h.1 _ _ hp)⟩) (fun i x y b Hc hx hy hP hb => ?_) (fun H4 h4 => ?_)
  · rw [List.getElem?_map] at hx hy
    obtain ⟨n, hn, rfl⟩ := Option.map_eq_some_iff.mp hx
    obtain ⟨k, hk, rfl⟩ := Option.map_eq_some_iff.mp hy
    obtain ⟨sP, ps, e1, e2, e3⟩ := hP
    have sb := same_new hb (.tup [sv n, sv k])
    intro K1 K0 g1 g0
    unfold fNil
    dsimp only
    rw [if_pos rfl]
    refine ⟨_, rfl, _, rfl, (by show 2 ≤ sizeLine; decide), fun b2 hb2 => ?_⟩
    have sb2 := same_new hb2 (.tup [sv n, sv k])
    have e4 := (sb.trans sb2) _ _ e1
    have hi : i < ns.length := (List.getElem?_eq_some_iff.mp hn).1
    refine g1 (.ref b2) _ _ e4 (by rw [List.length_map, e2, sizeLine_eq]; omega) ⟨((sP.trans sb).trans sb2).upd hr0 _, ps ++ [b2], ?_, by rw [List.length_append, e2]; rfl, fun j c hc => ?_⟩
    · rw [upd_same, List.map_append]; rfl
    · have nr : ∀ d u, upd (upd Hc b (.tup [sv n, sv k])) b2 (.tup [sv n, sv k]) d = some (.tup u) → d ≠ r := fun d u e z => by subst z; rw [e4] at e; cases e
      by_cases hj : j < ps.length
      · rw [List.getElem?_append_left hj] at hc
        obtain ⟨n', k', f1, f2, f3⟩ := e3 j c hc
        have f4 := (sb.trans sb2) _ _ f3
        exact ⟨n', k', f1, f2, by rw [upd_ne (nr _ _ f4)]; exact f4⟩
      · have hj2 : j = ps.length := by
          have := (List.getElem?_eq_some_iff.mp hc).1
          simp at this; omega
        subst hj2
        simp at hc
        subst hc
        rw [e2]
        exact ⟨n, k, hn, hk, by rw [upd_ne (nr _ _ upd_same)]; exact upd_same⟩
  obtain ⟨s4, ps, hr4, hps, hrow⟩ := h4
  rw [List.length_map] at hps
  have hl4 := s4 _ _ hl3
  have s14 := s13.trans s4
  refine fun st dx hst hdx hne => ⟨st, dx, r, ns, ks, rfl, upd_same, ⟨ps, ?_, hps, hkl, fun j b e => ?_⟩, hG, fun H5 hB hI => ⟨rfl, ?_⟩⟩
  · have n1 := ne_of_none hr4 hst
    have n2 := ne_of_none hr4 hdx
    rw [upd_ne n1, upd_ne n2]; exact hr4
  · obtain ⟨n, k, f1, f2, f3⟩ := hrow j b e
    have n1 := ne_of_none f3 hst
    have n2 := ne_of_none f3 hdx
    exact ⟨n, k, f1, f2, by rw [upd_ne n1, upd_ne n2]; exact f3⟩
  have s5 := stock_same hst hdx hB
  have s15 := s14.trans s5
  have hl5 := s5 _ _ hl4
  have hml : (ns.map sv).length = m := by rw [List.length_map]; exact hgl
  have hm6 : m ≤ 6 := by omega
  obtain ⟨f64, fpos⟩ := pow6 hm6
  refine ⟨_, rfl, _, rfl, l, _, rfl, .inl (SqL.of hl5), (ns.map sv).length, rfl, rfl, by omega, _, _, nv (2 ^ m - 1), rfl, rfl, ?_, a, sc, m, rfl, s15.seq hS, hm6, fun pf H6 t s6 hF hd hy hsb => ?_⟩
  · rw [hml]
    show V.int (((2 ^ m : Nat) : Int) - 1) = V.int ((2 ^ m - 1 : Nat) : Int)
    congr 1; omega
  have hokt := FT.ok _ hF
  refine ⟨_, rfl, pf, t, _, rfl, hF, hd, hy, fun bb H7 s7 hT => ?_⟩
  have hT5 := IsTr.to 4 5 hT (by omega)
  have s57 := s6.trans s7
  have hl7 := s57 _ _ hl5
  have hI7 := IsStock.same s57 hI
  have hF7 := FT.same s7 hF
  have s17 := s15.trans s57
  refine ⟨(by show 3 ≤ sizeLine; decide), fun lz hz => ?_⟩
  have s8 := same_new hz (.lst [V.str "", V.str "x y", V.str "zz"])
  have ez : upd H7 lz (.lst [V.str "", V.str "x y", V.str "zz"]) lz = some (.lst [V.str "", V.str "x y", V.str "zz"]) := upd_same
  generalize upd H7 lz (.lst [V.str "", V.str "x y", V.str "zz"]) = H8 at s8 ez ⊢
  obtain ⟨j4, ej4, hj4⟩ := modn (cellN sc 6) 4 (by decide)
  refine ⟨_, rfl, a, sc, 6, rfl, (s17.trans s8).seq hS, by decide, fun H9 s9 => ⟨_, _, nv j4, rfl, rfl, (by show (0 : Int) < 4; decide), congrArg V.int ej4, _, rfl, lz, _, rfl, SqL.of (s9 _ _ ez), fun lmo hmo => ?_⟩⟩
  rw [cutN]
  have em : ([V.str "", V.str "x y", V.str "zz"] : List V).take j4 = (([Str.ofString "", Str.ofString "x y", Str.ofString "zz"] : List Str).take j4).map V.str := by rw [List.map_take]; rfl
  rw [em]
  have hml2 : (([Str.ofString "", Str.ofString "x y", Str.ofString "zz"] : List Str).take j4).length ≤ 3 := by rw [List.length_take]; exact Nat.min_le_right _ _
  have hms : ∀ x ∈ ([Str.ofString "", Str.ofString "x y", Str.ofString "zz"] : List Str).take j4, x.length ≤ 20 := fun x hx => by
    have := List.mem_of_mem_take hx
    simp only [List.mem_cons, List.not_mem_nil, or_false] at this
    rcases this with rfl | rfl | rfl <;> decide
  generalize ([Str.ofString "", Str.ofString "x y", Str.ofString "zz"] : List Str).take j4 = mo at hml2 hms
  have s10 := same_new hmo (.lst (mo.map V.str))
  have emo : upd H9 lmo (.lst (mo.map V.str)) lmo = some (.lst (mo.map V.str)) := upd_same
  generalize upd H9 lmo (.lst (mo.map V.str)) = H10 at s10 emo ⊢
  have s710 := (s8.trans s9).trans s10
  have hN : ∀ H', Same H7 H' → NmAt K H' l (ns.map tx) := fun H' S => nm_names (S _ _ hl7) hg.2.1 (by omega)
  have htl : m ≤ (ns.map tx).length := by rw [List.length_map]; omega
  have hsn : L2.Sub (spokenT t) ns.length := by rw [hgl]; exact hsb
  refine ⟨_, rfl, _, rfl, pf, t, _, l, ns.map tx, m, rfl, FT.same s710 hF7, by omega, hN _ s710, hm6, htl, hsb, fun H11 s11 => ?_⟩
  have s711 := s710.trans s11
  have emo11 := s11 _ _ emo
  dsimp only [gName]
  refine seq_join (fun σ' H' => σ' = [some (.ref a), some (.ref l), some (.ref st), some (.ref pf), some (.ref bb), some (.ref lmo), some (.str (textT (ns.map tx) t)), none] ∧ Same H11 H') (fun join => ?_) (fun σ' H12 hM => ?_)
  · refine ⟨_, rfl, a, sc, 7, rfl, (s17.trans s711).seq hS, by decide, fun Hx sx => ⟨_, _, rfl, rfl, (by show (0 : Int) < 2; decide), rfl, _, rfl, ite2 (fun _ => ?_) (fun _ => ?_)⟩⟩
    · have s7x := s711.trans sx
      refine ⟨_, rfl, _, rfl, bb, st, t, _, ns, ks, rfl, IsTr.same s7x hT5, by omega, IsStock.same s7x hI7, hsn, fun Hy sy => ?_⟩
      refine ⟨_, rfl, rfl, _, rfl, ?_⟩
      rw [decide_eq_true rfl]
      exact iteF (join _ _ ⟨rfl, sx.trans sy⟩)
    · exact join _ _ ⟨rfl, sx⟩
  obtain ⟨rfl, s12'⟩ := hM
  have s712 := s711.trans s12'
  have emo12 := s12' _ _ emo11
  refine ⟨_, rfl, _, rfl, _, rfl, _, rfl, l, lmo, _, _, rfl, rfl, s712 _ _ hl7, emo12, by rw [hml, List.length_map]; exact Nat.le_of_lt (small1000 (by omega)), fun lc hc => ?_⟩
  have s13' := same_new hc (.lst (ns.map sv ++ mo.map V.str))
  have ec : upd H12 lc (.lst (ns.map sv ++ mo.map V.str)) lc = some (.lst ((ns.map tx ++ mo).map V.str)) := by rw [upd_same, names_map, List.map_append]
  generalize upd H12 lc (.lst (ns.map sv ++ mo.map V.str)) = H13 at s13' ec ⊢
  have s713 := s712.trans s13'
  have hNx : NmAt K H13 lc (ns.map tx ++ mo) := by
    refine ⟨SqL.of ec, fun x hx => ?_, by rw [List.length_append, List.length_map]; omega⟩
    rcases List.mem_append.mp hx with hx | hx
    · exact (hN H13 s713).2.1 x hx
    · exact hms x hx
  have hsame : textT (ns.map tx ++ mo) t = textT (ns.map tx) t := text_same hm6 (fun k hk => by
    rw [List.getD_eq_getElem?_getD, List.getD_eq_getElem?_getD, List.getElem?_append_left (by omega)]) t hokt hsb
  refine ⟨_, rfl, bb, st, lc, t, _, ns, ks, ns.map tx ++ mo, rfl, IsTr.same s713 hT5, by omega, IsStock.same s713 hI7, hsn, hNx, by rw [List.length_append, List.length_map]; omega, hsame, fun H14 s14' => ⟨_, rfl, iteF ?_⟩⟩
  have s714 := s713.trans s14'
  refine ⟨_, _, rfl, rfl, ⟨by decide, by decide, by decide⟩, fun y dy ny ndy _ => ?_⟩
  refine ⟨y, dy, 5, 2, 10 ^ 9, rfl, by decide, by decide, by decide, by decide, ⟨by decide, by decide⟩, upd_same, rfl, ?_⟩
  have s15' := made_same (o := .ins c_UpTo dy []) (u := .ins c_UpTo dy (fsMost 5 2 (10 ^ 9))) ny ndy
  have ey : upd (upd (upd H14 dy (.own y)) y (.ins c_UpTo dy [])) y (.ins c_UpTo dy (fsMost 5 2 (10 ^ 9))) y = some (.ins c_UpTo dy (fsMost 5 2 (10 ^ 9))) := upd_same
  generalize upd (upd (upd H14 dy (.own y)) y (.ins c_UpTo dy [])) y (.ins c_UpTo dy (fsMost 5 2 (10 ^ 9))) = H15 at s15' ey ⊢
  refine ⟨y, c_UpTo, dy, _, sp_M_UpTo_words K c_UpTo, rfl, ey, rfl, .inr (.inr (.inr (.inl ⟨rfl, rfl⟩))), (by show 3 ≤ sizeLine; decide), fun lx hx => ?_⟩
  have s16 := same_new hx (.lst [V.str "a", V.str "", V.str "b"])
  refine ⟨y, dy, 5, 2, 10 ^ 9, lx, [Str.ofString "a", Str.ofString "", Str.ofString "b"], rfl, s16 _ _ ey, ⟨by decide, by decide, by decide, by decide, by decide, by decide⟩, ⟨SqL.of upd_same, fun x hx' => ?_, by decide⟩, by decide, fun H17 s17' => ?_⟩
  · simp only [List.mem_cons, List.not_mem_nil, or_false] at hx'
    rcases hx' with rfl | rfl | rfl <;> decide
  rw [fixed_words]
  refine ⟨rfl, _, rfl, ?_⟩
  rw [decide_eq_true rfl]
  refine iteF ?_
  have s717 := (s714.trans s15').trans (s16.trans s17')
  refine ⟨_, rfl, l, rfl, ⟨_, SqL.of (s717 _ _ hl7)⟩, fun lt hlt => ?_⟩
  have hlen8 : ∀ n ∈ ns, n.length ≤ 8 := fun n hn => (ok_len (hg.2.1 n hn)).2
  refine comp_lst_map sv ns (fun _ => true) (fun n => .str (Str.ofString "q" ++ tx (cutL n (some 1) none) ++ Str.ofString "q")) (SqL.of (s717 _ _ hl7)) (by omega) hlt ?_ ?_ ?_
  · intro n hn H' S C hC; exact hC _ (Same.refl _)
  · intro n hn _ H' S C hC
    have h8 := hlen8 n hn
    have hcl : (cutL n (some 1) none).length ≤ n.length := cutL_len _ _ _
    have q1 : (Str.ofString "q").length = 1 := rfl
    exact ⟨_, rfl, 1, rfl, n, rfl, sz (by omega), _, _, rfl, rfl, sz (by rw [q1, tx_len]; omega), _, Str.ofString "q", rfl, rfl, sz (by rw [strLen_append, q1, tx_len]; omega), hC _ (Same.refl _)⟩
  intro H18 s18 e18
  have e18' : H18 lt = some (.lst ((ns.map fun n => Str.ofString "q" ++ tx (cutL n (some 1) none) ++ Str.ofString "q").map V.str)) := by
    rw [e18, List.filter_eq_self.mpr (fun _ _ => rfl), List.map_map]; rfl
  have hNt : NmAt K H18 lt (ns.map fun n => Str.ofString "q" ++ tx (cutL n (some 1) none) ++ Str.ofString "q") := by
    refine ⟨SqL.of e18', fun x hx => ?_, by rw [List.length_map]; omega⟩
    obtain ⟨n, hn, rfl⟩ := List.mem_map.mp hx
    have h8 := hlen8 n hn
    have hcl : (cutL n (some 1) none).length ≤ n.length := cutL_len _ _ _
    have q1 : (Str.ofString "q").length = 1 := rfl
    rw [strLen_append, strLen_append, q1, tx_len]; omega
  have htl2 : m ≤ (ns.map fun n => Str.ofString "q" ++ tx (cutL n (some 1) none) ++ Str.ofString "q").length := by rw [List.length_map]; omega
  have s718 := s717.trans s18
  generalize (ns.map fun n => Str.ofString "q" ++ tx (cutL n (some 1) none) ++ Str.ofString "q") = nt at hNt htl2
  obtain ⟨C, dx', ff, sp, g1, g2, g3, g4⟩ := ask_words K (c_Several := c_Several) (c_Stock := c_Stock) (IsTr.same s718 hT5) (show tallyT t ≤ 100 by omega) hm6 hsb
  refine ⟨_, rfl, bb, C, dx', ff, sp, rfl, g1, g2, g3, _, rfl, g4 H18 lt nt (Same.refl _) hNt htl2 _ fun H19 s19 => ?_⟩
  refine ⟨_, rfl, _, rfl, pf, t, _, lt, nt, m, rfl, FT.same (s718.trans s19) hF7, by omega, hNt.same s19, hm6, htl2, hsb, fun H20 s20 => ⟨rfl, _, rfl, ?_⟩⟩
  rw [decide_eq_true rfl]
  refine iteF ?_
  have s720 := (s718.trans s19).trans s20
  exact ⟨_, rfl, _, rfl, _, rfl, _, rfl, bb, st, l, t, _, ns, ks, ns.map tx, rfl, IsTr.same s720 hT5, by omega, IsStock.same s720 hI7, hsn, hN _ s720, by rw [List.length_map]; exact Nat.le_refl _, rfl, fun H21 s21 => q _⟩
end
theorem all_mk {l : PySem.W.OpenLaw} {w : World} {K : PySem.W.Frag} {h : Heap} {mg : Str → Option Value} {fa : Addr} (X : K.In h) (G : h.Ns mainGlobals mg) (hfa : mg "law" = some (.ref fa))
    {c_Bid c_Only c_SoMany c_UpTo c_Several c_AnyOf c_OneOf c_Stock : Addr}
    (b_Bid : PySem.W.nsIn K mainGlobals "Bid" = some (some (.ref c_Bid)))
    (pg_Bid : PySem.W.plainGet K c_Bid Str.empty = true)
    (hd_Bid : PySem.W.hasDictIn K c_Bid = true)
    (po_Bid : PySem.W.plainOver K c_Bid = true)
    (sa_Bid : PySem.W.findIn K (.ref c_Bid) "__setattr__" = some (some (.builtin "object.__setattr__")))
    (mk_Bid : PySem.W.makesIn K c_Bid = true)
    (kp_Bid : PySem.W.keepIn K (.ref c_Bid) = true)
    (t1_Bid : PySem.W.findIn K (.ref c_Bid) "__class__" = some (some (.builtin "object.__class__")))
    (t2_Bid : PySem.W.specialIn K (.builtin "object.__class__") "__get__" = some (some (.builtin "getset_descriptor.__get__")))
    (t3_Bid : PySem.W.takesIn K (.builtin "object.__class__") = some true)
    (t4_Bid : PySem.W.mroIn K c_Bid (.type "object") = some true)
    (in_Bid : PySem.W.findIn K (.ref c_Bid) "__init__" = some (some (.builtin "object.__init__")))
    (b_Only : PySem.W.nsIn K mainGlobals "Only" = some (some (.ref c_Only)))
    (pg_Only : PySem.W.plainGet K c_Only Str.empty = true)
    (hd_Only : PySem.W.hasDictIn K c_Only = true)
    (po_Only : PySem.W.plainOver K c_Only = true)
    (sa_Only : PySem.W.findIn K (.ref c_Only) "__setattr__" = some (some (.builtin "object.__setattr__")))
    (mk_Only : PySem.W.makesIn K c_Only = true)
    (kp_Only : PySem.W.keepIn K (.ref c_Only) = true)
    (no_Only_bundle : PySem.W.findIn K (.ref c_Only) "bundle" = some none)
    (no_Only_amount : PySem.W.findIn K (.ref c_Only) "amount" = some none)
    (t1_Only : PySem.W.findIn K (.ref c_Only) "__class__" = some (some (.builtin "object.__class__")))
    (t2_Only : PySem.W.specialIn K (.builtin "object.__class__") "__get__" = some (some (.builtin "getset_descriptor.__get__")))
    (t3_Only : PySem.W.takesIn K (.builtin "object.__class__") = some true)
    (t4_Only : PySem.W.mroIn K c_Only (.type "object") = some true)
    (b_SoMany : PySem.W.nsIn K mainGlobals "SoMany" = some (some (.ref c_SoMany)))
    (pg_SoMany : PySem.W.plainGet K c_SoMany Str.empty = true)
    (hd_SoMany : PySem.W.hasDictIn K c_SoMany = true)
    (po_SoMany : PySem.W.plainOver K c_SoMany = true)
    (sa_SoMany : PySem.W.findIn K (.ref c_SoMany) "__setattr__" = some (some (.builtin "object.__setattr__")))
    (mk_SoMany : PySem.W.makesIn K c_SoMany = true)
    (kp_SoMany : PySem.W.keepIn K (.ref c_SoMany) = true)
    (no_SoMany_kind : PySem.W.findIn K (.ref c_SoMany) "kind" = some none)
    (no_SoMany_least : PySem.W.findIn K (.ref c_SoMany) "least" = some none)
    (no_SoMany_amount : PySem.W.findIn K (.ref c_SoMany) "amount" = some none)
    (t1_SoMany : PySem.W.findIn K (.ref c_SoMany) "__class__" = some (some (.builtin "object.__class__")))
    (t2_SoMany : PySem.W.specialIn K (.builtin "object.__class__") "__get__" = some (some (.builtin "getset_descriptor.__get__")))
    (t3_SoMany : PySem.W.takesIn K (.builtin "object.__class__") = some true)
    (t4_SoMany : PySem.W.mroIn K c_SoMany (.type "object") = some true)
    (b_UpTo : PySem.W.nsIn K mainGlobals "UpTo" = some (some (.ref c_UpTo)))
    (pg_UpTo : PySem.W.plainGet K c_UpTo Str.empty = true)
    (hd_UpTo : PySem.W.hasDictIn K c_UpTo = true)
    (po_UpTo : PySem.W.plainOver K c_UpTo = true)
    (sa_UpTo : PySem.W.findIn K (.ref c_UpTo) "__setattr__" = some (some (.builtin "object.__setattr__")))
    (mk_UpTo : PySem.W.makesIn K c_UpTo = true)
    (kp_UpTo : PySem.W.keepIn K (.ref c_UpTo) = true)
    (no_UpTo_kind : PySem.W.findIn K (.ref c_UpTo) "kind" = some none)
    (no_UpTo_most : PySem.W.findIn K (.ref c_UpTo) "most" = some none)
    (no_UpTo_each : PySem.W.findIn K (.ref c_UpTo) "each" = some none)
    (t1_UpTo : PySem.W.findIn K (.ref c_UpTo) "__class__" = some (some (.builtin "object.__class__")))
    (t2_UpTo : PySem.W.specialIn K (.builtin "object.__class__") "__get__" = some (some (.builtin "getset_descriptor.__get__")))
    (t3_UpTo : PySem.W.takesIn K (.builtin "object.__class__") = some true)
    (t4_UpTo : PySem.W.mroIn K c_UpTo (.type "object") = some true)
    (b_Several : PySem.W.nsIn K mainGlobals "Several" = some (some (.ref c_Several)))
    (pg_Several : PySem.W.plainGet K c_Several Str.empty = true)
    (hd_Several : PySem.W.hasDictIn K c_Several = true)
    (po_Several : PySem.W.plainOver K c_Several = true)
    (sa_Several : PySem.W.findIn K (.ref c_Several) "__setattr__" = some (some (.builtin "object.__setattr__")))
    (mk_Several : PySem.W.makesIn K c_Several = true)
    (kp_Several : PySem.W.keepIn K (.ref c_Several) = true)
    (no_Several_bids : PySem.W.findIn K (.ref c_Several) "bids" = some none)
    (t1_Several : PySem.W.findIn K (.ref c_Several) "__class__" = some (some (.builtin "object.__class__")))
    (t2_Several : PySem.W.specialIn K (.builtin "object.__class__") "__get__" = some (some (.builtin "getset_descriptor.__get__")))
    (t3_Several : PySem.W.takesIn K (.builtin "object.__class__") = some true)
    (t4_Several : PySem.W.mroIn K c_Several (.type "object") = some true)
    (b_AnyOf : PySem.W.nsIn K mainGlobals "AnyOf" = some (some (.ref c_AnyOf)))
    (pg_AnyOf : PySem.W.plainGet K c_AnyOf Str.empty = true)
    (hd_AnyOf : PySem.W.hasDictIn K c_AnyOf = true)
    (po_AnyOf : PySem.W.plainOver K c_AnyOf = true)
    (sa_AnyOf : PySem.W.findIn K (.ref c_AnyOf) "__setattr__" = some (some (.builtin "object.__setattr__")))
    (mk_AnyOf : PySem.W.makesIn K c_AnyOf = true)
    (kp_AnyOf : PySem.W.keepIn K (.ref c_AnyOf) = true)
    (no_AnyOf_bids : PySem.W.findIn K (.ref c_AnyOf) "bids" = some none)
    (t1_AnyOf : PySem.W.findIn K (.ref c_AnyOf) "__class__" = some (some (.builtin "object.__class__")))
    (t2_AnyOf : PySem.W.specialIn K (.builtin "object.__class__") "__get__" = some (some (.builtin "getset_descriptor.__get__")))
    (t3_AnyOf : PySem.W.takesIn K (.builtin "object.__class__") = some true)
    (t4_AnyOf : PySem.W.mroIn K c_AnyOf (.type "object") = some true)
    (b_OneOf : PySem.W.nsIn K mainGlobals "OneOf" = some (some (.ref c_OneOf)))
    (pg_OneOf : PySem.W.plainGet K c_OneOf Str.empty = true)
    (hd_OneOf : PySem.W.hasDictIn K c_OneOf = true)
    (po_OneOf : PySem.W.plainOver K c_OneOf = true)
    (sa_OneOf : PySem.W.findIn K (.ref c_OneOf) "__setattr__" = some (some (.builtin "object.__setattr__")))
    (mk_OneOf : PySem.W.makesIn K c_OneOf = true)
    (kp_OneOf : PySem.W.keepIn K (.ref c_OneOf) = true)
    (no_OneOf_bids : PySem.W.findIn K (.ref c_OneOf) "bids" = some none)
    (t1_OneOf : PySem.W.findIn K (.ref c_OneOf) "__class__" = some (some (.builtin "object.__class__")))
    (t2_OneOf : PySem.W.specialIn K (.builtin "object.__class__") "__get__" = some (some (.builtin "getset_descriptor.__get__")))
    (t3_OneOf : PySem.W.takesIn K (.builtin "object.__class__") = some true)
    (t4_OneOf : PySem.W.mroIn K c_OneOf (.type "object") = some true)
    (b_Stock : PySem.W.nsIn K mainGlobals "Stock" = some (some (.ref c_Stock)))
    (pg_Stock : PySem.W.plainGet K c_Stock Str.empty = true)
    (hd_Stock : PySem.W.hasDictIn K c_Stock = true)
    (po_Stock : PySem.W.plainOver K c_Stock = true)
    (sa_Stock : PySem.W.findIn K (.ref c_Stock) "__setattr__" = some (some (.builtin "object.__setattr__")))
    (mk_Stock : PySem.W.makesIn K c_Stock = true)
    (kp_Stock : PySem.W.keepIn K (.ref c_Stock) = true)
    (no_Stock_numbers : PySem.W.findIn K (.ref c_Stock) "numbers" = some none)
    (no_Stock_kinds : PySem.W.findIn K (.ref c_Stock) "kinds" = some none)
    (t1_Stock : PySem.W.findIn K (.ref c_Stock) "__class__" = some (some (.builtin "object.__class__")))
    (t2_Stock : PySem.W.specialIn K (.builtin "object.__class__") "__get__" = some (some (.builtin "getset_descriptor.__get__")))
    (t3_Stock : PySem.W.takesIn K (.builtin "object.__class__") = some true)
    (t4_Stock : PySem.W.mroIn K c_Stock (.type "object") = some true)
    (kit_Bid_Bid : PySem.W.kitOne K (.ref c_Bid) (.ref c_Bid) = some true)
    (kit_Only_Bid : PySem.W.kitOne K (.ref c_Only) (.ref c_Bid) = some true)
    (kit_SoMany_Bid : PySem.W.kitOne K (.ref c_SoMany) (.ref c_Bid) = some true)
    (kit_UpTo_Bid : PySem.W.kitOne K (.ref c_UpTo) (.ref c_Bid) = some true)
    (kit_Several_Bid : PySem.W.kitOne K (.ref c_Several) (.ref c_Bid) = some true)
    (kit_AnyOf_Bid : PySem.W.kitOne K (.ref c_AnyOf) (.ref c_Bid) = some true)
    (kit_OneOf_Bid : PySem.W.kitOne K (.ref c_OneOf) (.ref c_Bid) = some true)
    (kit_Stock_Bid : PySem.W.kitOne K (.ref c_Stock) (.ref c_Bid) = some false)
    {f0 : Addr} {od0 an0 : Option Addr} {sl0 : Array (Option Value)} {oc0 kV0 dc0 pm0 cd0 ct0 : Value}
    (a0 : PySem.W.nsIn K mainGlobals "is_whole" = some (some (.ref f0))) (l0 : K.lookup f0 = some ⟨oc0, od0, .func (PySem.W.fnOf "is_whole" "is_whole" (defArgs s_P_is_whole) (defBody s_P_is_whole) (defScope s_P_is_whole) .none kV0 dc0 pm0 an0 cd0 ct0), sl0⟩) (c0 : PySem.W.codeIn K cd0 "is_whole" = true) (k0 : PySem.W.keepIn K (.ref f0) = true)
    {f1 : Addr} {od1 an1 : Option Addr} {sl1 : Array (Option Value)} {oc1 kV1 dc1 pm1 cd1 ct1 : Value}
    (a1 : PySem.W.nsIn K mainGlobals "is_within" = some (some (.ref f1))) (l1 : K.lookup f1 = some ⟨oc1, od1, .func (PySem.W.fnOf "is_within" "is_within" (defArgs s_P_is_within) (defBody s_P_is_within) (defScope s_P_is_within) .none kV1 dc1 pm1 an1 cd1 ct1), sl1⟩) (c1 : PySem.W.codeIn K cd1 "is_within" = true) (k1 : PySem.W.keepIn K (.ref f1) = true)
    {f2 : Addr} {od2 an2 : Option Addr} {sl2 : Array (Option Value)} {oc2 kV2 dc2 pm2 cd2 ct2 : Value}
    (a2 : PySem.W.nsIn K mainGlobals "things_in" = some (some (.ref f2))) (l2 : K.lookup f2 = some ⟨oc2, od2, .func (PySem.W.fnOf "things_in" "things_in" (defArgs s_P_things_in) (defBody s_P_things_in) (defScope s_P_things_in) .none kV2 dc2 pm2 an2 cd2 ct2), sl2⟩) (c2 : PySem.W.codeIn K cd2 "things_in" = true) (k2 : PySem.W.keepIn K (.ref f2) = true)
    {f3 : Addr} {od3 an3 : Option Addr} {sl3 : Array (Option Value)} {oc3 kV3 dc3 pm3 cd3 ct3 : Value}
    (a3 : PySem.W.nsIn K mainGlobals "holds" = some (some (.ref f3))) (l3 : K.lookup f3 = some ⟨oc3, od3, .func (PySem.W.fnOf "holds" "holds" (defArgs s_P_holds) (defBody s_P_holds) (defScope s_P_holds) .none kV3 dc3 pm3 an3 cd3 ct3), sl3⟩) (c3 : PySem.W.codeIn K cd3 "holds" = true) (k3 : PySem.W.keepIn K (.ref f3) = true)
    {f4 : Addr} {od4 an4 : Option Addr} {sl4 : Array (Option Value)} {oc4 kV4 dc4 pm4 cd4 ct4 : Value}
    (a4 : PySem.W.nsIn K mainGlobals "check_bundle" = some (some (.ref f4))) (l4 : K.lookup f4 = some ⟨oc4, od4, .func (PySem.W.fnOf "check_bundle" "check_bundle" (defArgs s_P_check_bundle) (defBody s_P_check_bundle) (defScope s_P_check_bundle) .none kV4 dc4 pm4 an4 cd4 ct4), sl4⟩) (c4 : PySem.W.codeIn K cd4 "check_bundle" = true) (k4 : PySem.W.keepIn K (.ref f4) = true)
    {f5 : Addr} {od5 an5 : Option Addr} {sl5 : Array (Option Value)} {oc5 kV5 dc5 pm5 cd5 ct5 : Value}
    (a5 : PySem.W.nsIn K mainGlobals "check_so_many" = some (some (.ref f5))) (l5 : K.lookup f5 = some ⟨oc5, od5, .func (PySem.W.fnOf "check_so_many" "check_so_many" (defArgs s_P_check_so_many) (defBody s_P_check_so_many) (defScope s_P_check_so_many) .none kV5 dc5 pm5 an5 cd5 ct5), sl5⟩) (c5 : PySem.W.codeIn K cd5 "check_so_many" = true) (k5 : PySem.W.keepIn K (.ref f5) = true)
    {f6 : Addr} {od6 an6 : Option Addr} {sl6 : Array (Option Value)} {oc6 kV6 dc6 pm6 cd6 ct6 : Value}
    (a6 : PySem.W.nsIn K mainGlobals "check_amount" = some (some (.ref f6))) (l6 : K.lookup f6 = some ⟨oc6, od6, .func (PySem.W.fnOf "check_amount" "check_amount" (defArgs s_P_check_amount) (defBody s_P_check_amount) (defScope s_P_check_amount) .none kV6 dc6 pm6 an6 cd6 ct6), sl6⟩) (c6 : PySem.W.codeIn K cd6 "check_amount" = true) (k6 : PySem.W.keepIn K (.ref f6) = true)
    {f7 : Addr} {od7 an7 : Option Addr} {sl7 : Array (Option Value)} {oc7 kV7 dc7 pm7 cd7 ct7 : Value}
    (a7 : PySem.W.nsIn K mainGlobals "check_bids" = some (some (.ref f7))) (l7 : K.lookup f7 = some ⟨oc7, od7, .func (PySem.W.fnOf "check_bids" "check_bids" (defArgs s_P_check_bids) (defBody s_P_check_bids) (defScope s_P_check_bids) .none kV7 dc7 pm7 an7 cd7 ct7), sl7⟩) (c7 : PySem.W.codeIn K cd7 "check_bids" = true) (k7 : PySem.W.keepIn K (.ref f7) = true)
    {f8 : Addr} {od8 an8 : Option Addr} {sl8 : Array (Option Value)} {oc8 kV8 dc8 pm8 cd8 ct8 : Value}
    (a8 : PySem.W.nsIn K mainGlobals "depth_over" = some (some (.ref f8))) (l8 : K.lookup f8 = some ⟨oc8, od8, .func (PySem.W.fnOf "depth_over" "depth_over" (defArgs s_P_depth_over) (defBody s_P_depth_over) (defScope s_P_depth_over) .none kV8 dc8 pm8 an8 cd8 ct8), sl8⟩) (c8 : PySem.W.codeIn K cd8 "depth_over" = true) (k8 : PySem.W.keepIn K (.ref f8) = true)
    {f9 : Addr} {od9 an9 : Option Addr} {sl9 : Array (Option Value)} {oc9 kV9 dc9 pm9 cd9 ct9 : Value}
    (a9 : PySem.W.nsIn K mainGlobals "tally_over" = some (some (.ref f9))) (l9 : K.lookup f9 = some ⟨oc9, od9, .func (PySem.W.fnOf "tally_over" "tally_over" (defArgs s_P_tally_over) (defBody s_P_tally_over) (defScope s_P_tally_over) .none kV9 dc9 pm9 an9 cd9 ct9), sl9⟩) (c9 : PySem.W.codeIn K cd9 "tally_over" = true) (k9 : PySem.W.keepIn K (.ref f9) = true)
    {f10 : Addr} {od10 an10 : Option Addr} {sl10 : Array (Option Value)} {oc10 kV10 dc10 pm10 cd10 ct10 : Value}
    (a10 : PySem.W.nsIn K mainGlobals "place_words" = some (some (.ref f10))) (l10 : K.lookup f10 = some ⟨oc10, od10, .func (PySem.W.fnOf "place_words" "place_words" (defArgs s_P_place_words) (defBody s_P_place_words) (defScope s_P_place_words) .none kV10 dc10 pm10 an10 cd10 ct10), sl10⟩) (c10 : PySem.W.codeIn K cd10 "place_words" = true) (k10 : PySem.W.keepIn K (.ref f10) = true)
    {f11 : Addr} {od11 an11 : Option Addr} {sl11 : Array (Option Value)} {oc11 kV11 dc11 pm11 cd11 ct11 : Value}
    (a11 : PySem.W.nsIn K mainGlobals "list_words" = some (some (.ref f11))) (l11 : K.lookup f11 = some ⟨oc11, od11, .func (PySem.W.fnOf "list_words" "list_words" (defArgs s_P_list_words) (defBody s_P_list_words) (defScope s_P_list_words) .none kV11 dc11 pm11 an11 cd11 ct11), sl11⟩) (c11 : PySem.W.codeIn K cd11 "list_words" = true) (k11 : PySem.W.keepIn K (.ref f11) = true)
    {f12 : Addr} {od12 an12 : Option Addr} {sl12 : Array (Option Value)} {oc12 kV12 dc12 pm12 cd12 ct12 : Value}
    (a12 : PySem.W.nsIn K mainGlobals "shown_bid" = some (some (.ref f12))) (l12 : K.lookup f12 = some ⟨oc12, od12, .func (PySem.W.fnOf "shown_bid" "shown_bid" (defArgs s_P_shown_bid) (defBody s_P_shown_bid) (defScope s_P_shown_bid) .none kV12 dc12 pm12 an12 cd12 ct12), sl12⟩) (c12 : PySem.W.codeIn K cd12 "shown_bid" = true) (k12 : PySem.W.keepIn K (.ref f12) = true)
    {f13 : Addr} {od13 an13 : Option Addr} {sl13 : Array (Option Value)} {oc13 kV13 dc13 pm13 cd13 ct13 : Value}
    (a13 : PySem.W.nsIn K mainGlobals "is_name" = some (some (.ref f13))) (l13 : K.lookup f13 = some ⟨oc13, od13, .func (PySem.W.fnOf "is_name" "is_name" (defArgs s_P_is_name) (defBody s_P_is_name) (defScope s_P_is_name) .none kV13 dc13 pm13 an13 cd13 ct13), sl13⟩) (c13 : PySem.W.codeIn K cd13 "is_name" = true) (k13 : PySem.W.keepIn K (.ref f13) = true)
    {f14 : Addr} {od14 an14 : Option Addr} {sl14 : Array (Option Value)} {oc14 kV14 dc14 pm14 cd14 ct14 : Value}
    (a14 : PySem.W.nsIn K mainGlobals "_law_cell" = some (some (.ref f14))) (l14 : K.lookup f14 = some ⟨oc14, od14, .func (PySem.W.fnOf "_law_cell" "_law_cell" (defArgs s_L_cell) (defBody s_L_cell) (defScope s_L_cell) .none kV14 dc14 pm14 an14 cd14 ct14), sl14⟩) (c14 : PySem.W.codeIn K cd14 "_law_cell" = true) (k14 : PySem.W.keepIn K (.ref f14) = true)
    {f15 : Addr} {od15 an15 : Option Addr} {sl15 : Array (Option Value)} {oc15 kV15 dc15 pm15 cd15 ct15 : Value}
    (a15 : PySem.W.nsIn K mainGlobals "_law_word" = some (some (.ref f15))) (l15 : K.lookup f15 = some ⟨oc15, od15, .func (PySem.W.fnOf "_law_word" "_law_word" (defArgs s_L_word) (defBody s_L_word) (defScope s_L_word) .none kV15 dc15 pm15 an15 cd15 ct15), sl15⟩) (c15 : PySem.W.codeIn K cd15 "_law_word" = true) (k15 : PySem.W.keepIn K (.ref f15) = true)
    {f16 : Addr} {od16 an16 : Option Addr} {sl16 : Array (Option Value)} {oc16 kV16 dc16 pm16 cd16 ct16 : Value}
    (a16 : PySem.W.nsIn K mainGlobals "_law_names" = some (some (.ref f16))) (l16 : K.lookup f16 = some ⟨oc16, od16, .func (PySem.W.fnOf "_law_names" "_law_names" (defArgs s_L_names) (defBody s_L_names) (defScope s_L_names) .none kV16 dc16 pm16 an16 cd16 ct16), sl16⟩) (c16 : PySem.W.codeIn K cd16 "_law_names" = true) (k16 : PySem.W.keepIn K (.ref f16) = true)
    {f17 : Addr} {od17 an17 : Option Addr} {sl17 : Array (Option Value)} {oc17 kV17 dc17 pm17 cd17 ct17 : Value}
    (a17 : PySem.W.nsIn K mainGlobals "_law_kinds" = some (some (.ref f17))) (l17 : K.lookup f17 = some ⟨oc17, od17, .func (PySem.W.fnOf "_law_kinds" "_law_kinds" (defArgs s_L_kinds) (defBody s_L_kinds) (defScope s_L_kinds) .none kV17 dc17 pm17 an17 cd17 ct17), sl17⟩) (c17 : PySem.W.codeIn K cd17 "_law_kinds" = true) (k17 : PySem.W.keepIn K (.ref f17) = true)
    {f18 : Addr} {od18 an18 : Option Addr} {sl18 : Array (Option Value)} {oc18 kV18 dc18 pm18 cd18 ct18 : Value}
    (a18 : PySem.W.nsIn K mainGlobals "_law_amount" = some (some (.ref f18))) (l18 : K.lookup f18 = some ⟨oc18, od18, .func (PySem.W.fnOf "_law_amount" "_law_amount" (defArgs s_L_amount) (defBody s_L_amount) (defScope s_L_amount) .none kV18 dc18 pm18 an18 cd18 ct18), sl18⟩) (c18 : PySem.W.codeIn K cd18 "_law_amount" = true) (k18 : PySem.W.keepIn K (.ref f18) = true)
    {f19 : Addr} {od19 an19 : Option Addr} {sl19 : Array (Option Value)} {oc19 kV19 dc19 pm19 cd19 ct19 : Value}
    (a19 : PySem.W.nsIn K mainGlobals "_law_leaf" = some (some (.ref f19))) (l19 : K.lookup f19 = some ⟨oc19, od19, .func (PySem.W.fnOf "_law_leaf" "_law_leaf" (defArgs s_L_leaf) (defBody s_L_leaf) (defScope s_L_leaf) .none kV19 dc19 pm19 an19 cd19 ct19), sl19⟩) (c19 : PySem.W.codeIn K cd19 "_law_leaf" = true) (k19 : PySem.W.keepIn K (.ref f19) = true)
    {f20 : Addr} {od20 an20 : Option Addr} {sl20 : Array (Option Value)} {oc20 kV20 dc20 pm20 cd20 ct20 : Value}
    (a20 : PySem.W.nsIn K mainGlobals "_law_grouped" = some (some (.ref f20))) (l20 : K.lookup f20 = some ⟨oc20, od20, .func (PySem.W.fnOf "_law_grouped" "_law_grouped" (defArgs s_L_grouped) (defBody s_L_grouped) (defScope s_L_grouped) .none kV20 dc20 pm20 an20 cd20 ct20), sl20⟩) (c20 : PySem.W.codeIn K cd20 "_law_grouped" = true) (k20 : PySem.W.keepIn K (.ref f20) = true)
    {f21 : Addr} {od21 an21 : Option Addr} {sl21 : Array (Option Value)} {oc21 kV21 dc21 pm21 cd21 ct21 : Value}
    (a21 : PySem.W.nsIn K mainGlobals "_law_made" = some (some (.ref f21))) (l21 : K.lookup f21 = some ⟨oc21, od21, .func (PySem.W.fnOf "_law_made" "_law_made" (defArgs s_L_made) (defBody s_L_made) (defScope s_L_made) .none kV21 dc21 pm21 an21 cd21 ct21), sl21⟩) (c21 : PySem.W.codeIn K cd21 "_law_made" = true) (k21 : PySem.W.keepIn K (.ref f21) = true)
    {f22 : Addr} {od22 an22 : Option Addr} {sl22 : Array (Option Value)} {oc22 kV22 dc22 pm22 cd22 ct22 : Value}
    (a22 : PySem.W.nsIn K mainGlobals "_law_place" = some (some (.ref f22))) (l22 : K.lookup f22 = some ⟨oc22, od22, .func (PySem.W.fnOf "_law_place" "_law_place" (defArgs s_L_place) (defBody s_L_place) (defScope s_L_place) .none kV22 dc22 pm22 an22 cd22 ct22), sl22⟩) (c22 : PySem.W.codeIn K cd22 "_law_place" = true) (k22 : PySem.W.keepIn K (.ref f22) = true)
    {f23 : Addr} {od23 an23 : Option Addr} {sl23 : Array (Option Value)} {oc23 kV23 dc23 pm23 cd23 ct23 : Value}
    (a23 : PySem.W.nsIn K mainGlobals "_law_text" = some (some (.ref f23))) (l23 : K.lookup f23 = some ⟨oc23, od23, .func (PySem.W.fnOf "_law_text" "_law_text" (defArgs s_L_text) (defBody s_L_text) (defScope s_L_text) .none kV23 dc23 pm23 an23 cd23 ct23), sl23⟩) (c23 : PySem.W.codeIn K cd23 "_law_text" = true) (k23 : PySem.W.keepIn K (.ref f23) = true)
    {f24 : Addr} {od24 an24 : Option Addr} {sl24 : Array (Option Value)} {oc24 kV24 dc24 pm24 cd24 ct24 : Value}
    (a24 : PySem.W.nsIn K mainGlobals "_law_form" = some (some (.ref f24))) (l24 : K.lookup f24 = some ⟨oc24, od24, .func (PySem.W.fnOf "_law_form" "_law_form" (defArgs s_L_form) (defBody s_L_form) (defScope s_L_form) .none kV24 dc24 pm24 an24 cd24 ct24), sl24⟩) (c24 : PySem.W.codeIn K cd24 "_law_form" = true) (k24 : PySem.W.keepIn K (.ref f24) = true)
    {f25 : Addr} {od25 an25 : Option Addr} {sl25 : Array (Option Value)} {oc25 kV25 dc25 pm25 cd25 ct25 : Value}
    (a25 : PySem.W.nsIn K mainGlobals "_law_good" = some (some (.ref f25))) (l25 : K.lookup f25 = some ⟨oc25, od25, .func (PySem.W.fnOf "_law_good" "_law_good" (defArgs s_L_good) (defBody s_L_good) (defScope s_L_good) .none kV25 dc25 pm25 an25 cd25 ct25), sl25⟩) (c25 : PySem.W.codeIn K cd25 "_law_good" = true) (k25 : PySem.W.keepIn K (.ref f25) = true)
    {f26 : Addr} {od26 an26 : Option Addr} {sl26 : Array (Option Value)} {oc26 kV26 dc26 pm26 cd26 ct26 : Value}
    (a26 : PySem.W.nsIn K mainGlobals "law" = some (some (.ref f26))) (l26 : K.lookup f26 = some ⟨oc26, od26, .func (PySem.W.fnOf "law" "law" (defArgs s_law) (defBody s_law) (defScope s_law) .none kV26 dc26 pm26 an26 cd26 ct26), sl26⟩) (c26 : PySem.W.codeIn K cd26 "law" = true) (k26 : PySem.W.keepIn K (.ref f26) = true)
    {f27 : Addr} {od27 an27 : Option Addr} {sl27 : Array (Option Value)} {oc27 kV27 dc27 pm27 cd27 ct27 : Value}
    (a27 : PySem.W.findIn K (.ref c_Bid) "depth" = some (some (.ref f27))) (l27 : K.lookup f27 = some ⟨oc27, od27, .func (PySem.W.fnOf "depth" "Bid.depth" (defArgs s_M_Bid_depth) (defBody s_M_Bid_depth) (defScope s_M_Bid_depth) .none kV27 dc27 pm27 an27 cd27 ct27), sl27⟩) (c27 : PySem.W.codeIn K cd27 "Bid.depth" = true) (k27 : PySem.W.keepIn K (.ref f27) = true) (n27 : PySem.W.isFn K (.ref f27) = true)
    (i27_Only : PySem.W.findIn K (.ref c_Only) "depth" = some (some (.ref f27)))
    (i27_SoMany : PySem.W.findIn K (.ref c_SoMany) "depth" = some (some (.ref f27)))
    (i27_UpTo : PySem.W.findIn K (.ref c_UpTo) "depth" = some (some (.ref f27)))
    {f28 : Addr} {od28 an28 : Option Addr} {sl28 : Array (Option Value)} {oc28 kV28 dc28 pm28 cd28 ct28 : Value}
    (a28 : PySem.W.findIn K (.ref c_Bid) "tally" = some (some (.ref f28))) (l28 : K.lookup f28 = some ⟨oc28, od28, .func (PySem.W.fnOf "tally" "Bid.tally" (defArgs s_M_Bid_tally) (defBody s_M_Bid_tally) (defScope s_M_Bid_tally) .none kV28 dc28 pm28 an28 cd28 ct28), sl28⟩) (c28 : PySem.W.codeIn K cd28 "Bid.tally" = true) (k28 : PySem.W.keepIn K (.ref f28) = true) (n28 : PySem.W.isFn K (.ref f28) = true)
    (i28_Only : PySem.W.findIn K (.ref c_Only) "tally" = some (some (.ref f28)))
    (i28_SoMany : PySem.W.findIn K (.ref c_SoMany) "tally" = some (some (.ref f28)))
    (i28_UpTo : PySem.W.findIn K (.ref c_UpTo) "tally" = some (some (.ref f28)))
    {f29 : Addr} {od29 an29 : Option Addr} {sl29 : Array (Option Value)} {oc29 kV29 dc29 pm29 cd29 ct29 : Value}
    (a29 : PySem.W.findIn K (.ref c_Bid) "words" = some (some (.ref f29))) (l29 : K.lookup f29 = some ⟨oc29, od29, .func (PySem.W.fnOf "words" "Bid.words" (defArgs s_M_Bid_words) (defBody s_M_Bid_words) (defScope s_M_Bid_words) .none kV29 dc29 pm29 an29 cd29 ct29), sl29⟩) (c29 : PySem.W.codeIn K cd29 "Bid.words" = true) (k29 : PySem.W.keepIn K (.ref f29) = true) (n29 : PySem.W.isFn K (.ref f29) = true)
    (i29_Several : PySem.W.findIn K (.ref c_Several) "words" = some (some (.ref f29)))
    {f30 : Addr} {od30 an30 : Option Addr} {sl30 : Array (Option Value)} {oc30 kV30 dc30 pm30 cd30 ct30 : Value}
    (a30 : PySem.W.findIn K (.ref c_Only) "__init__" = some (some (.ref f30))) (l30 : K.lookup f30 = some ⟨oc30, od30, .func (PySem.W.fnOf "__init__" "Only.__init__" (defArgs s_M_Only___init__) (defBody s_M_Only___init__) (defScope s_M_Only___init__) .none kV30 dc30 pm30 an30 cd30 ct30), sl30⟩) (c30 : PySem.W.codeIn K cd30 "Only.__init__" = true) (k30 : PySem.W.keepIn K (.ref f30) = true) (n30 : PySem.W.isFn K (.ref f30) = true)
    {f31 : Addr} {od31 an31 : Option Addr} {sl31 : Array (Option Value)} {oc31 kV31 dc31 pm31 cd31 ct31 : Value}
    (a31 : PySem.W.findIn K (.ref c_Only) "words" = some (some (.ref f31))) (l31 : K.lookup f31 = some ⟨oc31, od31, .func (PySem.W.fnOf "words" "Only.words" (defArgs s_M_Only_words) (defBody s_M_Only_words) (defScope s_M_Only_words) .none kV31 dc31 pm31 an31 cd31 ct31), sl31⟩) (c31 : PySem.W.codeIn K cd31 "Only.words" = true) (k31 : PySem.W.keepIn K (.ref f31) = true) (n31 : PySem.W.isFn K (.ref f31) = true)
    {f32 : Addr} {od32 an32 : Option Addr} {sl32 : Array (Option Value)} {oc32 kV32 dc32 pm32 cd32 ct32 : Value}
    (a32 : PySem.W.findIn K (.ref c_SoMany) "__init__" = some (some (.ref f32))) (l32 : K.lookup f32 = some ⟨oc32, od32, .func (PySem.W.fnOf "__init__" "SoMany.__init__" (defArgs s_M_SoMany___init__) (defBody s_M_SoMany___init__) (defScope s_M_SoMany___init__) .none kV32 dc32 pm32 an32 cd32 ct32), sl32⟩) (c32 : PySem.W.codeIn K cd32 "SoMany.__init__" = true) (k32 : PySem.W.keepIn K (.ref f32) = true) (n32 : PySem.W.isFn K (.ref f32) = true)
    {f33 : Addr} {od33 an33 : Option Addr} {sl33 : Array (Option Value)} {oc33 kV33 dc33 pm33 cd33 ct33 : Value}
    (a33 : PySem.W.findIn K (.ref c_SoMany) "words" = some (some (.ref f33))) (l33 : K.lookup f33 = some ⟨oc33, od33, .func (PySem.W.fnOf "words" "SoMany.words" (defArgs s_M_SoMany_words) (defBody s_M_SoMany_words) (defScope s_M_SoMany_words) .none kV33 dc33 pm33 an33 cd33 ct33), sl33⟩) (c33 : PySem.W.codeIn K cd33 "SoMany.words" = true) (k33 : PySem.W.keepIn K (.ref f33) = true) (n33 : PySem.W.isFn K (.ref f33) = true)
    {f34 : Addr} {od34 an34 : Option Addr} {sl34 : Array (Option Value)} {oc34 kV34 dc34 pm34 cd34 ct34 : Value}
    (a34 : PySem.W.findIn K (.ref c_UpTo) "__init__" = some (some (.ref f34))) (l34 : K.lookup f34 = some ⟨oc34, od34, .func (PySem.W.fnOf "__init__" "UpTo.__init__" (defArgs s_M_UpTo___init__) (defBody s_M_UpTo___init__) (defScope s_M_UpTo___init__) .none kV34 dc34 pm34 an34 cd34 ct34), sl34⟩) (c34 : PySem.W.codeIn K cd34 "UpTo.__init__" = true) (k34 : PySem.W.keepIn K (.ref f34) = true) (n34 : PySem.W.isFn K (.ref f34) = true)
    {f35 : Addr} {od35 an35 : Option Addr} {sl35 : Array (Option Value)} {oc35 kV35 dc35 pm35 cd35 ct35 : Value}
    (a35 : PySem.W.findIn K (.ref c_UpTo) "words" = some (some (.ref f35))) (l35 : K.lookup f35 = some ⟨oc35, od35, .func (PySem.W.fnOf "words" "UpTo.words" (defArgs s_M_UpTo_words) (defBody s_M_UpTo_words) (defScope s_M_UpTo_words) .none kV35 dc35 pm35 an35 cd35 ct35), sl35⟩) (c35 : PySem.W.codeIn K cd35 "UpTo.words" = true) (k35 : PySem.W.keepIn K (.ref f35) = true) (n35 : PySem.W.isFn K (.ref f35) = true)
    {f36 : Addr} {od36 an36 : Option Addr} {sl36 : Array (Option Value)} {oc36 kV36 dc36 pm36 cd36 ct36 : Value}
    (a36 : PySem.W.findIn K (.ref c_Several) "__init__" = some (some (.ref f36))) (l36 : K.lookup f36 = some ⟨oc36, od36, .func (PySem.W.fnOf "__init__" "Several.__init__" (defArgs s_M_Several___init__) (defBody s_M_Several___init__) (defScope s_M_Several___init__) .none kV36 dc36 pm36 an36 cd36 ct36), sl36⟩) (c36 : PySem.W.codeIn K cd36 "Several.__init__" = true) (k36 : PySem.W.keepIn K (.ref f36) = true) (n36 : PySem.W.isFn K (.ref f36) = true)
    (i36_AnyOf : PySem.W.findIn K (.ref c_AnyOf) "__init__" = some (some (.ref f36)))
    (i36_OneOf : PySem.W.findIn K (.ref c_OneOf) "__init__" = some (some (.ref f36)))
    {f37 : Addr} {od37 an37 : Option Addr} {sl37 : Array (Option Value)} {oc37 kV37 dc37 pm37 cd37 ct37 : Value}
    (a37 : PySem.W.findIn K (.ref c_Several) "depth" = some (some (.ref f37))) (l37 : K.lookup f37 = some ⟨oc37, od37, .func (PySem.W.fnOf "depth" "Several.depth" (defArgs s_M_Several_depth) (defBody s_M_Several_depth) (defScope s_M_Several_depth) .none kV37 dc37 pm37 an37 cd37 ct37), sl37⟩) (c37 : PySem.W.codeIn K cd37 "Several.depth" = true) (k37 : PySem.W.keepIn K (.ref f37) = true) (n37 : PySem.W.isFn K (.ref f37) = true)
    (i37_AnyOf : PySem.W.findIn K (.ref c_AnyOf) "depth" = some (some (.ref f37)))
    (i37_OneOf : PySem.W.findIn K (.ref c_OneOf) "depth" = some (some (.ref f37)))
    {f38 : Addr} {od38 an38 : Option Addr} {sl38 : Array (Option Value)} {oc38 kV38 dc38 pm38 cd38 ct38 : Value}
    (a38 : PySem.W.findIn K (.ref c_Several) "tally" = some (some (.ref f38))) (l38 : K.lookup f38 = some ⟨oc38, od38, .func (PySem.W.fnOf "tally" "Several.tally" (defArgs s_M_Several_tally) (defBody s_M_Several_tally) (defScope s_M_Several_tally) .none kV38 dc38 pm38 an38 cd38 ct38), sl38⟩) (c38 : PySem.W.codeIn K cd38 "Several.tally" = true) (k38 : PySem.W.keepIn K (.ref f38) = true) (n38 : PySem.W.isFn K (.ref f38) = true)
    (i38_AnyOf : PySem.W.findIn K (.ref c_AnyOf) "tally" = some (some (.ref f38)))
    (i38_OneOf : PySem.W.findIn K (.ref c_OneOf) "tally" = some (some (.ref f38)))
    {f39 : Addr} {od39 an39 : Option Addr} {sl39 : Array (Option Value)} {oc39 kV39 dc39 pm39 cd39 ct39 : Value}
    (a39 : PySem.W.findIn K (.ref c_AnyOf) "words" = some (some (.ref f39))) (l39 : K.lookup f39 = some ⟨oc39, od39, .func (PySem.W.fnOf "words" "AnyOf.words" (defArgs s_M_AnyOf_words) (defBody s_M_AnyOf_words) (defScope s_M_AnyOf_words) .none kV39 dc39 pm39 an39 cd39 ct39), sl39⟩) (c39 : PySem.W.codeIn K cd39 "AnyOf.words" = true) (k39 : PySem.W.keepIn K (.ref f39) = true) (n39 : PySem.W.isFn K (.ref f39) = true)
    {f40 : Addr} {od40 an40 : Option Addr} {sl40 : Array (Option Value)} {oc40 kV40 dc40 pm40 cd40 ct40 : Value}
    (a40 : PySem.W.findIn K (.ref c_OneOf) "words" = some (some (.ref f40))) (l40 : K.lookup f40 = some ⟨oc40, od40, .func (PySem.W.fnOf "words" "OneOf.words" (defArgs s_M_OneOf_words) (defBody s_M_OneOf_words) (defScope s_M_OneOf_words) .none kV40 dc40 pm40 an40 cd40 ct40), sl40⟩) (c40 : PySem.W.codeIn K cd40 "OneOf.words" = true) (k40 : PySem.W.keepIn K (.ref f40) = true) (n40 : PySem.W.isFn K (.ref f40) = true)
    {f41 : Addr} {od41 an41 : Option Addr} {sl41 : Array (Option Value)} {oc41 kV41 dc41 pm41 cd41 ct41 : Value}
    (a41 : PySem.W.findIn K (.ref c_Stock) "__init__" = some (some (.ref f41))) (l41 : K.lookup f41 = some ⟨oc41, od41, .func (PySem.W.fnOf "__init__" "Stock.__init__" (defArgs s_M_Stock___init__) (defBody s_M_Stock___init__) (defScope s_M_Stock___init__) .none kV41 dc41 pm41 an41 cd41 ct41), sl41⟩) (c41 : PySem.W.codeIn K cd41 "Stock.__init__" = true) (k41 : PySem.W.keepIn K (.ref f41) = true) (n41 : PySem.W.isFn K (.ref f41) = true)
    {f42 : Addr} {od42 an42 : Option Addr} {sl42 : Array (Option Value)} {oc42 kV42 dc42 pm42 cd42 ct42 : Value}
    (a42 : PySem.W.findIn K (.ref c_Stock) "names" = some (some (.ref f42))) (l42 : K.lookup f42 = some ⟨oc42, od42, .func (PySem.W.fnOf "names" "Stock.names" (defArgs s_M_Stock_names) (defBody s_M_Stock_names) (defScope s_M_Stock_names) .none kV42 dc42 pm42 an42 cd42 ct42), sl42⟩) (c42 : PySem.W.codeIn K cd42 "Stock.names" = true) (k42 : PySem.W.keepIn K (.ref f42) = true) (n42 : PySem.W.isFn K (.ref f42) = true)
    (z_isinstance : PySem.W.nsIn K mainGlobals "isinstance" = some none)
    (z_int : PySem.W.nsIn K mainGlobals "int" = some none)
    (z_bool : PySem.W.nsIn K mainGlobals "bool" = some none)
    (z_range : PySem.W.nsIn K mainGlobals "range" = some none)
    (z_list : PySem.W.nsIn K mainGlobals "list" = some none)
    (z_max : PySem.W.nsIn K mainGlobals "max" = some none)
    (z_sum : PySem.W.nsIn K mainGlobals "sum" = some none)
    (z_all : PySem.W.nsIn K mainGlobals "all" = some none)
    (z_str : PySem.W.nsIn K mainGlobals "str" = some none)
    (z_len : PySem.W.nsIn K mainGlobals "len" = some none)
    (z_divmod : PySem.W.nsIn K mainGlobals "divmod" = some none)
    (z_reversed : PySem.W.nsIn K mainGlobals "reversed" = some none)
    (z_zip : PySem.W.nsIn K mainGlobals "zip" = some none)
    (z_enumerate : PySem.W.nsIn K mainGlobals "enumerate" = some none)
    : ∃ fd : FuncData, (∀ (s : Shared) (v : Value), BindsTo s fd ⟨[v], []⟩ [("_law_script", v)]) ∧ ∀ base : Heap, K.In base → base.Ns mainGlobals mg → FnOk l.prog w K mg base CX0 19 fa fd ["_law_script"] (sp_law K) := by
  have e := hfa.symm.trans (PySem.W.mg_of X G a26)
  cases e
  have F0 := fun_mk (st := s_P_is_whole) l0 c0 k0
  have g0 := PySem.W.mg_of X G a0
  have F1 := fun_mk (st := s_P_is_within) l1 c1 k1
  have g1 := PySem.W.mg_of X G a1
  have F2 := fun_mk (st := s_P_things_in) l2 c2 k2
  have g2 := PySem.W.mg_of X G a2
  have F3 := fun_mk (st := s_P_holds) l3 c3 k3
  have g3 := PySem.W.mg_of X G a3
  have F4 := fun_mk (st := s_P_check_bundle) l4 c4 k4
  have g4 := PySem.W.mg_of X G a4
  have F5 := fun_mk (st := s_P_check_so_many) l5 c5 k5
  have g5 := PySem.W.mg_of X G a5
  have F6 := fun_mk (st := s_P_check_amount) l6 c6 k6
  have g6 := PySem.W.mg_of X G a6
  have F7 := fun_mk (st := s_P_check_bids) l7 c7 k7
  have g7 := PySem.W.mg_of X G a7
  have F8 := fun_mk (st := s_P_depth_over) l8 c8 k8
  have g8 := PySem.W.mg_of X G a8
  have F9 := fun_mk (st := s_P_tally_over) l9 c9 k9
  have g9 := PySem.W.mg_of X G a9
  have F10 := fun_mk (st := s_P_place_words) l10 c10 k10
  have g10 := PySem.W.mg_of X G a10
  have F11 := fun_mk (st := s_P_list_words) l11 c11 k11
  have g11 := PySem.W.mg_of X G a11
  have F12 := fun_mk (st := s_P_shown_bid) l12 c12 k12
  have g12 := PySem.W.mg_of X G a12
  have F13 := fun_mk (st := s_P_is_name) l13 c13 k13
  have g13 := PySem.W.mg_of X G a13
  have F14 := fun_mk (st := s_L_cell) l14 c14 k14
  have g14 := PySem.W.mg_of X G a14
  have F15 := fun_mk (st := s_L_word) l15 c15 k15
  have g15 := PySem.W.mg_of X G a15
  have F16 := fun_mk (st := s_L_names) l16 c16 k16
  have g16 := PySem.W.mg_of X G a16
  have F17 := fun_mk (st := s_L_kinds) l17 c17 k17
  have g17 := PySem.W.mg_of X G a17
  have F18 := fun_mk (st := s_L_amount) l18 c18 k18
  have g18 := PySem.W.mg_of X G a18
  have F19 := fun_mk (st := s_L_leaf) l19 c19 k19
  have g19 := PySem.W.mg_of X G a19
  have F20 := fun_mk (st := s_L_grouped) l20 c20 k20
  have g20 := PySem.W.mg_of X G a20
  have F21 := fun_mk (st := s_L_made) l21 c21 k21
  have g21 := PySem.W.mg_of X G a21
  have F22 := fun_mk (st := s_L_place) l22 c22 k22
  have g22 := PySem.W.mg_of X G a22
  have F23 := fun_mk (st := s_L_text) l23 c23 k23
  have g23 := PySem.W.mg_of X G a23
  have F24 := fun_mk (st := s_L_form) l24 c24 k24
  have g24 := PySem.W.mg_of X G a24
  have F25 := fun_mk (st := s_L_good) l25 c25 k25
  have g25 := PySem.W.mg_of X G a25
  have F26 := fun_mk (st := s_law) l26 c26 k26
  have g26 := PySem.W.mg_of X G a26
  have F27 := fun_mk (st := s_M_Bid_depth) l27 c27 k27
  have F28 := fun_mk (st := s_M_Bid_tally) l28 c28 k28
  have F29 := fun_mk (st := s_M_Bid_words) l29 c29 k29
  have F30 := fun_mk (st := s_M_Only___init__) l30 c30 k30
  have F31 := fun_mk (st := s_M_Only_words) l31 c31 k31
  have F32 := fun_mk (st := s_M_SoMany___init__) l32 c32 k32
  have F33 := fun_mk (st := s_M_SoMany_words) l33 c33 k33
  have F34 := fun_mk (st := s_M_UpTo___init__) l34 c34 k34
  have F35 := fun_mk (st := s_M_UpTo_words) l35 c35 k35
  have F36 := fun_mk (st := s_M_Several___init__) l36 c36 k36
  have F37 := fun_mk (st := s_M_Several_depth) l37 c37 k37
  have F38 := fun_mk (st := s_M_Several_tally) l38 c38 k38
  have F39 := fun_mk (st := s_M_AnyOf_words) l39 c39 k39
  have F40 := fun_mk (st := s_M_OneOf_words) l40 c40 k40
  have F41 := fun_mk (st := s_M_Stock___init__) l41 c41 k41
  have F42 := fun_mk (st := s_M_Stock_names) l42 c42 k42
  have m_isinstance := PySem.W.mg_none_of X G z_isinstance
  have m_int := PySem.W.mg_none_of X G z_int
  have m_bool := PySem.W.mg_none_of X G z_bool
  have m_range := PySem.W.mg_none_of X G z_range
  have m_list := PySem.W.mg_none_of X G z_list
  have m_max := PySem.W.mg_none_of X G z_max
  have m_sum := PySem.W.mg_none_of X G z_sum
  have m_all := PySem.W.mg_none_of X G z_all
  have m_str := PySem.W.mg_none_of X G z_str
  have m_len := PySem.W.mg_none_of X G z_len
  have m_divmod := PySem.W.mg_none_of X G z_divmod
  have m_reversed := PySem.W.mg_none_of X G z_reversed
  have m_zip := PySem.W.mg_none_of X G z_zip
  have m_enumerate := PySem.W.mg_none_of X G z_enumerate
  refine ⟨PySem.W.fnOf "law" "law" (defArgs s_law) (defBody s_law) (defScope s_law) .none kV26 dc26 pm26 an26 cd26 ct26, fun s v => .of_eq rfl, fun base _ _ => ?_⟩
  have O_Bid : Own K mg "Bid" c_Bid [] := ⟨PySem.W.mg_of X G b_Bid, ⟨pg_Bid, hd_Bid, po_Bid, sa_Bid⟩, mk_Bid, kp_Bid, (by intro f hf; cases hf), t1_Bid, t2_Bid, t3_Bid, t4_Bid⟩
  have O_Only : Own K mg "Only" c_Only ["bundle", "amount"] := ⟨PySem.W.mg_of X G b_Only, ⟨pg_Only, hd_Only, po_Only, sa_Only⟩, mk_Only, kp_Only, (by intro f hf; simp only [List.mem_cons, List.not_mem_nil, or_false] at hf; rcases hf with rfl | rfl <;> assumption), t1_Only, t2_Only, t3_Only, t4_Only⟩
  have O_SoMany : Own K mg "SoMany" c_SoMany ["kind", "least", "amount"] := ⟨PySem.W.mg_of X G b_SoMany, ⟨pg_SoMany, hd_SoMany, po_SoMany, sa_SoMany⟩, mk_SoMany, kp_SoMany, (by intro f hf; simp only [List.mem_cons, List.not_mem_nil, or_false] at hf; rcases hf with rfl | rfl | rfl <;> assumption), t1_SoMany, t2_SoMany, t3_SoMany, t4_SoMany⟩
  have O_UpTo : Own K mg "UpTo" c_UpTo ["kind", "most", "each"] := ⟨PySem.W.mg_of X G b_UpTo, ⟨pg_UpTo, hd_UpTo, po_UpTo, sa_UpTo⟩, mk_UpTo, kp_UpTo, (by intro f hf; simp only [List.mem_cons, List.not_mem_nil, or_false] at hf; rcases hf with rfl | rfl | rfl <;> assumption), t1_UpTo, t2_UpTo, t3_UpTo, t4_UpTo⟩
  have O_Several : Own K mg "Several" c_Several ["bids"] := ⟨PySem.W.mg_of X G b_Several, ⟨pg_Several, hd_Several, po_Several, sa_Several⟩, mk_Several, kp_Several, (by intro f hf; simp only [List.mem_cons, List.not_mem_nil, or_false] at hf; rcases hf with rfl <;> assumption), t1_Several, t2_Several, t3_Several, t4_Several⟩
  have O_AnyOf : Own K mg "AnyOf" c_AnyOf ["bids"] := ⟨PySem.W.mg_of X G b_AnyOf, ⟨pg_AnyOf, hd_AnyOf, po_AnyOf, sa_AnyOf⟩, mk_AnyOf, kp_AnyOf, (by intro f hf; simp only [List.mem_cons, List.not_mem_nil, or_false] at hf; rcases hf with rfl <;> assumption), t1_AnyOf, t2_AnyOf, t3_AnyOf, t4_AnyOf⟩
  have O_OneOf : Own K mg "OneOf" c_OneOf ["bids"] := ⟨PySem.W.mg_of X G b_OneOf, ⟨pg_OneOf, hd_OneOf, po_OneOf, sa_OneOf⟩, mk_OneOf, kp_OneOf, (by intro f hf; simp only [List.mem_cons, List.not_mem_nil, or_false] at hf; rcases hf with rfl <;> assumption), t1_OneOf, t2_OneOf, t3_OneOf, t4_OneOf⟩
  have O_Stock : Own K mg "Stock" c_Stock ["numbers", "kinds"] := ⟨PySem.W.mg_of X G b_Stock, ⟨pg_Stock, hd_Stock, po_Stock, sa_Stock⟩, mk_Stock, kp_Stock, (by intro f hf; simp only [List.mem_cons, List.not_mem_nil, or_false] at hf; rcases hf with rfl | rfl <;> assumption), t1_Stock, t2_Stock, t3_Stock, t4_Stock⟩
  have D_P_is_whole := ok_P_is_whole (P := l.prog) (w := w) (base := base) F0 g0 m_isinstance m_int m_bool 
  have D_P_is_within := ok_P_is_within (P := l.prog) (w := w) (base := base) F1 g1  D_P_is_whole
  have D_P_holds := ok_P_holds (P := l.prog) (w := w) (base := base) F3 g3  
  have D_P_things_in := ok_P_things_in (P := l.prog) (w := w) (base := base) F2 g2 m_range D_P_holds
  have D_P_check_bundle := ok_P_check_bundle (P := l.prog) (w := w) (base := base) F4 g4  D_P_is_within
  have D_P_check_so_many := ok_P_check_so_many (P := l.prog) (w := w) (base := base) F5 g5  D_P_is_within
  have D_P_check_amount := ok_P_check_amount (P := l.prog) (w := w) (base := base) F6 g6  D_P_is_within
  have FO_M_Bid_depth := ok_M_Bid_depth (P := l.prog) (w := w) (base := base) F27   O_Bid O_Only O_SoMany O_UpTo O_Several O_AnyOf O_OneOf O_Stock
  have hT_depth := fam_depth (P := l.prog) (w := w) (base := base) F27 F37 F8 g8 m_max O_Bid O_Only O_SoMany O_UpTo O_Several O_AnyOf O_OneOf O_Stock ⟨a27, n27, k27⟩ ⟨i27_Only, n27, k27⟩ ⟨i27_SoMany, n27, k27⟩ ⟨i27_UpTo, n27, k27⟩ ⟨i37_AnyOf, n37, k37⟩ ⟨i37_OneOf, n37, k37⟩ 5
  have D_P_depth_over := ok_P_depth_over (P := l.prog) (w := w) (base := base) 4 F8 g8 m_max O_Bid O_Only O_SoMany O_UpTo O_Several O_AnyOf O_OneOf O_Stock (fam_depth (P := l.prog) (w := w) (base := base) F27 F37 F8 g8 m_max O_Bid O_Only O_SoMany O_UpTo O_Several O_AnyOf O_OneOf O_Stock ⟨a27, n27, k27⟩ ⟨i27_Only, n27, k27⟩ ⟨i27_SoMany, n27, k27⟩ ⟨i27_UpTo, n27, k27⟩ ⟨i37_AnyOf, n37, k37⟩ ⟨i37_OneOf, n37, k37⟩ 4)
  have FO_M_Bid_tally := ok_M_Bid_tally (P := l.prog) (w := w) (base := base) F28   O_Bid O_Only O_SoMany O_UpTo O_Several O_AnyOf O_OneOf O_Stock
  have hT_tally := fam_tally (P := l.prog) (w := w) (base := base) F28 F38 F9 g9 m_sum O_Bid O_Only O_SoMany O_UpTo O_Several O_AnyOf O_OneOf O_Stock ⟨a28, n28, k28⟩ ⟨i28_Only, n28, k28⟩ ⟨i28_SoMany, n28, k28⟩ ⟨i28_UpTo, n28, k28⟩ ⟨i38_AnyOf, n38, k38⟩ ⟨i38_OneOf, n38, k38⟩ 5
  have D_P_tally_over := ok_P_tally_over (P := l.prog) (w := w) (base := base) 4 F9 g9 m_sum O_Bid O_Only O_SoMany O_UpTo O_Several O_AnyOf O_OneOf O_Stock (fam_tally (P := l.prog) (w := w) (base := base) F28 F38 F9 g9 m_sum O_Bid O_Only O_SoMany O_UpTo O_Several O_AnyOf O_OneOf O_Stock ⟨a28, n28, k28⟩ ⟨i28_Only, n28, k28⟩ ⟨i28_SoMany, n28, k28⟩ ⟨i28_UpTo, n28, k28⟩ ⟨i38_AnyOf, n38, k38⟩ ⟨i38_OneOf, n38, k38⟩ 4)
  have D_P_check_bids := ok_P_check_bids (P := l.prog) (w := w) (base := base) F7 g7 m_isinstance m_list D_P_depth_over D_P_tally_over O_Bid O_Only O_SoMany O_UpTo O_Several O_AnyOf O_OneOf O_Stock kit_Bid_Bid kit_Only_Bid kit_SoMany_Bid kit_UpTo_Bid kit_Several_Bid kit_AnyOf_Bid kit_OneOf_Bid kit_Stock_Bid
  have D_P_place_words := ok_P_place_words (P := l.prog) (w := w) (base := base) F10 g10  D_P_things_in
  have FO_M_Bid_words := ok_M_Bid_words (P := l.prog) (w := w) (base := base) F29   O_Bid O_Only O_SoMany O_UpTo O_Several O_AnyOf O_OneOf O_Stock
  have FO_M_Only_words := ok_M_Only_words (P := l.prog) (w := w) (base := base) F31  D_P_place_words O_Bid O_Only O_SoMany O_UpTo O_Several O_AnyOf O_OneOf O_Stock
  have FO_M_SoMany_words := ok_M_SoMany_words (P := l.prog) (w := w) (base := base) F33  D_P_place_words O_Bid O_Only O_SoMany O_UpTo O_Several O_AnyOf O_OneOf O_Stock
  have FO_M_UpTo_words := ok_M_UpTo_words (P := l.prog) (w := w) (base := base) F35  D_P_place_words O_Bid O_Only O_SoMany O_UpTo O_Several O_AnyOf O_OneOf O_Stock
  have hT_words := fam_words (P := l.prog) (w := w) (base := base) F29 F31 F33 F35 F39 F40 F11 g11 D_P_place_words O_Bid O_Only O_SoMany O_UpTo O_Several O_AnyOf O_OneOf O_Stock ⟨a29, n29, k29⟩ ⟨a31, n31, k31⟩ ⟨a33, n33, k33⟩ ⟨a35, n35, k35⟩ ⟨a39, n39, k39⟩ ⟨a40, n40, k40⟩ 5
  have D_P_list_words := ok_P_list_words (P := l.prog) (w := w) (base := base) 4 F11 g11 O_Bid O_Only O_SoMany O_UpTo O_Several O_AnyOf O_OneOf O_Stock (fam_words (P := l.prog) (w := w) (base := base) F29 F31 F33 F35 F39 F40 F11 g11 D_P_place_words O_Bid O_Only O_SoMany O_UpTo O_Several O_AnyOf O_OneOf O_Stock ⟨a29, n29, k29⟩ ⟨a31, n31, k31⟩ ⟨a33, n33, k33⟩ ⟨a35, n35, k35⟩ ⟨a39, n39, k39⟩ ⟨a40, n40, k40⟩ 4)
  have FO_M_Stock_names := ok_M_Stock_names (P := l.prog) (w := w) (base := base) F42 m_list  O_Bid O_Only O_SoMany O_UpTo O_Several O_AnyOf O_OneOf O_Stock
  have hT_names : ∀ C sp, T_names K c_Bid c_Only c_SoMany c_UpTo c_Several c_AnyOf c_OneOf c_Stock C sp → ∃ ps, MethD l.prog w K mg base 1 C "names" ps sp := by
    rintro C sp (⟨e1, e2⟩)
    · subst e2; rw [e1]; exact ⟨_, f42, _, (FO_M_Stock_names).mono (by decide), bnd1 F42 fun _ _ _ _ _ _ _ => rfl, ⟨a42, n42, k42⟩, O_Stock.cls⟩
  have D_P_shown_bid := ok_P_shown_bid (P := l.prog) (w := w) (base := base) F12 g12   O_Bid O_Only O_SoMany O_UpTo O_Several O_AnyOf O_OneOf O_Stock hT_words hT_names
  have D_P_is_name := ok_P_is_name (P := l.prog) (w := w) (base := base) F13 g13 m_all m_isinstance m_str m_len 
  have D_L_cell := ok_L_cell (P := l.prog) (w := w) (base := base) F14 g14 m_len 
  have D_L_word := ok_L_word (P := l.prog) (w := w) (base := base) F15 g15 m_range m_divmod 
  have D_L_names := ok_L_names (P := l.prog) (w := w) (base := base) F16 g16 m_range m_list m_reversed D_L_cell D_L_word
  have D_L_kinds := ok_L_kinds (P := l.prog) (w := w) (base := base) F17 g17 m_range m_len D_L_word D_L_cell
  have D_L_amount := ok_L_amount (P := l.prog) (w := w) (base := base) F18 g18  
  have D_L_leaf := ok_L_leaf (P := l.prog) (w := w) (base := base) F19 g19  D_L_amount
  have D_L_grouped := ok_L_grouped (P := l.prog) (w := w) (base := base) F20 g20 m_range m_len m_divmod 
  have FO_M_Several___init__ := fun c => ok_M_Several___init__ (P := l.prog) (w := w) (base := base) c F36 m_list D_P_check_bids O_Bid O_Only O_SoMany O_UpTo O_Several O_AnyOf O_OneOf O_Stock
  have FO_M_Only___init__ := ok_M_Only___init__ (P := l.prog) (w := w) (base := base) F30  D_P_check_bundle D_P_check_amount O_Bid O_Only O_SoMany O_UpTo O_Several O_AnyOf O_OneOf O_Stock
  have FO_M_SoMany___init__ := ok_M_SoMany___init__ (P := l.prog) (w := w) (base := base) F32  D_P_check_bundle D_P_check_so_many D_P_check_amount O_Bid O_Only O_SoMany O_UpTo O_Several O_AnyOf O_OneOf O_Stock
  have FO_M_UpTo___init__ := ok_M_UpTo___init__ (P := l.prog) (w := w) (base := base) F34  D_P_check_bundle D_P_check_so_many D_P_check_amount O_Bid O_Only O_SoMany O_UpTo O_Several O_AnyOf O_OneOf O_Stock
  have MK_Bid : Make0 K mg "Bid" c_Bid := ⟨mk_Bid, in_Bid, kp_Bid, O_Bid.at_⟩
  have MK_AnyOf : MakeD l.prog w K mg base 12 "AnyOf" c_AnyOf ["self", "bids"] (sp_M_Several___init__ K c_AnyOf c_Bid c_Only c_SoMany c_UpTo c_Several c_AnyOf c_OneOf c_Stock) := ⟨f36, _, FO_M_Several___init__ c_AnyOf, bnd2 F36 fun _ _ _ _ _ _ _ _ => rfl, ⟨mk_AnyOf, i36_AnyOf, n36, kp_AnyOf⟩, O_AnyOf.at_⟩
  have MK_OneOf : MakeD l.prog w K mg base 12 "OneOf" c_OneOf ["self", "bids"] (sp_M_Several___init__ K c_OneOf c_Bid c_Only c_SoMany c_UpTo c_Several c_AnyOf c_OneOf c_Stock) := ⟨f36, _, FO_M_Several___init__ c_OneOf, bnd2 F36 fun _ _ _ _ _ _ _ _ => rfl, ⟨mk_OneOf, i36_OneOf, n36, kp_OneOf⟩, O_OneOf.at_⟩
  have MK_Only : MakeD l.prog w K mg base 4 "Only" c_Only ["self", "bundle", "amount"] (sp_M_Only___init__ K c_Only) := ⟨f30, _, FO_M_Only___init__, bnd3 F30 fun _ _ _ _ _ _ _ _ _ => rfl, ⟨mk_Only, a30, n30, kp_Only⟩, O_Only.at_⟩
  have MK_SoMany : MakeD l.prog w K mg base 4 "SoMany" c_SoMany ["self", "kind", "least", "amount"] (sp_M_SoMany___init__ K c_SoMany) := ⟨f32, _, FO_M_SoMany___init__, bnd4 F32 fun _ _ _ _ _ _ _ _ _ _ => rfl, ⟨mk_SoMany, a32, n32, kp_SoMany⟩, O_SoMany.at_⟩
  have MK_UpTo : MakeD l.prog w K mg base 4 "UpTo" c_UpTo ["self", "kind", "most", "each"] (sp_M_UpTo___init__ K c_UpTo) := ⟨f34, _, FO_M_UpTo___init__, bnd4 F34 fun _ _ _ _ _ _ _ _ _ _ => rfl, ⟨mk_UpTo, a34, n34, kp_UpTo⟩, O_UpTo.at_⟩
  have D_L_made := fam_L_made (P := l.prog) (w := w) (base := base) F21 g21 O_Bid O_Only O_SoMany O_UpTo O_Several O_AnyOf O_OneOf O_Stock MK_Bid MK_AnyOf MK_OneOf MK_Only MK_SoMany MK_UpTo 4
  have D_L_place := ok_L_place (P := l.prog) (w := w) (base := base) F22 g22 m_range 
  have D_L_text := fam_L_text (P := l.prog) (w := w) (base := base) F23 g23 m_str D_L_place 4
  have D_L_form := ok_L_form (P := l.prog) (w := w) (base := base) F24 g24 m_range D_L_cell D_L_grouped D_L_leaf
  have D_L_good := ok_L_good (P := l.prog) (w := w) (base := base) F25 g25 m_list m_isinstance m_str D_P_shown_bid O_Bid O_Only O_SoMany O_UpTo O_Several O_AnyOf O_OneOf O_Stock hT_words
  have FO_M_Stock___init__ := ok_M_Stock___init__ (P := l.prog) (w := w) (base := base) F41 m_enumerate m_len D_P_is_name O_Bid O_Only O_SoMany O_UpTo O_Several O_AnyOf O_OneOf O_Stock
  have MK_Stock : MakeD l.prog w K mg base 4 "Stock" c_Stock ["self", "rows"] (sp_M_Stock___init__ K c_Stock) := ⟨f41, _, FO_M_Stock___init__, bnd2 F41 fun _ _ _ _ _ _ _ _ => rfl, ⟨mk_Stock, a41, n41, kp_Stock⟩, O_Stock.at_⟩
  exact ok_law (P := l.prog) (w := w) (base := base) F26 g26 m_zip m_len D_L_names D_L_form D_L_made D_L_text D_L_good D_L_cell D_P_shown_bid D_L_kinds O_Bid O_Only O_SoMany O_UpTo O_Several O_AnyOf O_OneOf O_Stock MK_Stock MK_UpTo hT_words
theorem walk {l : PySem.W.OpenLaw} {q : Program} {loose : List Str} {XP : (Str → Option Value) → Heap → Prop} {YP : World → Heap → Prop} {d : DefRec} {K : Params → PySem.W.Frag} (hn : l.most = some 63) (hdf : d.params.defaults = [])
    (hY : ∀ (w : World) (h : Heap), YP w h → (K w.params).In h)
    (F : ∀ (w : World) (mg : Str → Option Value) (fa : Addr) (h : Heap), (K w.params).In h → h.Ns mainGlobals mg → mg d.name = some (.ref fa) →
      ∃ fd : FuncData, (∀ (s : Shared) (u : Value), BindsTo s fd ⟨[u], []⟩ [("_law_script", u)]) ∧ ∀ base : Heap, (K w.params).In base → base.Ns mainGlobals mg → FnOk l.prog w (K w.params) mg base CX0 19 fa fd ["_law_script"] (sp_law (K w.params))) :
    PySem.W.WalkO q loose XP YP l.row.toRowW d [] (fun f vs => PySem.call f vs) :=
  L2.walk_of (n := 63) (k := 19) (x := "_law_script") (CX := fun _ => CX0) (sp := fun w => sp_law (K w.params)) hn (by decide) hdf ⟨rfl, by decide, by decide, rfl⟩ hY F (fun _ _ a ns hl _ hS => ⟨a, ns, rfl, hS, hl, fun _ => rfl⟩) fun _ _ _ _ _ z => z
theorem walkX_of {q : Program} {loose : List Str} {XP : (Str → Option Value) → Heap → Prop} {K : Params → PySem.W.Frag} {as : List Addr} {n t : Nat} {r : PySem.W.RowW} {d : DefRec} {kwd : List (Str × Expr)} {run : Value → List Value → Sem Value} (e : ∀ P, as = (K P).map (·.1))
    (h : PySem.W.WalkO q loose XP (PySem.W.InK K) r d kwd run) : PySem.W.WalkX q loose XP (PySem.W.X.obsZ as) (PySem.W.X.valZ K n t) r d kwd run :=
  fun w s₀ s₁ mg mb G y a o pm cd doc dV kV h1 h2 h3 h4 h5 h6 args vals as' L hp hl hr hw hlo => h w s₀ s₁ mg mb G (PySem.W.InK.keeps w _ _ (PySem.W.X.z_facts e y).2.1 L.keeps) a o pm cd doc dV kV h1 h2 h3 h4 h5 h6 args vals as' hp hl hr hw hlo
end My
noncomputable def PySem.W.Fast.tw12254019910664928846 : Nat := 0
noncomputable def PySem.W.Fast.tw13316260529051925390 : Nat := 0
noncomputable def PySem.W.Fast.tw17242135736966813035 : Nat := 0
noncomputable def PySem.W.Fast.tw2206549281356474129 : Nat := 0
noncomputable def PySem.W.Fast.tw10429012280610373886 : Nat := 0
noncomputable def PySem.W.Fast.tw5892806070090960719 : Nat := 0
noncomputable def PySem.W.Fast.tw15926009181857680819 : Nat := 0
noncomputable def PySem.W.Fast.tw1278222806667046433 : Nat := 0
noncomputable def PySem.W.Fast.tw6973638938261009937 : Nat := 0
noncomputable def PySem.W.Fast.tw4310718067232321361 : Nat := 0
noncomputable def PySem.W.Fast.tw17651461091506697871 : Nat := 0
noncomputable def PySem.W.Fast.tw4153245631900206393 : Nat := 0
noncomputable def PySem.W.Fast.tw8435096375944422110 : Nat := 0
noncomputable def PySem.W.Fast.tw13854171377601256612 : Nat := 0
noncomputable def PySem.W.Fast.tw11014007966746802953 : Nat := 0
noncomputable def PySem.W.Fast.tw11547947397972314198 : Nat := 0
noncomputable def PySem.W.Fast.tw1741552119448961687 : Nat := 0
open PySem PySem.W PyProof.Rows
set_option maxRecDepth 100000 in
set_option maxHeartbeats 0 in
theorem PySem.Challenge.cw_gavelhall_k33_words_told_holds : PySem.Challenge.rw_gavelhall_k33_words_told.Holds := by
  w_on; o_law; z_head; (case hw => w_witness2)
  k_fill
  refine My.walkX_of (fun _ => by kernel_rfl) (My.walk (l := PySem.Challenge.rw_gavelhall_k33_words_told) rfl rfl (fun w h Y => Y) ?F)
  case F =>
    intro w mg fa h KX G hmg
    refine' My.all_mk KX G hmg ?b_Bid ?pg_Bid ?hd_Bid ?po_Bid ?sa_Bid ?mk_Bid ?kp_Bid ?t1_Bid ?t2_Bid ?t3_Bid ?t4_Bid ?in_Bid ?b_Only ?pg_Only ?hd_Only ?po_Only ?sa_Only ?mk_Only ?kp_Only ?no_Only_bundle ?no_Only_amount ?t1_Only ?t2_Only ?t3_Only ?t4_Only ?b_SoMany ?pg_SoMany ?hd_SoMany ?po_SoMany ?sa_SoMany ?mk_SoMany ?kp_SoMany ?no_SoMany_kind ?no_SoMany_least ?no_SoMany_amount ?t1_SoMany ?t2_SoMany ?t3_SoMany ?t4_SoMany ?b_UpTo ?pg_UpTo ?hd_UpTo ?po_UpTo ?sa_UpTo ?mk_UpTo ?kp_UpTo ?no_UpTo_kind ?no_UpTo_most ?no_UpTo_each ?t1_UpTo ?t2_UpTo ?t3_UpTo ?t4_UpTo ?b_Several ?pg_Several ?hd_Several ?po_Several ?sa_Several ?mk_Several ?kp_Several ?no_Several_bids ?t1_Several ?t2_Several ?t3_Several ?t4_Several ?b_AnyOf ?pg_AnyOf ?hd_AnyOf ?po_AnyOf ?sa_AnyOf ?mk_AnyOf ?kp_AnyOf ?no_AnyOf_bids ?t1_AnyOf ?t2_AnyOf ?t3_AnyOf ?t4_AnyOf ?b_OneOf ?pg_OneOf ?hd_OneOf ?po_OneOf ?sa_OneOf ?mk_OneOf ?kp_OneOf ?no_OneOf_bids ?t1_OneOf ?t2_OneOf ?t3_OneOf ?t4_OneOf ?b_Stock ?pg_Stock ?hd_Stock ?po_Stock ?sa_Stock ?mk_Stock ?kp_Stock ?no_Stock_numbers ?no_Stock_kinds ?t1_Stock ?t2_Stock ?t3_Stock ?t4_Stock ?kit_Bid_Bid ?kit_Only_Bid ?kit_SoMany_Bid ?kit_UpTo_Bid ?kit_Several_Bid ?kit_AnyOf_Bid ?kit_OneOf_Bid ?kit_Stock_Bid ?a0 ?l0 ?c0 ?k0 ?a1 ?l1 ?c1 ?k1 ?a2 ?l2 ?c2 ?k2 ?a3 ?l3 ?c3 ?k3 ?a4 ?l4 ?c4 ?k4 ?a5 ?l5 ?c5 ?k5 ?a6 ?l6 ?c6 ?k6 ?a7 ?l7 ?c7 ?k7 ?a8 ?l8 ?c8 ?k8 ?a9 ?l9 ?c9 ?k9 ?a10 ?l10 ?c10 ?k10 ?a11 ?l11 ?c11 ?k11 ?a12 ?l12 ?c12 ?k12 ?a13 ?l13 ?c13 ?k13 ?a14 ?l14 ?c14 ?k14 ?a15 ?l15 ?c15 ?k15 ?a16 ?l16 ?c16 ?k16 ?a17 ?l17 ?c17 ?k17 ?a18 ?l18 ?c18 ?k18 ?a19 ?l19 ?c19 ?k19 ?a20 ?l20 ?c20 ?k20 ?a21 ?l21 ?c21 ?k21 ?a22 ?l22 ?c22 ?k22 ?a23 ?l23 ?c23 ?k23 ?a24 ?l24 ?c24 ?k24 ?a25 ?l25 ?c25 ?k25 ?a26 ?l26 ?c26 ?k26 ?a27 ?l27 ?c27 ?k27 ?n27 ?i27_Only ?i27_SoMany ?i27_UpTo ?a28 ?l28 ?c28 ?k28 ?n28 ?i28_Only ?i28_SoMany ?i28_UpTo ?a29 ?l29 ?c29 ?k29 ?n29 ?i29_Several ?a30 ?l30 ?c30 ?k30 ?n30 ?a31 ?l31 ?c31 ?k31 ?n31 ?a32 ?l32 ?c32 ?k32 ?n32 ?a33 ?l33 ?c33 ?k33 ?n33 ?a34 ?l34 ?c34 ?k34 ?n34 ?a35 ?l35 ?c35 ?k35 ?n35 ?a36 ?l36 ?c36 ?k36 ?n36 ?i36_AnyOf ?i36_OneOf ?a37 ?l37 ?c37 ?k37 ?n37 ?i37_AnyOf ?i37_OneOf ?a38 ?l38 ?c38 ?k38 ?n38 ?i38_AnyOf ?i38_OneOf ?a39 ?l39 ?c39 ?k39 ?n39 ?a40 ?l40 ?c40 ?k40 ?n40 ?a41 ?l41 ?c41 ?k41 ?n41 ?a42 ?l42 ?c42 ?k42 ?n42 ?z_isinstance ?z_int ?z_bool ?z_range ?z_list ?z_max ?z_sum ?z_all ?z_str ?z_len ?z_divmod ?z_reversed ?z_zip ?z_enumerate
    (case b_Bid => k_is)
    (case pg_Bid => k_is)
    (case hd_Bid => k_is)
    (case po_Bid => k_is)
    (case sa_Bid => k_is)
    (case mk_Bid => k_is)
    (case kp_Bid => k_is)
    (case t1_Bid => k_is)
    (case t2_Bid => k_is)
    (case t3_Bid => k_is)
    (case t4_Bid => k_is)
    (case in_Bid => k_is)
    (case b_Only => k_is)
    (case pg_Only => k_is)
    (case hd_Only => k_is)
    (case po_Only => k_is)
    (case sa_Only => k_is)
    (case mk_Only => k_is)
    (case kp_Only => k_is)
    (case no_Only_bundle => k_is)
    (case no_Only_amount => k_is)
    (case t1_Only => k_is)
    (case t2_Only => k_is)
    (case t3_Only => k_is)
    (case t4_Only => k_is)
    (case b_SoMany => k_is)
    (case pg_SoMany => k_is)
    (case hd_SoMany => k_is)
    (case po_SoMany => k_is)
    (case sa_SoMany => k_is)
    (case mk_SoMany => k_is)
    (case kp_SoMany => k_is)
    (case no_SoMany_kind => k_is)
    (case no_SoMany_least => k_is)
    (case no_SoMany_amount => k_is)
    (case t1_SoMany => k_is)
    (case t2_SoMany => k_is)
    (case t3_SoMany => k_is)
    (case t4_SoMany => k_is)
    (case b_UpTo => k_is)
    (case pg_UpTo => k_is)
    (case hd_UpTo => k_is)
    (case po_UpTo => k_is)
    (case sa_UpTo => k_is)
    (case mk_UpTo => k_is)
    (case kp_UpTo => k_is)
    (case no_UpTo_kind => k_is)
    (case no_UpTo_most => k_is)
    (case no_UpTo_each => k_is)
    (case t1_UpTo => k_is)
    (case t2_UpTo => k_is)
    (case t3_UpTo => k_is)
    (case t4_UpTo => k_is)
    (case b_Several => k_is)
    (case pg_Several => k_is)
    (case hd_Several => k_is)
    (case po_Several => k_is)
    (case sa_Several => k_is)
    (case mk_Several => k_is)
    (case kp_Several => k_is)
    (case no_Several_bids => k_is)
    (case t1_Several => k_is)
    (case t2_Several => k_is)
    (case t3_Several => k_is)
    (case t4_Several => k_is)
    (case b_AnyOf => k_is)
    (case pg_AnyOf => k_is)
    (case hd_AnyOf => k_is)
    (case po_AnyOf => k_is)
    (case sa_AnyOf => k_is)
    (case mk_AnyOf => k_is)
    (case kp_AnyOf => k_is)
    (case no_AnyOf_bids => k_is)
    (case t1_AnyOf => k_is)
    (case t2_AnyOf => k_is)
    (case t3_AnyOf => k_is)
    (case t4_AnyOf => k_is)
    (case b_OneOf => k_is)
    (case pg_OneOf => k_is)
    (case hd_OneOf => k_is)
    (case po_OneOf => k_is)
    (case sa_OneOf => k_is)
    (case mk_OneOf => k_is)
    (case kp_OneOf => k_is)
    (case no_OneOf_bids => k_is)
    (case t1_OneOf => k_is)
    (case t2_OneOf => k_is)
    (case t3_OneOf => k_is)
    (case t4_OneOf => k_is)
    (case b_Stock => k_is)
    (case pg_Stock => k_is)
    (case hd_Stock => k_is)
    (case po_Stock => k_is)
    (case sa_Stock => k_is)
    (case mk_Stock => k_is)
    (case kp_Stock => k_is)
    (case no_Stock_numbers => k_is)
    (case no_Stock_kinds => k_is)
    (case t1_Stock => k_is)
    (case t2_Stock => k_is)
    (case t3_Stock => k_is)
    (case t4_Stock => k_is)
    (case kit_Bid_Bid => kit_is)
    (case kit_Only_Bid => kit_is)
    (case kit_SoMany_Bid => kit_is)
    (case kit_UpTo_Bid => kit_is)
    (case kit_Several_Bid => kit_is)
    (case kit_AnyOf_Bid => kit_is)
    (case kit_OneOf_Bid => kit_is)
    (case kit_Stock_Bid => kit_is)
    (case a0 => k_is)
    (case l0 => k_is)
    (case c0 => k_is)
    (case k0 => k_is)
    (case a1 => k_is)
    (case l1 => k_is)
    (case c1 => k_is)
    (case k1 => k_is)
    (case a2 => k_is)
    (case l2 => k_is)
    (case c2 => k_is)
    (case k2 => k_is)
    (case a3 => k_is)
    (case l3 => k_is)
    (case c3 => k_is)
    (case k3 => k_is)
    (case a4 => k_is)
    (case l4 => k_is)
    (case c4 => k_is)
    (case k4 => k_is)
    (case a5 => k_is)
    (case l5 => k_is)
    (case c5 => k_is)
    (case k5 => k_is)
    (case a6 => k_is)
    (case l6 => k_is)
    (case c6 => k_is)
    (case k6 => k_is)
    (case a7 => k_is)
    (case l7 => k_is)
    (case c7 => k_is)
    (case k7 => k_is)
    (case a8 => k_is)
    (case l8 => k_is)
    (case c8 => k_is)
    (case k8 => k_is)
    (case a9 => k_is)
    (case l9 => k_is)
    (case c9 => k_is)
    (case k9 => k_is)
    (case a10 => k_is)
    (case l10 => k_is)
    (case c10 => k_is)
    (case k10 => k_is)
    (case a11 => k_is)
    (case l11 => k_is)
    (case c11 => k_is)
    (case k11 => k_is)
    (case a12 => k_is)
    (case l12 => k_is)
    (case c12 => k_is)
    (case k12 => k_is)
    (case a13 => k_is)
    (case l13 => k_is)
    (case c13 => k_is)
    (case k13 => k_is)
    (case a14 => k_is)
    (case l14 => k_is)
    (case c14 => k_is)
    (case k14 => k_is)
    (case a15 => k_is)
    (case l15 => k_is)
    (case c15 => k_is)
    (case k15 => k_is)
    (case a16 => k_is)
    (case l16 => k_is)
    (case c16 => k_is)
    (case k16 => k_is)
    (case a17 => k_is)
    (case l17 => k_is)
    (case c17 => k_is)
    (case k17 => k_is)
    (case a18 => k_is)
    (case l18 => k_is)
    (case c18 => k_is)
    (case k18 => k_is)
    (case a19 => k_is)
    (case l19 => k_is)
    (case c19 => k_is)
    (case k19 => k_is)
    (case a20 => k_is)
    (case l20 => k_is)
    (case c20 => k_is)
    (case k20 => k_is)
    (case a21 => k_is)
    (case l21 => k_is)
    (case c21 => k_is)
    (case k21 => k_is)
    (case a22 => k_is)
    (case l22 => k_is)
    (case c22 => k_is)
    (case k22 => k_is)
    (case a23 => k_is)
    (case l23 => k_is)
    (case c23 => k_is)
    (case k23 => k_is)
    (case a24 => k_is)
    (case l24 => k_is)
    (case c24 => k_is)
    (case k24 => k_is)
    (case a25 => k_is)
    (case l25 => k_is)
    (case c25 => k_is)
    (case k25 => k_is)
    (case a26 => k_is)
    (case l26 => k_is)
    (case c26 => k_is)
    (case k26 => k_is)
    (case a27 => k_is)
    (case l27 => k_is)
    (case c27 => k_is)
    (case k27 => k_is)
    (case n27 => k_is)
    (case i27_Only => k_is)
    (case i27_SoMany => k_is)
    (case i27_UpTo => k_is)
    (case a28 => k_is)
    (case l28 => k_is)
    (case c28 => k_is)
    (case k28 => k_is)
    (case n28 => k_is)
    (case i28_Only => k_is)
    (case i28_SoMany => k_is)
    (case i28_UpTo => k_is)
    (case a29 => k_is)
    (case l29 => k_is)
    (case c29 => k_is)
    (case k29 => k_is)
    (case n29 => k_is)
    (case i29_Several => k_is)
    (case a30 => k_is)
    (case l30 => k_is)
    (case c30 => k_is)
    (case k30 => k_is)
    (case n30 => k_is)
    (case a31 => k_is)
    (case l31 => k_is)
    (case c31 => k_is)
    (case k31 => k_is)
    (case n31 => k_is)
    (case a32 => k_is)
    (case l32 => k_is)
    (case c32 => k_is)
    (case k32 => k_is)
    (case n32 => k_is)
    (case a33 => k_is)
    (case l33 => k_is)
    (case c33 => k_is)
    (case k33 => k_is)
    (case n33 => k_is)
    (case a34 => k_is)
    (case l34 => k_is)
    (case c34 => k_is)
    (case k34 => k_is)
    (case n34 => k_is)
    (case a35 => k_is)
    (case l35 => k_is)
    (case c35 => k_is)
    (case k35 => k_is)
    (case n35 => k_is)
    (case a36 => k_is)
    (case l36 => k_is)
    (case c36 => k_is)
    (case k36 => k_is)
    (case n36 => k_is)
    (case i36_AnyOf => k_is)
    (case i36_OneOf => k_is)
    (case a37 => k_is)
    (case l37 => k_is)
    (case c37 => k_is)
    (case k37 => k_is)
    (case n37 => k_is)
    (case i37_AnyOf => k_is)
    (case i37_OneOf => k_is)
    (case a38 => k_is)
    (case l38 => k_is)
    (case c38 => k_is)
    (case k38 => k_is)
    (case n38 => k_is)
    (case i38_AnyOf => k_is)
    (case i38_OneOf => k_is)
    (case a39 => k_is)
    (case l39 => k_is)
    (case c39 => k_is)
    (case k39 => k_is)
    (case n39 => k_is)
    (case a40 => k_is)
    (case l40 => k_is)
    (case c40 => k_is)
    (case k40 => k_is)
    (case n40 => k_is)
    (case a41 => k_is)
    (case l41 => k_is)
    (case c41 => k_is)
    (case k41 => k_is)
    (case n41 => k_is)
    (case a42 => k_is)
    (case l42 => k_is)
    (case c42 => k_is)
    (case k42 => k_is)
    (case n42 => k_is)
    (case z_isinstance => k_is)
    (case z_int => k_is)
    (case z_bool => k_is)
    (case z_range => k_is)
    (case z_list => k_is)
    (case z_max => k_is)
    (case z_sum => k_is)
    (case z_all => k_is)
    (case z_str => k_is)
    (case z_len => k_is)
    (case z_divmod => k_is)
    (case z_reversed => k_is)
    (case z_zip => k_is)
    (case z_enumerate => k_is)


