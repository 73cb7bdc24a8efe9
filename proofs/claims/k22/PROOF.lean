import PyProof.Rows.All
import Wide.All
import OpenK.AllK
import Wide.FinOn
import Lean
import PyProof.EqAt
import PyProof.EqKinds
import PyProof.TupleCall
import PyProof.ZipIter
import PyProof.LayNew
import PyProof.Rows.ZipGen
import PyProof.Rows.FactsT2
import KE.KMinKey
import PySem.Challenge.RW_gavelhall_k22_bids_refused
set_option genSizeOf false
set_option Elab.async false
set_option linter.all false
set_option maxRecDepth 100000
/-! THE HAND LAYER, for ints, bools, texts, own classes, LISTS and tuples (index, slices, in, append, pop ..), calls, loops. Paste it whole ahead of your own text; what your proof does not reach may be deleted. -/
namespace L2
open PySem PySem.Spec PyProof.Rows

/-- a key: an int or a str -/
noncomputable abbrev Key := Sum Int Str
noncomputable def keyIs : Key → Value → Bool
  | .inl k, v => Value.isInt k v
  | .inr x, v => Value.isStrOf x v
noncomputable def keyH (w : World) : Key → Int
  | .inl k => hashInt k
  | .inr x => hashStr w x
theorem keyIs_shape : ∀ {k : Key} {v : Value}, keyIs k v = true → (∃ i t, k = Sum.inl i ∧ v = Value.int i t) ∨ (∃ x t, k = Sum.inr x ∧ v = Value.str x t)
  | .inl i, v, h => by
    obtain ⟨t, e⟩ := Value.isInt_shape (k := i) (v := v) h
    exact .inl ⟨i, t, rfl, e⟩
  | .inr x, v, h => by
    obtain ⟨t, e⟩ := Value.isStrOf_shape (x := x) (v := v) h
    exact .inr ⟨x, t, rfl, e⟩
theorem key_ll (a b : Int) : decide ((Sum.inl a : Key) = Sum.inl b) = (a == b) := by
  by_cases e : a = b
  · subst e; simp
  · have h : ¬ (Sum.inl a : Key) = Sum.inl b := fun q => e (Sum.inl.inj q)
    rw [decide_eq_false h]
    exact (beq_eq_false_iff_ne.mpr e).symm
theorem key_rr (a b : Str) : decide ((Sum.inr a : Key) = Sum.inr b) = decide (a = b) := by
  by_cases e : a = b
  · subst e; simp
  · have h : ¬ (Sum.inr a : Key) = Sum.inr b := fun q => e (Sum.inr.inj q)
    rw [decide_eq_false h, decide_eq_false e]
theorem key_lr (a : Int) (b : Str) : decide ((Sum.inl a : Key) = Sum.inr b) = false := decide_eq_false (fun q => nomatch q)
theorem key_rl (a : Str) (b : Int) : decide ((Sum.inr a : Key) = Sum.inl b) = false := decide_eq_false (fun q => nomatch q)

noncomputable def mixKind (prog : Program) (w : World) : PySem.KeyKind prog w Key where
  is := keyIs
  hash := keyH w
  inj := fun v a b ha hb => by
    rcases keyIs_shape ha with ⟨i, t, rfl, rfl⟩ | ⟨x, t, rfl, rfl⟩
    · rcases keyIs_shape hb with ⟨j, u, rfl, e⟩ | ⟨y, u, rfl, e⟩
      · injection e with e1 _; rw [e1]
      · exact nomatch e
    · rcases keyIs_shape hb with ⟨j, u, rfl, e⟩ | ⟨y, u, rfl, e⟩
      · exact nomatch e
      · injection e with e1 _; rw [e1]
  byValue := fun k v h => by
    rcases keyIs_shape h with ⟨i, t, rfl, rfl⟩ | ⟨x, t, rfl, rfl⟩ <;> rfl
  pyHash := fun hv h => by
    rcases keyIs_shape hv with ⟨i, t, rfl, rfl⟩ | ⟨x, t, rfl, rfl⟩
    · exact wpAny_pyHash_int h
    · exact wpAny_pyHash_str h
  eqBool := fun hu hv h => by
    rcases keyIs_shape hu with ⟨i, t, rfl, rfl⟩ | ⟨x, t, rfl, rfl⟩
    · rcases keyIs_shape hv with ⟨j, u, rfl, rfl⟩ | ⟨y, u, rfl, rfl⟩
      · rw [key_ll] at h; exact wpAny_eqBool_int h
      · rw [key_lr] at h; exact SeqAt.EqAt.int_str i t y u _ _ _ _ h
    · rcases keyIs_shape hv with ⟨j, u, rfl, rfl⟩ | ⟨y, u, rfl, rfl⟩
      · rw [key_rl] at h; exact SeqAt.EqAt.str_int x t j u _ _ _ _ h
      · rw [key_rr] at h; exact wpAny_eqBool_str h
  «strs» := fun k x t v h => by
    rcases keyIs_shape h with ⟨i, u, rfl, e⟩ | ⟨y, u, rfl, e⟩
    · exact nomatch e
    · injection e with e1 _
      subst e1
      cases v <;> rfl

end L2

namespace L2
open PySem PySem.Spec PyProof.Rows

/-- a value, without the heap -/
inductive V where
  | non | bl (b : Bool) | int (i : Int) | str (x : Str) | byt (b : Array UInt8) | flt (b : UInt64) | ref (a : Addr) | ty (n : String)
  deriving DecidableEq

noncomputable def RelV : V → Value → Prop
  | .non, u => u = Value.none
  | .bl b, u => u = Value.bool b
  | .int i, u => ∃ t, u = Value.int i t
  | .str x, u => ∃ t, u = Value.str x t
  | .byt b, u => ∃ t, u = Value.bytes b t
  | .flt b, u => ∃ t, u = Value.float b t
  | .ref a, u => u = Value.ref a
  | .ty n, u => u = Value.type n

noncomputable abbrev Vals : List V → List Value → Prop := Paired RelV
theorem Vals.length {xs : List V} {us : List Value} (r : Vals xs us) : xs.length = us.length := Paired.length r
theorem Vals.get : ∀ {xs : List V} {us : List Value} {i : Nat} {x : V}, Vals xs us → xs[i]? = some x → ∃ u, us[i]? = some u ∧ RelV x u
  | _, _, _, _, .nil, e => by simp at e
  | _, _, 0, _, .cons r _, e => by simp at e; subst e; exact ⟨_, rfl, r⟩
  | _, _, i + 1, x, .cons _ t, e => by
    obtain ⟨u, h1, h2⟩ := Vals.get (i := i) (x := x) t (by simpa using e)
    exact ⟨u, by simpa using h1, h2⟩
theorem Vals.set {x : V} {u : Value} (r : RelV x u) : ∀ {xs : List V} {us : List Value} (i : Nat), Vals xs us → Vals (xs.set i x) (us.set i u)
  | _, _, _, .nil => .nil
  | _, _, 0, .cons _ t => .cons r t
  | _, _, i + 1, .cons q t => .cons q (Vals.set r i t)
theorem Vals.append : ∀ {xs ys : List V} {us ws : List Value}, Vals xs us → Vals ys ws → Vals (xs ++ ys) (us ++ ws)
  | _, _, _, _, .nil, s => s
  | _, _, _, _, .cons r t, s => .cons r (Vals.append t s)
theorem Vals.take : ∀ {xs : List V} {us : List Value} (n : Nat), Vals xs us → Vals (xs.take n) (us.take n)
  | _, _, 0, _ => .nil
  | _, _, _ + 1, .nil => .nil
  | _, _, n + 1, .cons r t => .cons r (Vals.take n t)
theorem Vals.drop : ∀ {xs : List V} {us : List Value} (n : Nat), Vals xs us → Vals (xs.drop n) (us.drop n)
  | _, _, 0, r => r
  | _, _, _ + 1, .nil => .nil
  | _, _, n + 1, .cons _ t => Vals.drop n t

noncomputable def RelO : Option V → Option Value → Prop
  | some v, some u => RelV v u
  | none, none => True
  | _, _ => False
noncomputable def KV {κ : Type} : List (κ × V) → List (κ × Value) → Prop := Paired fun (p : κ × V) (q : κ × Value) => p.1 = q.1 ∧ RelV p.2 q.2

/-- a key of a dict (00_mix): an int or a text -/
noncomputable def kV : Key → V
  | .inl i => .int i
  | .inr x => .str x

/-- what stands at a tracked address -/
inductive HO where
  /-- a list -/
  | lst (xs : List V)
  /-- a tuple (never changes) -/
  | tup (xs : List V)
  /-- a dict whose keys are ints and texts; one whose keys are tuples of ints and texts (the empty one is both) -/
  | dK (kvs : List (Key × V)) | dT (kvs : List (List Key × V))
  /-- a set of ints: its members, its size -/
  | set (S : Int → Bool) (n : Nat)
  /-- an instance of the class at C, its dict at dx, its attributes -/
  | ins (C dx : Addr) (fs : List (Str × V))
  /-- the dict of the instance at x -/
  | own (x : Addr)
  /-- the dict of an exception -/
  | xd (fs : List (Str × V))
  /-- a bound method, f of x -/
  | met (f x : Addr)
  /-- a range object lo, lo + 1, .. below hi -/
  | rng (lo hi : Int)
  /-- a thing that is known to the object (the script; a dict while a loop walks it): read, never written while it is so -/
  | frz (o : Obj) (u : HO)
  /-- a code object's table -/
  | tbl (ps : Array Value)
  /-- any other thing, by what is true of its one object (a def of one's own: SetO a S n := HO.ext fun h => ..) -/
  | ext (φ : Heap → Prop)

noncomputable abbrev Hp := Addr → Option HO
noncomputable def upd (H : Hp) (a : Addr) (o : HO) : Hp := fun b => if b = a then some o else H b
theorem upd_same {H : Hp} {a : Addr} {o : HO} : upd H a o a = some o := by unfold upd; rw [if_pos rfl]
theorem upd_ne {H : Hp} {a b : Addr} {o : HO} (h : b ≠ a) : upd H a o b = H b := by unfold upd; rw [if_neg h]
theorem upd_upd {H : Hp} {a : Addr} {o u : HO} : upd (upd H a o) a u = upd H a u := by
  funext b; unfold upd; split <;> rfl
theorem ne_of_none {H : Hp} {a b : Addr} {o : HO} (h : H a = some o) (h' : H b = none) : a ≠ b := by
  intro e; subst e; rw [h] at h'; cases h'

section
variable (P : Program) (w : World)
noncomputable def ObjOk (H : Hp) (h : Heap) (a : Addr) : HO → Prop
  | .lst xs => xs.length ≤ sizeLine ∧ ∃ (its : List Value) (n : Nat), Vals xs its ∧ h.get? a = some { cls := .type "list", data := .seq its.toArray n }
  | .tup xs => xs.length ≤ sizeLine ∧ ∃ its : List Value, Vals xs its ∧ IsTup h a its.toArray
  | .dK kvs => kvs.length ≤ sizeLine ∧ (a == sysModules) = false ∧ ∃ vs, KV kvs vs ∧ h.DictOf (mixKind P w) a vs
  | .dT kvs => kvs.length ≤ sizeLine ∧ (a == sysModules) = false ∧ ∃ xs : List (List Key × Addr × Value),
      Paired (fun (p : List Key × V) (q : List Key × Addr × Value) => p.1 = q.1 ∧ H q.2.1 = some (.tup (p.1.map kV)) ∧ RelV p.2 q.2.2) kvs xs ∧
      ∃ o es ep, h.get? a = some o ∧ o.ExactDict ∧ o.data = .dict es ep ∧ es.toList = xs.map (entryOfKey (tupleKind (mixKind P w))) ∧ (xs.map (·.1)).Nodup
  | .set S n => h.SetOf (intKind P w) a S n
  | .ins C dx fs => H dx = some (.own a) ∧ fs.length ≤ 1000 ∧ dx ≠ a ∧ h.get? a = some (PySem.W.instObj C dx) ∧
      ∃ mA, h.Ns1 dx mA ∧ (∀ f, RelO (fs.lookup f) (mA f)) ∧ PySem.Within mA (fs.map (·.1))
  | .own _ => ∃ o, h.get? a = some o
  | .xd fs => ∃ mA, h.Ns1 a mA ∧ ∀ f, RelO (fs.lookup f) (mA f)
  | .rng lo hi => ∃ t u v, h.get? a = some { cls := .type "range", data := .fields #[.int lo t, .int hi u, .int 1 v] }
  | .frz o u => h.get? a = some o ∧ ObjOk H h a u
  | .tbl ps => h.get? a = some { cls := .none, data := .fields ps }
  | .met f x => h.get? a = some (PySem.W.methodObj (.ref f) (.ref x))
  | .ext φ => φ h ∧ (∃ o, h.get? a = some o) ∧ ∀ h1 h2 : Heap, φ h1 → (∀ o, h1.get? a = some o → h2.get? a = some o) → φ h2
/-- the abstract heap is held -/
noncomputable def HOk (H : Hp) (h : Heap) : Prop := ∀ a o, H a = some o → ObjOk P w H h a o
end

section
variable {P : Program} {w : World} {H H' : Hp} {h h' : Heap} {a : Addr} {o : HO}
theorem ObjOk.lt (x : ObjOk P w H h a o) : a < h.objs.size := by
  cases o with
  | lst xs => obtain ⟨_, _, _, _, e⟩ := x; exact Heap.lt_size e
  | tup xs => obtain ⟨_, _, _, p⟩ := x; exact p.lt
  | dK kvs => obtain ⟨_, _, _, _, o, _, _, e, _⟩ := x; exact Heap.lt_size e
  | dT kvs => obtain ⟨_, _, _, _, o, _, _, e, _⟩ := x; exact Heap.lt_size e
  | set S n => obtain ⟨o, _, _, _, e, _⟩ := x; exact Heap.lt_size e
  | ins C dx fs => obtain ⟨_, _, _, e, _⟩ := x; exact Heap.lt_size e
  | own y => obtain ⟨_, e⟩ := x; exact Heap.lt_size e
  | xd fs => obtain ⟨_, ⟨_, _, _, e, _⟩, _⟩ := x; exact Heap.lt_size e
  | rng lo hi => obtain ⟨_, _, _, e⟩ := x; exact Heap.lt_size e
  | frz ob u => obtain ⟨e, _⟩ := x; exact Heap.lt_size e
  | tbl ps => exact Heap.lt_size (show h.get? a = some _ from x)
  | met f y => exact Heap.lt_size (show h.get? a = some _ from x)
  | ext φ => obtain ⟨_, ⟨_, e⟩, _⟩ := x; exact Heap.lt_size e
theorem Paired.mapP {α β : Type} {F G : α → β → Prop} : ∀ {l₁ : List α} {l₂ : List β}, Paired F l₁ l₂ → (∀ a b, F a b → G a b) → Paired G l₁ l₂
  | _, _, .nil, _ => .nil
  | _, _, .cons r t, f => .cons (f _ _ r) (Paired.mapP t f)
/-- what an object's description leans on: its own object, its own dict, the tuples -/
theorem ObjOk.stay (x : ObjOk P w H h a o) (k : ∀ b u, (b = a ∨ H b = some (.own a)) → h.get? b = some u → h'.get? b = some u)
    (ho : ∀ b, H b = some (.own a) → H' b = some (.own a)) (ht : ∀ b xs, H b = some (.tup xs) → H' b = some (.tup xs)) : ObjOk P w H' h' a o := by
  induction o with
  | lst xs => obtain ⟨z, its, n, r, e⟩ := x; exact ⟨z, its, n, r, k _ _ (.inl rfl) e⟩
  | tup xs => obtain ⟨z, its, r, ob, e, c⟩ := x; exact ⟨z, its, r, ob, k _ _ (.inl rfl) e, c⟩
  | dK kvs => obtain ⟨z, y, vs, r, ob, es, ep, e, c⟩ := x; exact ⟨z, y, vs, r, ob, es, ep, k _ _ (.inl rfl) e, c⟩
  | dT kvs =>
    obtain ⟨z, y, xs, r, ob, es, ep, e, c⟩ := x
    exact ⟨z, y, xs, Paired.mapP r fun p q z => ⟨z.1, ht _ _ z.2.1, z.2.2⟩, ob, es, ep, k _ _ (.inl rfl) e, c⟩
  | set S n => obtain ⟨ob, es, ep, t, e, c⟩ := x; exact ⟨ob, es, ep, t, k _ _ (.inl rfl) e, c⟩
  | ins C dx fs =>
    obtain ⟨d, z, ne, e, mA, ⟨od, es, ep, e2, c⟩, r⟩ := x
    exact ⟨ho _ d, z, ne, k _ _ (.inl rfl) e, mA, ⟨od, es, ep, k _ _ (.inr d) e2, c⟩, r⟩
  | own y => obtain ⟨ob, e⟩ := x; exact ⟨ob, k _ _ (.inl rfl) e⟩
  | xd fs => obtain ⟨mA, ⟨od, es, ep, e, c⟩, r⟩ := x; exact ⟨mA, ⟨od, es, ep, k _ _ (.inl rfl) e, c⟩, r⟩
  | rng lo hi => obtain ⟨t, u, v, e⟩ := x; exact ⟨t, u, v, k _ _ (.inl rfl) e⟩
  | frz ob u ih => obtain ⟨e, q⟩ := x; exact ⟨k _ _ (.inl rfl) e, ih q⟩
  | tbl ps =>
    have e : h.get? a = some { cls := .none, data := .fields ps } := x
    show h'.get? a = some { cls := .none, data := .fields ps }
    exact k a _ (.inl rfl) e
  | met f y =>
    have e : h.get? a = some (PySem.W.methodObj (.ref f) (.ref y)) := x
    show h'.get? a = some (PySem.W.methodObj (.ref f) (.ref y))
    exact k a _ (.inl rfl) e
  | ext φ => obtain ⟨p, ⟨o, e⟩, st⟩ := x; exact ⟨st _ _ p fun o q => k _ _ (.inl rfl) q, ⟨o, k _ _ (.inl rfl) e⟩, st⟩
theorem HOk.lt (x : HOk P w H h) (e : H a = some o) : a < h.objs.size := (x a o e).lt
theorem HOk.fresh (x : HOk P w H h) (e : h.objs.size ≤ a) : H a = none := by
  cases q : H a with
  | none => rfl
  | some u => exact absurd (Nat.lt_of_lt_of_le (x.lt q) e) (Nat.lt_irrefl _)
/-- every object of the heap is kept -/
theorem HOk.kept (x : HOk P w H h) (k : ∀ b u, h.get? b = some u → h'.get? b = some u) : HOk P w H h' := fun a o e =>
  (x a o e).stay (fun b u _ q => k b u q) (fun _ q => q) fun _ _ q => q
/-- a new object is laid and tracked -/
theorem HOk.laid (x : HOk P w H h) (k : ∀ b u, h.get? b = some u → h'.get? b = some u) (hp : h.objs.size ≤ a) (new : ObjOk P w (upd H a o) h' a o) : HOk P w (upd H a o) h' := fun b u e => by
  have hn := x.fresh hp
  by_cases hb : b = a
  · subst hb; rw [upd_same] at e; cases e; exact new
  · rw [upd_ne hb] at e
    exact (x b u e).stay (fun c v _ q => k c v q) (fun c q => by rw [upd_ne (ne_of_none q hn)]; exact q) fun c xs q => by rw [upd_ne (ne_of_none q hn)]; exact q
end

/-- what may be read as u: it is u, or a known u -/
noncomputable def Rd (H : Hp) (a : Addr) (u : HO) : Prop := H a = some u ∨ ∃ o, H a = some (.frz o u)
theorem Rd.ok {P : Program} {w : World} {H : Hp} {h : Heap} {a : Addr} {u : HO} (r : Rd H a u) (x : HOk P w H h) : ObjOk P w H h a u := by
  rcases r with r | ⟨o, r⟩
  · exact x a u r
  · obtain ⟨_, q⟩ := x a _ r
    exact q
/-- what may be written -/
noncomputable def Mut : Option HO → Prop
  | some (.lst _) => True
  | some (.dK _) => True
  | some (.dT _) => True
  | some (.set _ _) => True
  | some (.ins _ _ _) => True
  | some (.ext _) => True
  | _ => False
section
variable {P : Program} {w : World} {H : Hp} {h h' : Heap} {x e : Addr} {o' : HO}
/-- the object at e is changed: x itself, or the dict of the instance x -/
theorem HOk.write (ok : HOk P w H h) (mu : Mut (H x)) (he : e = x ∨ H e = some (.own x)) (k : ∀ b u, b ≠ e → h.get? b = some u → h'.get? b = some u) (heo : ∃ u, h'.get? e = some u)
    (new : ObjOk P w (upd H x o') h' x o') : HOk P w (upd H x o') h' := fun b u q => by
  have nown : ∀ c y, H c = some (.own y) → c ≠ x := fun c y r z => by subst z; rw [r] at mu; exact mu
  have ntup : ∀ c xs, H c = some (.tup xs) → c ≠ x := fun c xs r z => by subst z; rw [r] at mu; exact mu
  by_cases hb : b = x
  · subst hb; rw [upd_same] at q; cases q; exact new
  · rw [upd_ne hb] at q
    by_cases hbe : b = e
    · have q' : H b = some (.own x) := by
        rcases he with z | z
        · exact absurd (hbe.trans z) hb
        · rw [hbe]; exact z
      rw [q] at q'; cases q'
      obtain ⟨v, hv⟩ := heo
      exact ⟨v, by rw [hbe]; exact hv⟩
    · refine (ok b u q).stay (fun c v hc r => k c v ?_ r) (fun c r => by rw [upd_ne (nown c b r)]; exact r) fun c xs r => by rw [upd_ne (ntup c xs r)]; exact r
      rcases hc with rfl | hc
      · exact hbe
      · rintro rfl
        rcases he with z | z
        · exact nown c b hc z
        · rw [hc] at z; cases z; exact hb rfl
end

/-! ### kept unless tracked; of the frames at fs (the callers') the slots may change (an exception that passes writes there); of the records at ex (iterators) nothing is said -/
structure Un (fs ex : List Addr) (H H' : Hp) (h h' : Heap) : Prop where
  keep : ∀ b o, h.get? b = some o → H b = none → b ∉ fs → b ∉ ex → h'.get? b = some o
  slot : ∀ b o, h.get? b = some o → H b = none → b ∈ fs → b ∉ ex → ∃ sl, h'.get? b = some { o with slots := sl }
  free : ∀ b o, h.get? b = some o → H b = none → b ∉ ex → H' b = none
  there : ∀ b o, h.get? b = some o → b ∉ ex → ∃ o', h'.get? b = some o'
  tups : ∀ b xs, H b = some (.tup xs) → H' b = some (.tup xs)
  frzs : ∀ b o u, H b = some (.frz o u) → H' b = some (.frz o u)
  tbls : ∀ b ps, H b = some (.tbl ps) → ∃ more, H' b = some (.tbl (ps ++ more))
section
variable {fs fs' ex ex' : List Addr} {H H1 H2 : Hp} {h h1 h2 h' : Heap} {a x e : Addr} {o : HO}
theorem Un.any (u : Un fs ex H H1 h h1) {b : Addr} {ob : Obj} (q : h.get? b = some ob) (n : H b = none) (hx : b ∉ ex) : ∃ sl, h1.get? b = some { ob with slots := sl } := by
  by_cases hb : b ∈ fs
  · exact u.slot b ob q n hb hx
  · exact ⟨ob.slots, u.keep b ob q n hb hx⟩
theorem Un.kept (k : ∀ b u, h.get? b = some u → h'.get? b = some u) : Un fs ex H H h h' :=
  ⟨fun b ob q _ _ _ => k b ob q, fun b ob q _ _ _ => ⟨ob.slots, k b ob q⟩, fun _ _ _ n _ => n, fun b ob q _ => ⟨ob, k b ob q⟩, fun _ _ q => q, fun _ _ _ q => q, fun _ ps q => ⟨#[], by rw [q]; simp⟩⟩
theorem Un.refl : Un fs ex H H h h := Un.kept fun _ _ q => q
theorem Un.laid (k : ∀ b u, h.get? b = some u → h'.get? b = some u) (hp : h.objs.size ≤ a) (hn : H a = none) : Un fs ex H (upd H a o) h h' where
  keep := fun b u q _ _ _ => k b u q
  slot := fun b u q _ _ _ => ⟨u.slots, k b u q⟩
  free := fun b u q n _ => by rw [upd_ne (Nat.ne_of_lt (Nat.lt_of_lt_of_le (Heap.lt_size q) hp))]; exact n
  there := fun b u q _ => ⟨u, k b u q⟩
  tups := fun b xs q => by rw [upd_ne (ne_of_none q hn)]; exact q
  frzs := fun b u xs q => by rw [upd_ne (ne_of_none q hn)]; exact q
  tbls := fun b ps q => ⟨#[], by rw [upd_ne (ne_of_none q hn), q]; simp⟩
theorem Un.write (mu : Mut (H x)) (he : e = x ∨ H e = some (.own x)) (k : ∀ b u, b ≠ e → h.get? b = some u → h'.get? b = some u) (heo : ∃ u, h'.get? e = some u) : Un fs ex H (upd H x o) h h' := by
  have hx : ∀ b, H b = none → b ≠ x := fun b n z => by subst z; rw [n] at mu; exact mu
  have hb : ∀ b, H b = none → b ≠ e := fun b n z => by
    subst z
    rcases he with r | r
    · exact hx b n r
    · rw [n] at r; cases r
  have hm : ∀ b u, H b = some u → ¬ Mut (some u) → b ≠ x := fun b u q nm z => by subst z; rw [q] at mu; exact nm mu
  refine ⟨fun b u q n _ _ => k b u (hb b n) q, fun b u q n _ _ => ⟨u.slots, k b u (hb b n) q⟩, fun b u q n _ => by rw [upd_ne (hx b n)]; exact n, fun b u q _ => ?_,
    fun b xs q => by rw [upd_ne (hm b _ q fun z => z)]; exact q, fun b u xs q => by rw [upd_ne (hm b _ q fun z => z)]; exact q, fun b ps q => ⟨#[], by rw [upd_ne (hm b _ q fun z => z), q]; simp⟩⟩
  by_cases hbe : b = e
  · subst hbe; exact heo
  · exact ⟨u, k b u hbe q⟩
end

/-! ### the heap without what is tracked -/
noncomputable def trk (h : Heap) (H : Hp) : List Addr := (List.range h.objs.size).filter fun a => (H a).isSome
noncomputable def hidT (h : Heap) (H : Hp) : Heap := PySem.W.hideAll h (trk h H)
theorem hidT_size (h : Heap) (H : Hp) : (hidT h H).objs.size = h.objs.size := PySem.W.hideAll_size _ _
theorem hidT_get {h : Heap} {H : Hp} {b : Addr} {o : Obj} (e : h.get? b = some o) (n : H b = none) : (hidT h H).get? b = some o :=
  PySem.W.hideAll_get _ e fun hm => by
    have q : (H b).isSome = true := (List.mem_filter.mp hm).2
    rw [n] at q; simp at q
theorem of_hidT {h : Heap} {H : Hp} {b : Addr} {o : Obj} (e : (hidT h H).get? b = some o) : h.get? b = some o ∧ H b = none := by
  have e' : h.get? b = some o := PySem.W.of_hideAll (trk h H) e
  refine ⟨e', ?_⟩
  cases q : H b with
  | none => rfl
  | some x =>
    have hm : b ∈ trk h H := List.mem_filter.mpr ⟨List.mem_range.mpr (Heap.lt_size e'), by simp [q]⟩
    have z : (hidT h H).get? b = none := PySem.W.hideAll_none (trk h H) hm
    rw [z] at e; cases e

/-! ### OpenK's ledger, filled with every new object but one -/
end L2

namespace L2
open PySem PySem.Spec PyProof.Rows

/-- the module's facts, over the base: the heap at the law's entry without what is tracked there -/
structure Mod (K : PySem.W.Frag) (mg : Str → Option Value) (base : Heap) : Prop where
  kin : K.In base
  glob : base.Ns mainGlobals mg
  blt : ∃ mb, base.Ns builtinsNs mb ∧ ∀ x : Str, x ≠ "__name__" → mb x = bootBuiltins x
  nolimit : base.NoLimit

/-- the context: a def's body (or a comprehension's block) running. base: fixed through the whole law; s₀, H₀: the entry; outer: the frames whose slots others may change (a def's callers); stack: all frames that run;
   ex: iterators that were made ahead of the entry and are walked here (a comprehension's); fn: the names whose cells were made at the entry (a def: all; a comprehension's block: its own); calm: not within an except suite; pn: pins that every state bears; xe: what is wanted of an exception that leaves the code -/
structure Cx where
  prog : Program
  w : World
  K : PySem.W.Frag
  mg : Str → Option Value
  base : Heap
  A : Around
  N : List Str
  s₀ : Shared
  H₀ : Hp
  env : Env
  outer : List Env
  stack : List Env
  ex : List Addr
  fn : Str → Bool
  calm : Bool
  pn : List (Addr × Obj)
  xe : Value → Shared → Prop
/-- the callers' frames -/
noncomputable def frs (l : List Env) : List Addr := l.filterMap (·.frame)
noncomputable abbrev Cx.fs (X : Cx) : List Addr := frs X.outer

noncomputable def Vis (sc : Scope) (x : Str) : Prop := sc.names.lookup x = some .local ∨ sc.names.lookup x = some .cell ∨ sc.names.lookup x = some .free
noncomputable def Loc (sc : Scope) (x : Str) : Prop := sc.names.lookup x = some .local ∨ sc.names.lookup x = some .cell
noncomputable def Look (env : Env) (h : Heap) (m : Str → Option Value) (x : Str) (u : Value) : Prop :=
  (env.kindOf x = some .local ∧ m x = some u) ∨ ((env.kindOf x = some .cell ∨ env.kindOf x = some .free) ∧ ∃ c, env.cells.lookup x = some c ∧ h.IsCell c (some u))

structure Cx.Ok (X : Cx) : Prop where
  mod : Mod X.K X.mg X.base
  kind : X.env.scope.kind = .function
  glob : X.env.globals = mainGlobals
  blt : X.env.builtins = builtinsNs
  above : X.s₀.heap.objs.size ≤ X.env.locals
  inj : ∀ x y c, X.env.cells.lookup x = some c → X.env.cells.lookup y = some c → x = y
  has : ∀ x, (X.env.kindOf x = some .cell ∨ X.env.kindOf x = some .free) → ∃ c, X.env.cells.lookup x = some c
  cab : ∀ x c, X.fn x = true → X.env.cells.lookup x = some c → X.s₀.heap.objs.size ≤ c
  hd : X.calm = true → X.A.handled = none
  frames : X.A.frames = some X.stack
  stk : X.stack = X.outer ∨ (X.stack = X.env :: X.outer ∧ X.env.frame = some X.env.locals)
  exf : ∀ b ∈ X.ex, b ≠ X.env.locals ∧ ∀ x c, X.env.cells.lookup x = some c → c ≠ b
  bs : ∀ b o, X.base.get? b = some o → X.s₀.heap.get? b = some o ∧ X.H₀ b = none
  bsz : X.base.objs.size ≤ X.s₀.heap.objs.size
  noex : ∀ b o, X.base.get? b = some o → b ∉ X.ex
  exfs : ∀ b ∈ X.ex, b ∉ X.fs
  funs : X.s₀.heap.FunFrames X.base X.outer
  frf : ∀ b ∈ X.fs, X.H₀ b = none

structure Inv (X : Cx) (pins : List (Addr × Obj)) (σ : List (Option V)) (H : Hp) (s : Shared) : Prop where
  ok : X.Ok
  os : s.os = X.s₀.os
  bare : AllBare s.gens
  base : Un X.fs X.ex X.H₀ H X.s₀.heap s.heap
  loc : ∃ m, s.heap.Ns X.env.locals m ∧ ∀ (i : Nat) (x : Str) (v : V), X.N[i]? = some x → σ[i]? = some (some v) → Vis X.env.scope x → ∃ u, RelV v u ∧ Look X.env s.heap m x u
  cell : ∀ x c, X.env.cells.lookup x = some c → ∃ v, s.heap.IsCell c v
  free : H X.env.locals = none
  freeC : ∀ x c, X.env.cells.lookup x = some c → H c = none
  pin : ∀ p ∈ X.pn ++ pins, s.heap.get? p.1 = some p.2 ∧ H p.1 = none ∧ p.1 ≠ X.env.locals ∧ p.1 ∉ X.fs ∧ ∀ v, p.2.data ≠ .cell v
  hok : HOk X.prog X.w H s.heap
  len : σ.length = X.N.length

section
variable {X : Cx} {pins : List (Addr × Obj)} {σ : List (Option V)} {H H' : Hp} {s : Shared} {h' : Heap}

theorem Cx.Ok.nofr (ok : X.Ok) {b : Addr} {o : Obj} (e : X.base.get? b = some o) : b ∉ X.fs := fun hb => by
  have := (ok.funs.mem hb).1
  rw [e] at this; cases this
theorem Inv.bs (I : Inv X pins σ H s) : ∀ b o, X.base.get? b = some o → s.heap.get? b = some o ∧ H b = none := fun b o e =>
  ⟨I.base.keep b o (I.ok.bs b o e).1 (I.ok.bs b o e).2 (I.ok.nofr e) (I.ok.noex b o e), I.base.free b o (I.ok.bs b o e).1 (I.ok.bs b o e).2 (I.ok.noex b o e)⟩
theorem Inv.bk (I : Inv X pins σ H s) : ∀ b o, X.base.get? b = some o → s.heap.get? b = some o := fun b o e => (I.bs b o e).1
theorem Inv.mod (I : Inv X pins σ H s) : Mod X.K X.mg X.base := I.ok.mod
theorem Inv.kIn (I : Inv X pins σ H s) : X.K.In s.heap := I.ok.mod.kin.keeps I.bk
theorem Inv.lt (I : Inv X pins σ H s) : X.env.locals < s.heap.objs.size := let ⟨_, hn, _⟩ := I.loc; hn.lt
theorem Inv.sz (I : Inv X pins σ H s) : X.s₀.heap.objs.size ≤ s.heap.objs.size := Nat.le_trans I.ok.above (Nat.le_of_lt I.lt)
theorem Inv.nofs (I : Inv X pins σ H s) {a : Addr} (h : s.heap.objs.size ≤ a) : a ∉ X.fs := fun hb => by
  obtain ⟨_, o, ho, _⟩ := I.ok.funs.mem hb
  exact absurd (Nat.lt_of_lt_of_le (Heap.lt_size ho) (Nat.le_trans I.sz h)) (Nat.lt_irrefl _)
theorem Inv.cne (I : Inv X pins σ H s) : ∀ x c, X.env.cells.lookup x = some c → c ≠ X.env.locals := fun x c e z => by
  obtain ⟨v, o, ho, hd⟩ := I.cell x c e
  obtain ⟨m, ⟨o', es, ep, ho', hd', _⟩, _⟩ := I.loc
  rw [z, ho'] at ho; cases ho; rw [hd'] at hd; cases hd
theorem Inv.funs (I : Inv X pins σ H s) : s.heap.FunFrames X.base X.outer := by
  have all : ∀ (l : List Env), (∀ b ∈ frs l, b ∈ X.fs) → X.s₀.heap.FunFrames X.base l → s.heap.FunFrames X.base l := by
    intro l
    induction l with
    | nil => intro _ _; trivial
    | cons env r ih =>
      intro hs hl
      obtain ⟨hk, ⟨L, o, hf, hn, ho, hd⟩, hr⟩ := hl
      have hL : L ∈ X.fs := hs L (by unfold frs; rw [List.filterMap_cons, hf]; exact List.mem_cons_self)
      obtain ⟨sl, e⟩ := I.base.slot L o ho (I.ok.frf L hL) hL fun z => I.ok.exfs L z hL
      exact ⟨hk, ⟨L, _, hf, hn, e, hd⟩, ih (fun b hb => hs b (by unfold frs; rw [List.filterMap_cons, hf]; exact List.mem_cons_of_mem _ hb)) hr⟩
  exact all X.outer (fun _ hb => hb) I.ok.funs

/-- the frames that run, for a call -/
theorem Inv.stack (I : Inv X pins σ H s) : s.heap.FunFrames X.base X.stack := by
  rcases I.ok.stk with e | ⟨e, hf⟩
  · rw [e]; exact I.funs
  · rw [e]
    obtain ⟨m, hn, _⟩ := I.loc
    refine .cons (by rw [I.ok.kind]; decide) hf hn ?_ I.funs
    exact Heap.get?_none_of_le (Nat.le_trans I.ok.bsz I.ok.above)
theorem Inv.stkSub (I : Inv X pins σ H s) : ∀ b ∈ frs X.stack, b ∈ X.env.locals :: X.fs := fun b hb => by
  rcases I.ok.stk with e | ⟨e, hf⟩
  · rw [e] at hb; exact List.mem_cons_of_mem _ hb
  · rw [e] at hb
    unfold frs at hb
    rw [List.filterMap_cons, hf] at hb
    exact hb
theorem Inv.stkFree (I : Inv X pins σ H s) : ∀ b ∈ frs X.stack, H b = none := fun b hb => by
  rcases List.mem_cons.mp (I.stkSub b hb) with e | hb
  · rw [e]; exact I.free
  · obtain ⟨_, o, ho, _⟩ := I.ok.funs.mem hb
    exact I.base.free b o ho (I.ok.frf b hb) fun z => I.ok.exfs b z hb

/-- THE STEP: the untracked objects but the frame and the records at ch are kept (the callers' frames up to slots), the frame's map is kept, the new abstract heap is held -/
theorem Inv.step {g' : Array GenState} {t' : Nat} {d' : Drawn} {ch : List Addr} (I : Inv X pins σ H s)
    (hch : ∀ b ∈ ch, (b ∈ X.ex ∨ X.s₀.heap.objs.size ≤ b) ∧ b ≠ X.env.locals ∧ (∀ x c, X.env.cells.lookup x = some c → c ≠ b) ∧ ∀ p ∈ X.pn ++ pins, p.1 ≠ b)
    (keep : ∀ b o, b ≠ X.env.locals → b ∉ X.fs → b ∉ ch → s.heap.get? b = some o → H b = none → h'.get? b = some o)
    (slot : ∀ b o, b ≠ X.env.locals → b ∈ X.fs → b ∉ ch → s.heap.get? b = some o → H b = none → ∃ sl, h'.get? b = some { o with slots := sl }) (free : ∀ b o, b ∉ ch → s.heap.get? b = some o → H b = none → H' b = none)
    (there : ∀ b o, b ∉ ch → s.heap.get? b = some o → ∃ o', h'.get? b = some o')
    (tups : ∀ b xs, H b = some (.tup xs) → H' b = some (.tup xs)) (frzs : ∀ b o u, H b = some (.frz o u) → H' b = some (.frz o u)) (tbls : ∀ b ps, H b = some (.tbl ps) → ∃ more, H' b = some (.tbl (ps ++ more)))
    (ns : ∀ m, s.heap.Ns X.env.locals m → h'.Ns X.env.locals m) (hok : HOk X.prog X.w H' h') (hg : AllBare g') :
    Inv X pins σ H' { s with heap := h', gens := g', drawn := d', toks := t' } := by
  have neL : ∀ b o, X.s₀.heap.get? b = some o → b ≠ X.env.locals := fun b o e => Nat.ne_of_lt (Nat.lt_of_lt_of_le (Heap.lt_size e) I.ok.above)
  have neC : ∀ b o, X.s₀.heap.get? b = some o → b ∉ X.ex → b ∉ ch := fun b o e hx hb => by
    rcases (hch b hb).1 with z | z
    · exact hx z
    · exact absurd (Nat.lt_of_lt_of_le (Heap.lt_size e) z) (Nat.lt_irrefl _)
  have cellK : ∀ x c, X.env.cells.lookup x = some c → ∀ v, s.heap.IsCell c v → h'.IsCell c v := fun x c e v ⟨o, ho, hd⟩ => by
    have nch : c ∉ ch := fun z => (hch c z).2.2.1 x c e rfl
    by_cases hc : c ∈ X.fs
    · obtain ⟨sl, q⟩ := slot c o (I.cne x c e) hc nch ho (I.freeC x c e)
      exact ⟨_, q, hd⟩
    · exact ⟨o, keep c o (I.cne x c e) hc nch ho (I.freeC x c e), hd⟩
  refine ⟨I.ok, I.os, hg, ⟨fun b o e n hb hx => ?_, fun b o e n hb hx => ?_, fun b o e n hx => ?_, fun b o e hx => ?_, fun b xs e => tups b xs (I.base.tups b xs e), fun b o xs e => frzs b o xs (I.base.frzs b o xs e), fun b ps e => ?_⟩, ?_, fun x c e => ?_, ?_, fun x c e => ?_, fun p hp => ?_, hok, I.len⟩
  · exact keep b o (neL b o e) hb (neC b o e hx) (I.base.keep b o e n hb hx) (I.base.free b o e n hx)
  · obtain ⟨sl, e1⟩ := I.base.slot b o e n hb hx
    obtain ⟨sl', e2⟩ := slot b _ (neL b o e) hb (neC b o e hx) e1 (I.base.free b o e n hx)
    exact ⟨sl', e2⟩
  · obtain ⟨o', e1⟩ := I.base.there b o e hx
    exact free b o' (neC b o e hx) e1 (I.base.free b o e n hx)
  · obtain ⟨o', e1⟩ := I.base.there b o e hx
    exact there b o' (neC b o e hx) e1
  · obtain ⟨m1, e1⟩ := I.base.tbls b ps e
    obtain ⟨m2, e2⟩ := tbls b _ e1
    exact ⟨m1 ++ m2, by rw [e2, Array.append_assoc]⟩
  · obtain ⟨m, hn, hl⟩ := I.loc
    refine ⟨m, ns m hn, fun i x v e1 e2 e3 => ?_⟩
    obtain ⟨u, r, l⟩ := hl i x v e1 e2 e3
    refine ⟨u, r, ?_⟩
    rcases l with l | ⟨k, c, e, z⟩
    · exact .inl l
    · exact .inr ⟨k, c, e, cellK x c e _ z⟩
  · obtain ⟨v, z⟩ := I.cell x c e
    exact ⟨v, cellK x c e v z⟩
  · obtain ⟨m, ⟨o, _, _, ho, _⟩, _⟩ := I.loc
    exact free _ o (fun z => (hch _ z).2.1 rfl) ho I.free
  · obtain ⟨v, o, ho, hd⟩ := I.cell x c e
    exact free c o (fun z => (hch c z).2.2.1 x c e rfl) ho (I.freeC x c e)
  · obtain ⟨e, n, ne, nf, d⟩ := I.pin p hp
    have nch : p.1 ∉ ch := fun z => (hch p.1 z).2.2.2 p hp rfl
    exact ⟨keep p.1 p.2 ne nf nch e n, free p.1 p.2 nch e n, ne, nf, d⟩
/-- .. where the frame's own object is kept too -/
theorem Inv.un {t' : Nat} (I : Inv X pins σ H s) (u : Un X.fs [] H H' s.heap h') (hok : HOk X.prog X.w H' h') : Inv X pins σ H' { s with heap := h', toks := t' } := by
  obtain ⟨m, ⟨o, es, ep, ho, r⟩, _⟩ := id I.loc
  obtain ⟨sl, hL⟩ := u.any ho I.free (by simp)
  exact I.step (g' := s.gens) (d' := s.drawn) (ch := []) (fun _ z => nomatch z) (fun b o _ hb _ e n => u.keep b o e n hb (by simp)) (fun b o _ hb _ e n => u.slot b o e n hb (by simp)) (fun b o _ e n => u.free b o e n (by simp)) (fun b o _ e => u.there b o e (by simp)) u.tups u.frzs u.tbls (fun m' hm => by
    obtain ⟨o', es', ep', ho', r'⟩ := hm
    rw [ho] at ho'; cases ho'
    exact ⟨_, es', ep', hL, r'⟩) hok I.bare
/-- behind a call (or a comprehension's block): the slots of this frame may have changed too, the records at ch may have turned -/
theorem Inv.call {g' : Array GenState} {t' : Nat} {d' : Drawn} {ch : List Addr} (I : Inv X pins σ H s) (u : Un (frs X.stack) ch H H' s.heap h') (hok : HOk X.prog X.w H' h') (hg : AllBare g')
    (hch : ∀ b ∈ ch, (b ∈ X.ex ∨ X.s₀.heap.objs.size ≤ b) ∧ b ≠ X.env.locals ∧ (∀ x c, X.env.cells.lookup x = some c → c ≠ b) ∧ ∀ p ∈ X.pn ++ pins, p.1 ≠ b) :
    Inv X pins σ H' { s with heap := h', gens := g', drawn := d', toks := t' } := by
  obtain ⟨m, ⟨o, es, ep, ho, r⟩, _⟩ := id I.loc
  obtain ⟨sl, hL⟩ := u.any ho I.free fun z => (hch _ z).2.1 rfl
  exact I.step (ch := ch) hch (fun b o hL hb hc e n => u.keep b o e n (fun z => (List.mem_cons.mp (I.stkSub b z)).elim hL hb) hc) (fun b o _ _ hc e n => u.any e n hc) (fun b o hc e n => u.free b o e n hc) (fun b o hc e => u.there b o e hc) u.tups u.frzs u.tbls (fun m' hm => by
    obtain ⟨o', es', ep', ho', r'⟩ := hm
    rw [ho] at ho'; cases ho'
    exact ⟨_, es', ep', hL, r'⟩) hok hg
/-- an untracked record of ours (an iterator) has turned -/
theorem Inv.turned {t' : Nat} {it : Addr} (I : Inv X pins σ H s) (k : ∀ b o, b ≠ it → s.heap.get? b = some o → h'.get? b = some o) (hn : H it = none) (hL : it ≠ X.env.locals)
    (h1 : it ∈ X.ex ∨ X.s₀.heap.objs.size ≤ it) (h2 : ∀ x c, X.env.cells.lookup x = some c → c ≠ it) (h3 : ∀ p ∈ X.pn ++ pins, p.1 ≠ it) : Inv X pins σ H { s with heap := h', toks := t' } := by
  have nit : ∀ b u, H b = some u → b ≠ it := fun b u e z => by rw [z, hn] at e; cases e
  refine I.step (g' := s.gens) (d' := s.drawn) (ch := [it]) (fun b hb => ?_) (fun b o _ _ hc e _ => k b o (fun z => hc (by simp [z])) e) (fun b o _ _ hc e _ => ⟨o.slots, k b o (fun z => hc (by simp [z])) e⟩) (fun _ _ _ _ n => n)
    (fun b o hc e => ⟨o, k b o (fun z => hc (by simp [z])) e⟩) (fun _ _ e => e) (fun _ _ _ e => e) (fun b ps e => ⟨#[], by rw [e]; simp⟩) (fun m hm => ?_) (fun b u e => ?_) I.bare
  · have e : b = it := by simpa using hb
    subst e
    exact ⟨h1, hL, h2, h3⟩
  · obtain ⟨o, es, ep, ho, r⟩ := hm
    exact ⟨o, es, ep, k _ o (Ne.symm hL) ho, r⟩
  · refine (I.hok b u e).stay (fun c v hc q => k c v ?_ q) (fun _ q => q) fun _ _ q => q
    rcases hc with z | z
    · rw [z]; exact nit b u e
    · exact nit c _ z
theorem Inv.tok (I : Inv X pins σ H s) (t : Nat) : Inv X pins σ H { s with toks := t } := I.un (h' := s.heap) (t' := t) Un.refl I.hok
/-- all objects kept -/
theorem Inv.kept {t' : Nat} (I : Inv X pins σ H s) (k : ∀ b u, s.heap.get? b = some u → h'.get? b = some u) : Inv X pins σ H { s with heap := h', toks := t' } := I.un (Un.kept k) (I.hok.kept k)
/-- a new object laid and tracked -/
theorem Inv.laid {a : Addr} {o : HO} {t' : Nat} (I : Inv X pins σ H s) (k : ∀ b u, s.heap.get? b = some u → h'.get? b = some u) (hp : s.heap.objs.size ≤ a) (new : ObjOk X.prog X.w (upd H a o) h' a o) :
    Inv X pins σ (upd H a o) { s with heap := h', toks := t' } := I.un (Un.laid k hp (I.hok.fresh hp)) (I.hok.laid k hp new)
/-- an object written -/
theorem Inv.write {x e : Addr} {o : HO} {t' : Nat} (I : Inv X pins σ H s) (mu : Mut (H x)) (he : e = x ∨ H e = some (.own x)) (k : ∀ b u, b ≠ e → s.heap.get? b = some u → h'.get? b = some u) (heo : ∃ u, h'.get? e = some u)
    (new : ObjOk X.prog X.w (upd H x o) h' x o) : Inv X pins σ (upd H x o) { s with heap := h', toks := t' } := I.un (Un.write mu he k heo) (I.hok.write mu he k heo new)
theorem Inv.pins_of {pins' : List (Addr × Obj)} (I : Inv X pins σ H s) (h : ∀ p ∈ pins', s.heap.get? p.1 = some p.2 ∧ H p.1 = none ∧ p.1 ≠ X.env.locals ∧ p.1 ∉ X.fs ∧ ∀ v, p.2.data ≠ .cell v) : Inv X pins' σ H s :=
  ⟨I.ok, I.os, I.bare, I.base, I.loc, I.cell, I.free, I.freeC, fun p hp => (List.mem_append.mp hp).elim (fun z => I.pin p (List.mem_append_left _ z)) (h p), I.hok, I.len⟩

theorem nodup_ix {N : List Str} (hN : N.Nodup) {i j : Nat} {x : Str} (a : N[i]? = some x) (b : N[j]? = some x) : i = j := by
  obtain ⟨h1, e1⟩ := List.getElem?_eq_some_iff.mp a
  obtain ⟨h2, e2⟩ := List.getElem?_eq_some_iff.mp b
  exact (List.getElem_inj hN).mp (e1.trans e2.symm)

/-- a name is stored; what changed -/
theorem store_ok2 {M : Model} {A : Around} {E : Value → Shared → Prop} {i : Nat} {x : Str} {v : V} {u : Value} {Q : Unit → Shared → Prop} (I : Inv X pins σ H s) (hN : X.N.Nodup) (hi : X.N[i]? = some x) (hx : Loc X.env.scope x) (r : RelV v u)
    (h : ∀ s', Inv X pins (σ.set i (some v)) H s' → (∃ a, Heap.SameBut a s.heap s'.heap ∧ (a = X.env.locals ∨ X.env.cells.lookup x = some a)) → Q () s') (hf : X.fn x = true ∨ X.env.scope.names.lookup x = some .local := by first | exact .inl rfl | exact .inr rfl | assumption) : wpAny M A (storeName X.env x u) Q E s := by
  obtain ⟨m, hn, hl⟩ := id I.loc
  have hcls : (X.env.scope.kind == .class || (X.env.scope.kind == .module && X.env.locals != X.env.globals)) = false := by rw [I.ok.kind]; rfl
  have hiσ : i < σ.length := by rw [I.len]; exact (List.getElem?_eq_some_iff.mp hi).1
  have cne := I.cne
  have tracked : ∀ {a : Addr} {h' : Heap}, (∃ o, s.heap.get? a = some o ∧ H a = none) → Heap.SameBut a s.heap h' → HOk X.prog X.w H h' := fun {a h'} ha hs b ob e => by
    obtain ⟨_, _, hfree⟩ := ha
    refine (I.hok b ob e).stay (fun c w' hc q => (hs.2 c ?_).trans q) (fun _ q => q) fun _ _ q => q
    rintro rfl
    rcases hc with rfl | hc
    · rw [hfree] at e; cases e
    · rw [hfree] at hc; cases hc
  rcases hx with hk | hk
  · refine wpAny_storeName_local hk hn (fun h' hn' hs => ?_) hcls
    obtain ⟨oL, _, _, hoL, _⟩ := id hn
    refine h _ ⟨I.ok, I.os, I.bare, ⟨fun b o e n hb hx => ?_, fun b o e n hb hx => ?_, I.base.free, fun b o e hx => ?_, I.base.tups, I.base.frzs, I.base.tbls⟩, ⟨_, hn', fun j y v' e1 e2 e3 => ?_⟩, fun y c e => ?_, I.free, I.freeC, fun p hp => ?_, tracked ⟨oL, hoL, I.free⟩ hs, by simpa using I.len⟩ ⟨_, hs, .inl rfl⟩
    · exact (hs.2 b (Nat.ne_of_lt (Nat.lt_of_lt_of_le (Heap.lt_size e) I.ok.above))).trans (I.base.keep b o e n hb hx)
    · obtain ⟨sl, e1⟩ := I.base.slot b o e n hb hx
      exact ⟨sl, (hs.2 b (Nat.ne_of_lt (Nat.lt_of_lt_of_le (Heap.lt_size e) I.ok.above))).trans e1⟩
    · obtain ⟨o', e1⟩ := I.base.there b o e hx
      exact ⟨o', (hs.2 b (Nat.ne_of_lt (Nat.lt_of_lt_of_le (Heap.lt_size e) I.ok.above))).trans e1⟩
    · by_cases hj : j = i
      · subst hj
        rw [hi] at e1; cases e1
        rw [List.getElem?_set_self hiσ] at e2
        cases e2
        exact ⟨u, r, .inl ⟨hk, by simp⟩⟩
      · rw [List.getElem?_set_ne (Ne.symm hj)] at e2
        obtain ⟨u', r', q⟩ := hl j y v' e1 e2 e3
        refine ⟨u', r', ?_⟩
        rcases q with ⟨k, e⟩ | ⟨k, c, e, z⟩
        · refine .inl ⟨k, ?_⟩
          have : y ≠ x := fun e => hj (nodup_ix hN e1 (e ▸ hi))
          simp [this, e]
        · exact .inr ⟨k, c, e, z.sameBut hs (cne y c e)⟩
    · obtain ⟨w', z⟩ := I.cell y c e
      exact ⟨w', z.sameBut hs (cne y c e)⟩
    · obtain ⟨e, n, ne, nf, d⟩ := I.pin p hp
      exact ⟨(hs.2 p.1 ne).trans e, n, ne, nf, d⟩
  · have hfn : X.fn x = true := by
      rcases hf with z | z
      · exact z
      · rw [z] at hk; cases hk
    obtain ⟨c, hc⟩ := I.ok.has x (.inl hk)
    obtain ⟨w', z⟩ := I.cell x c hc
    refine wpAny_storeName_cell I.ok.kind hk hc z (fun h' hc' hs => ?_)
    obtain ⟨oc, hoc, hocd⟩ := id z
    refine h { s with heap := h' } ⟨I.ok, I.os, I.bare, ⟨fun b o e n hb hx => ?_, fun b o e n hb hx => ?_, I.base.free, fun b o e hx => ?_, I.base.tups, I.base.frzs, I.base.tbls⟩, ⟨m, hn.sameBut hs (Ne.symm (cne x c hc)), fun j y v' e1 e2 e3 => ?_⟩, fun y c' e => ?_, I.free, I.freeC, fun p hp => ?_, tracked ⟨oc, hoc, I.freeC x c hc⟩ hs, by simpa using I.len⟩ ⟨c, hs, .inr hc⟩
    · exact (hs.2 b (Nat.ne_of_lt (Nat.lt_of_lt_of_le (Heap.lt_size e) (I.ok.cab x c hfn hc)))).trans (I.base.keep b o e n hb hx)
    · obtain ⟨sl, e1⟩ := I.base.slot b o e n hb hx
      exact ⟨sl, (hs.2 b (Nat.ne_of_lt (Nat.lt_of_lt_of_le (Heap.lt_size e) (I.ok.cab x c hfn hc)))).trans e1⟩
    · obtain ⟨o', e1⟩ := I.base.there b o e hx
      exact ⟨o', (hs.2 b (Nat.ne_of_lt (Nat.lt_of_lt_of_le (Heap.lt_size e) (I.ok.cab x c hfn hc)))).trans e1⟩
    · by_cases hj : j = i
      · subst hj
        rw [hi] at e1; cases e1
        rw [List.getElem?_set_self hiσ] at e2
        cases e2
        exact ⟨u, r, .inr ⟨.inl hk, c, hc, hc'⟩⟩
      · rw [List.getElem?_set_ne (Ne.symm hj)] at e2
        obtain ⟨u', r', q⟩ := hl j y v' e1 e2 e3
        refine ⟨u', r', ?_⟩
        rcases q with q | ⟨k, c', e, z'⟩
        · exact .inl q
        · refine .inr ⟨k, c', e, z'.sameBut hs ?_⟩
          rintro rfl
          exact hj (nodup_ix hN e1 (I.ok.inj _ _ _ e hc ▸ hi))
    · by_cases hcc : c' = c
      · subst hcc; exact ⟨_, hc'⟩
      · obtain ⟨w2, z2⟩ := I.cell y c' e
        exact ⟨w2, z2.sameBut hs hcc⟩
    · obtain ⟨e, n, ne, nf, d⟩ := I.pin p hp
      refine ⟨(hs.2 p.1 ?_).trans e, n, ne, nf, d⟩
      intro q
      rw [q, hoc] at e
      have q' : oc = p.2 := Option.some.inj e
      exact d w' (by rw [← q']; exact hocd)
theorem store_ok {M : Model} {A : Around} {E : Value → Shared → Prop} {i : Nat} {x : Str} {v : V} {u : Value} {Q : Unit → Shared → Prop} (I : Inv X pins σ H s) (hN : X.N.Nodup) (hi : X.N[i]? = some x) (hx : Loc X.env.scope x) (r : RelV v u)
    (h : ∀ s', Inv X pins (σ.set i (some v)) H s' → Q () s') (hf : X.fn x = true ∨ X.env.scope.names.lookup x = some .local := by first | exact .inl rfl | exact .inr rfl | assumption) : wpAny M A (storeName X.env x u) Q E s :=
  store_ok2 I hN hi hx r (fun s' I' _ => h s' I') hf
/-- behind a call or a block, the state as it is -/
theorem Inv.call' {s' : Shared} {ch : List Addr} (I : Inv X pins σ H s) (ho : s'.os = s.os) (u : Un (frs X.stack) ch H H' s.heap s'.heap) (hok : HOk X.prog X.w H' s'.heap) (hg : AllBare s'.gens)
    (hch : ∀ b ∈ ch, (b ∈ X.ex ∨ X.s₀.heap.objs.size ≤ b) ∧ b ≠ X.env.locals ∧ (∀ x c, X.env.cells.lookup x = some c → c ≠ b) ∧ ∀ p ∈ X.pn ++ pins, p.1 ≠ b) : Inv X pins σ H' s' := by
  obtain ⟨h', g', d', t', o'⟩ := s'
  have e : o' = s.os := ho
  subst e
  exact I.call (g' := g') (t' := t') (d' := d') u hok hg hch
end

/-! ### the judgements -/
/-- an exception: its class, its own dict's address (where it has one), the abstract heap behind it -/
noncomputable abbrev XK := Value → Option Addr → Hp → Prop
noncomputable abbrev St := List (Option V)
noncomputable abbrev VK := V → Hp → Prop
/-- an expression's reading; a test's; an argument list's -/
noncomputable abbrev TE := St → Hp → VK → Prop
noncomputable abbrev TT := St → Hp → (Bool → Hp → Prop) → Prop
noncomputable abbrev TA := St → Hp → (List V → Hp → Prop) → Prop
/-- what is wanted behind a statement -/
structure Ends where
  nx : St → Hp → Prop
  rt : VK
  bk : St → Hp → Prop := fun _ _ => False
  ct : St → Hp → Prop := fun _ _ => False
noncomputable abbrev TS := Ends → St → Hp → Prop

noncomputable def EP (X : Cx) (pins : List (Addr × Obj)) (σ : St) (Q : VK) (u : Value) (s' : Shared) : Prop := ∃ v H', Inv X pins σ H' s' ∧ RelV v u ∧ Q v H'
noncomputable def TP (X : Cx) (pins : List (Addr × Obj)) (σ : St) (Q : Bool → Hp → Prop) (b : Bool) (s' : Shared) : Prop := ∃ H', Inv X pins σ H' s' ∧ Q b H'
noncomputable def AP (X : Cx) (pins : List (Addr × Obj)) (σ : St) (Q : List V → Hp → Prop) (us : List Value) (s' : Shared) : Prop := ∃ vs H', Inv X pins σ H' s' ∧ Vals vs us ∧ Q vs H'
noncomputable def SP (X : Cx) (pins : List (Addr × Obj)) (D : Ends) (f : Flow) (s' : Shared) : Prop :=
  match f with
  | .next => ∃ σ' H', Inv X pins σ' H' s' ∧ D.nx σ' H'
  | .brk => ∃ σ' H', Inv X pins σ' H' s' ∧ D.bk σ' H'
  | .cont => ∃ σ' H', Inv X pins σ' H' s' ∧ D.ct σ' H'
  | .ret u => ∃ v σ' H', Inv X pins σ' H' s' ∧ RelV v u ∧ D.rt v H'

noncomputable def PE (X : Cx) (e : Expr) (t : TE) : Prop :=
  ∀ (pins : List (Addr × Obj)) (s : Shared) (σ : St) (H : Hp) (Q : VK), Inv X pins σ H s → t σ H Q → wpAny (model X.prog X.w) X.A (eval e X.env) (EP X pins σ Q) X.xe s
noncomputable def PT (X : Cx) (e : Expr) (t : TT) : Prop :=
  ∀ (pins : List (Addr × Obj)) (s : Shared) (σ : St) (H : Hp) (Q : Bool → Hp → Prop), Inv X pins σ H s → t σ H Q → wpAny (model X.prog X.w) X.A (isTrue e X.env (eval e X.env)) (TP X pins σ Q) X.xe s
/-- a test whatever its 'whole' is (and, or) -/
noncomputable def PW (X : Cx) (e : Expr) (t : TT) : Prop :=
  ∀ (whole : Sem Value) (pins : List (Addr × Obj)) (s : Shared) (σ : St) (H : Hp) (Q : Bool → Hp → Prop), Inv X pins σ H s → t σ H Q → wpAny (model X.prog X.w) X.A (isTrue e X.env whole) (TP X pins σ Q) X.xe s
theorem PW.pt {X : Cx} {e : Expr} {t : TT} (h : PW X e t) : PT X e t := h _
/-- an argument list (no star), from the left -/
noncomputable def PA (X : Cx) (es : List Expr) (t : TA) : Prop :=
  ∀ (pos : Pos) (pins : List (Addr × Obj)) (s : Shared) (σ : St) (H : Hp) (Q : List V → Hp → Prop), Inv X pins σ H s → t σ H Q → wpAny (model X.prog X.w) X.A (spliced (backTo pos (starEach es X.env))) (AP X pins σ Q) X.xe s
noncomputable def PS (X : Cx) (st : Stmt) (t : TS) : Prop :=
  ∀ (pins : List (Addr × Obj)) (s : Shared) (σ : St) (H : Hp) (D : Ends), Inv X pins σ H s → t D σ H → wpAny (model X.prog X.w) X.A (exec st X.env) (SP X pins D) X.xe s
noncomputable def PSs (X : Cx) (st : List Stmt) (t : TS) : Prop :=
  ∀ (pins : List (Addr × Obj)) (s : Shared) (σ : St) (H : Hp) (D : Ends), Inv X pins σ H s → t D σ H → wpAny (model X.prog X.w) X.A (execs st X.env) (SP X pins D) X.xe s
/-- weaken the end -/
theorem thn {α : Type} {t : Sem α} {Q Q' : α → Shared → Prop} {M : Model} {A : Around} {E : Value → Shared → Prop} {s : Shared} (h : wpAny M A t Q E s) (hQ : ∀ a s, Q a s → Q' a s) : wpAny M A t Q' E s := wpAny_mono h hQ fun _ _ x => x
end L2

namespace L2
open PySem PySem.Spec PyProof.Rows
section
variable {X : Cx}


/-! ### names and constants -/
noncomputable def tVar (i : Nat) : TE := fun σ H Q => ∃ v, σ[i]? = some (some v) ∧ Q v H
noncomputable def tC (v : V) : TE := fun _ H Q => Q v H
theorem pe_var {i : Nat} {x : Str} {pos : Pos} (hN : X.N[i]? = some x) (hv : Vis X.env.scope x) (hd : (x == ("__debug__" : Str)) = false := by decide) (hcd : (x == ("__classdict__" : Str)) = false := by decide) : PE X (.Name x pos) (tVar i) := by
  intro pins s σ H Q I h
  obtain ⟨v, e, h⟩ := h
  obtain ⟨m, hn, hl⟩ := I.loc
  obtain ⟨u, r, l⟩ := hl i x v hN e hv
  have fin : EP X pins σ Q u s := ⟨v, H, I, r, h⟩
  rcases l with ⟨hk, hm⟩ | ⟨hk, c, hc, hcell⟩
  · exact wpAny_Name (wpAny_loadName_local I.ok.kind hk hn hm fin) hd
  · rcases hk with hk | hk
    · exact wpAny_Name (wpAny_loadName_cell I.ok.kind hk hc hcell fin) hd
    · exact wpAny_Name (wpAny_loadName_free I.ok.kind hk hc hcell fin hcd) hd
theorem pe_int {i j pos} : PE X (.Constant (.int i) j pos) (tC (.int i)) := fun _ _ _ H _ I h => wpAny_Constant_int ⟨.int i, H, I.tok _, ⟨_, rfl⟩, h⟩
theorem pe_bl {b j pos} : PE X (.Constant (.bool b) j pos) (tC (.bl b)) := fun _ _ _ H _ I h => Constant_bool ⟨.bl b, H, I, rfl, h⟩
theorem pe_non {j pos} : PE X (.Constant .none j pos) (tC .non) := fun _ _ _ H _ I h => Constant_none ⟨.non, H, I, rfl, h⟩
theorem pe_str {x j pos} : PE X (.Constant (.str x) j pos) (tC (.str x)) := fun _ _ _ H _ I h => Calls.Constant_str ⟨.str x, H, I.tok _, ⟨_, rfl⟩, h⟩

/-- a global name of the def -/
noncomputable def Gl (X : Cx) (x : Str) : Prop := X.env.kindOf x = some .globalImplicit
theorem ld_glob {E : Value → Shared → Prop} {pins : List (Addr × Obj)} {s : Shared} {σ : St} {H : Hp} {x : Str} {u : Value} {pos : Pos} {Q : Value → Shared → Prop} (I : Inv X pins σ H s) (hg : Gl X x) (hm : X.mg x = some u) (h : Q u s)
    (hd : (x == ("__debug__" : Str)) = false := by decide) : wpAny (model X.prog X.w) X.A (eval (.Name x pos) X.env) Q E s :=
  Calls.Name_function_global I.ok.kind hg (Calls.loadGlobal_global (by rw [I.ok.glob]; exact I.mod.glob.keeps I.bk) hm h) hd
theorem ld_blt {E : Value → Shared → Prop} {pins : List (Addr × Obj)} {s : Shared} {σ : St} {H : Hp} {x : Str} {u : Value} {pos : Pos} {Q : Value → Shared → Prop} (I : Inv X pins σ H s) (hg : Gl X x) (hm : X.mg x = none) (hv : bootBuiltins x = some u) (h : Q u s)
    (hn : x ≠ "__name__" := by decide) (hd : (x == ("__debug__" : Str)) = false := by decide) : wpAny (model X.prog X.w) X.A (eval (.Name x pos) X.env) Q E s := by
  obtain ⟨mb, h1, h2⟩ := I.mod.blt
  exact Calls.Name_function_global I.ok.kind hg (Calls.loadGlobal_builtin (by rw [I.ok.glob]; exact I.mod.glob.keeps I.bk) hm (by rw [I.ok.blt]; exact h1.keeps I.bk) ((h2 x hn).trans hv) h) hd
/-- a module's constant, a class, a function, as a value -/
theorem pe_glob {x : Str} {v : V} {u : Value} {pos : Pos} (hg : Gl X x) (hm : X.mg x = some u) (r : RelV v u) (hd : (x == ("__debug__" : Str)) = false := by decide) : PE X (.Name x pos) (tC v) :=
  fun _ _ _ H _ I h => ld_glob I hg hm ⟨v, H, I, r, h⟩ hd
theorem pe_bltn {x : Str} {v : V} {u : Value} {pos : Pos} (hg : Gl X x) (hm : X.mg x = none) (hv : bootBuiltins x = some u) (r : RelV v u) (hn : x ≠ "__name__" := by decide) (hd : (x == ("__debug__" : Str)) = false := by decide) : PE X (.Name x pos) (tC v) :=
  fun _ _ _ H _ I h => ld_blt I hg hm hv ⟨v, H, I, r, h⟩ hn hd

/-! ### arithmetic -/
variable {a b : Expr} {ta tb : TE} {pos : Pos}

/-! ### comparisons -/
/-- a comparison as a value, as a test -/
noncomputable def tB (t : TE) : TT := fun σ H Q => t σ H fun x H1 => ∃ c, x = .bl c ∧ Q c H1
/-- an expression whose value is a bool, as a test -/
theorem pt_val {e : Expr} {t : TE} (h : PE X e t) (he : ∀ whole, isTrue e X.env whole = (do let v ← whole; standAt e.pos; holding [v] (truthy v)) := by intro _; rfl) : PT X e (tB t) := by
  intro pins s σ H Q I hw
  refine isTrue_plain (thn (h pins s σ H _ I hw) fun v s1 zz => ?_) (he _)
  obtain ⟨x, H1, I1, r1, q1⟩ := zz
  obtain ⟨d, rfl, q⟩ := q1
  cases r1
  exact wpAny_truthy_bool ⟨H1, I1, q⟩

/-! ### and, or, not -/
variable {tA tB' : TT} {rest : List Expr}
noncomputable def tOr (t u : TT) : TT := fun σ H Q => t σ H fun c H1 => if c = true then Q true H1 else u σ H1 Q
noncomputable def tNot (t : TT) : TT := fun σ H Q => t σ H fun c H1 => Q (!c) H1
theorem pw_or1 (ha : PT X a tA) : PW X (.BoolOp .Or [a] pos) tA := by
  intro wh pins s σ H Q I h
  refine isTrue_or (thn (ha pins s σ H Q I h) fun c s1 e => ?_)
  cases c with
  | false => exact isTrue_or_nil e
  | true => exact e
theorem pw_or (ha : PT X a tA) (hb : PW X (.BoolOp .Or (b :: rest) pos) tB') : PW X (.BoolOp .Or (a :: b :: rest) pos) (tOr tA tB') := by
  intro wh pins s σ H Q I h
  refine isTrue_or (thn (ha pins s σ H _ I h) fun c s1 zz => ?_)
  obtain ⟨H1, I1, q1⟩ := zz
  cases c with
  | true => exact ⟨H1, I1, q1⟩
  | false => exact hb wh pins s1 σ H1 Q I1 q1
theorem pt_not (ha : PT X a tA) : PT X (.UnaryOp .Not a pos) (tNot tA) := by
  intro pins s σ H Q I h
  exact isTrue_not (ha pins s σ H (fun c H1 => Q (!c) H1) I h)
/-- .. as values (bools) -/
noncomputable def tAndV (ta tb : TE) : TE := fun σ H Q => ta σ H fun x H1 => ∃ c, x = .bl c ∧ if c = true then tb σ H1 Q else Q (.bl false) H1
noncomputable def tNotV (ta : TE) : TE := fun σ H Q => ta σ H fun x H1 => ∃ c, x = .bl c ∧ Q (.bl (!c)) H1
theorem pe_one {op} {t : TE} (h : PE X a t) : PE X (.BoolOp op [a] pos) t := fun pins s σ H Q I hw => BoolOp_one (h pins s σ H Q I hw)
theorem pe_and (ha : PE X a ta) (hb : PE X (.BoolOp .And (b :: rest) pos) tb) : PE X (.BoolOp .And (a :: b :: rest) pos) (tAndV ta tb) := by
  intro pins s σ H Q I h
  refine BoolOp_and (thn (ha pins s σ H _ I h) fun v s1 zz => ?_)
  obtain ⟨x, H1, I1, r1, q1⟩ := zz
  obtain ⟨c, rfl, q1⟩ := q1
  cases r1
  refine wpAny_truthy_bool ?_
  cases c with
  | true => exact hb pins s1 σ H1 Q I1 q1
  | false => exact ⟨.bl false, H1, I1, rfl, q1⟩
theorem pe_not (ha : PE X a ta) : PE X (.UnaryOp .Not a pos) (tNotV ta) := by
  intro pins s σ H Q I h
  refine UnaryOp_ (thn (ha pins s σ H _ I h) fun v s1 zz => ?_)
  obtain ⟨x, H1, I1, r1, q1⟩ := zz
  obtain ⟨c, rfl, q1⟩ := q1
  cases r1
  exact not_of (wpAny_truthy_bool ⟨.bl (!c), H1, I1, rfl, q1⟩)
/-- a if t else b -/
noncomputable def tIf (t : TT) (ta tb : TE) : TE := fun σ H Q => t σ H fun c H1 => if c = true then ta σ H1 Q else tb σ H1 Q
theorem pe_ifExp {c : Expr} (hc : PT X c tA) (ha : PE X a ta) (hb : PE X b tb) : PE X (.IfExp c a b pos) (tIf tA ta tb) := by
  intro pins s σ H Q I h
  refine wpAny_IfExp (thn (hc pins s σ H _ I h) fun d s1 zz => ?_)
  obtain ⟨H1, I1, q1⟩ := zz
  cases d with
  | true => exact ha pins s1 σ H1 Q I1 q1
  | false => exact hb pins s1 σ H1 Q I1 q1
end
end L2

namespace L2
open PySem PySem.Spec PyProof.Rows

/-! ### a list, a tuple that is read: tracked, frozen, or an object of the module -/
noncomputable def SqL (K : PySem.W.Frag) (H : Hp) (a : Addr) (xs : List V) : Prop :=
  Rd H a (.lst xs) ∨
    ∃ (o : Obj) (its : Array Value) (n : Nat), K.lookup a = some o ∧ o.cls = .type "list" ∧ o.dict = none ∧ o.data = .seq its n ∧ its.size ≤ sizeLine ∧ Vals xs its.toList
noncomputable def SqT (K : PySem.W.Frag) (H : Hp) (a : Addr) (xs : List V) : Prop :=
  Rd H a (.tup xs) ∨
    ∃ (o : Obj) (its : Array Value) (n : Nat), K.lookup a = some o ∧ o.cls = .type "tuple" ∧ o.data = .seq its n ∧ its.size ≤ sizeLine ∧ Vals xs its.toList
noncomputable def absV : Value → Option V
  | .none => some .non
  | .bool b => some (.bl b)
  | .int i _ => some (.int i)
  | .str x _ => some (.str x)
  | .bytes b _ => some (.byt b)
  | .float b _ => some (.flt b)
  | .ref a => some (.ref a)
  | .type n => some (.ty n)
  | _ => none
theorem RelV.abs {x : V} {u : Value} (r : RelV x u) : absV u = some x := by
  cases x with
  | non => cases r; rfl
  | bl _ => cases r; rfl
  | int _ => obtain ⟨t, rfl⟩ := r; rfl
  | str _ => obtain ⟨t, rfl⟩ := r; rfl
  | byt _ => obtain ⟨t, rfl⟩ := r; rfl
  | flt _ => obtain ⟨t, rfl⟩ := r; rfl
  | ref _ => cases r; rfl
  | ty _ => cases r; rfl
theorem RelV.inj {x y : V} {u : Value} (r : RelV x u) (q : RelV y u) : x = y := Option.some.inj (r.abs.symm.trans q.abs)
theorem Vals.inj : ∀ {xs ys : List V} {us : List Value}, Vals xs us → Vals ys us → xs = ys
  | _, _, _, .nil, .nil => rfl
  | _, _, _, .cons r t, .cons r' t' => by rw [r.inj r', Vals.inj t t']
section
variable {X : Cx} {pins : List (Addr × Obj)} {σ : St} {H : Hp} {s : Shared} {a : Addr} {xs ys : List V}
theorem SqL.of {K : PySem.W.Frag} (h : H a = some (.lst xs)) : SqL K H a xs := .inl (.inl h)
theorem SqT.of {K : PySem.W.Frag} (h : H a = some (.tup xs)) : SqT K H a xs := .inl (.inl h)
theorem Inv.list (I : Inv X pins σ H s) (h : SqL X.K H a xs) : ∃ its : List Value, Vals xs its ∧ PlainL s.heap a its.toArray ∧ xs.length ≤ sizeLine := by
  rcases h with h | ⟨o, its, n, hk, hc, hd, hs, hz, r⟩
  · obtain ⟨z, its, n, r, e⟩ := h.ok I.hok
    exact ⟨its, r, ⟨_, n, e, rfl, rfl, rfl⟩, z⟩
  · refine ⟨its.toList, r, ⟨o, n, I.kIn a o hk, hc, hd, by simpa using hs⟩, ?_⟩
    have e := r.length
    simp only [Array.length_toList] at e
    omega
theorem Inv.tuple (I : Inv X pins σ H s) (h : SqT X.K H a xs) : ∃ its : List Value, Vals xs its ∧ IsTup s.heap a its.toArray ∧ xs.length ≤ sizeLine := by
  rcases h with h | ⟨o, its, n, hk, hc, hs, hz, r⟩
  · obtain ⟨z, its, r, p⟩ := h.ok I.hok
    exact ⟨its, r, p, z⟩
  · refine ⟨its.toList, r, ⟨o, I.kIn a o hk, hc, n, by simpa using hs⟩, ?_⟩
    have e := r.length
    simp only [Array.length_toList] at e
    omega
theorem Inv.list_inj (I : Inv X pins σ H s) (h : SqL X.K H a xs) (h' : SqL X.K H a ys) : xs = ys := by
  obtain ⟨its, r, ⟨o, n, e, _, _, d⟩, _⟩ := I.list h
  obtain ⟨its', r', ⟨o', n', e', _, _, d'⟩, _⟩ := I.list h'
  rw [e] at e'; cases e'
  rw [d] at d'
  injection d' with d1 _
  have : its = its' := by simpa using congrArg Array.toList d1
  subst this
  exact r.inj r'
end

/-! ### another wish about exceptions -/
noncomputable abbrev Cx.wish (X : Cx) (E : Value → Shared → Prop) : Cx := { X with xe := E }
/-- no exception leaves -/
noncomputable abbrev Cx.nox (X : Cx) : Cx := X.wish fun _ _ => False
theorem Cx.Ok.wish {X : Cx} (ok : X.Ok) (E : Value → Shared → Prop) : (X.wish E).Ok :=
  ⟨ok.mod, ok.kind, ok.glob, ok.blt, ok.above, ok.inj, ok.has, ok.cab, ok.hd, ok.frames, ok.stk, ok.exf, ok.bs, ok.bsz, ok.noex, ok.exfs, ok.funs, ok.frf⟩
theorem Cx.Ok.unwish {X : Cx} {E : Value → Shared → Prop} (ok : (X.wish E).Ok) : X.Ok :=
  ⟨ok.mod, ok.kind, ok.glob, ok.blt, ok.above, ok.inj, ok.has, ok.cab, ok.hd, ok.frames, ok.stk, ok.exf, ok.bs, ok.bsz, ok.noex, ok.exfs, ok.funs, ok.frf⟩
section
variable {X : Cx} {pins : List (Addr × Obj)} {σ : St} {H : Hp} {s : Shared} {E : Value → Shared → Prop}
theorem Inv.wish (I : Inv X pins σ H s) (E : Value → Shared → Prop) : Inv (X.wish E) pins σ H s := ⟨I.ok.wish E, I.os, I.bare, I.base, I.loc, I.cell, I.free, I.freeC, I.pin, I.hok, I.len⟩
theorem Inv.unwish (I : Inv (X.wish E) pins σ H s) : Inv X pins σ H s := ⟨I.ok.unwish, I.os, I.bare, I.base, I.loc, I.cell, I.free, I.freeC, I.pin, I.hok, I.len⟩
theorem SP.unwish {D : Ends} {f : Flow} {s' : Shared} (h : SP (X.wish E) pins D f s') : SP X pins D f s' := by
  cases f with
  | next => obtain ⟨σ', H', I, q⟩ := h; exact ⟨σ', H', I.unwish, q⟩
  | brk => obtain ⟨σ', H', I, q⟩ := h; exact ⟨σ', H', I.unwish, q⟩
  | cont => obtain ⟨σ', H', I, q⟩ := h; exact ⟨σ', H', I.unwish, q⟩
  | ret u => obtain ⟨v, σ', H', I, r, q⟩ := h; exact ⟨v, σ', H', I.unwish, r, q⟩
theorem PSs.nox {st : List Stmt} {t : TS} (h : PSs X.nox st t) : PSs X st t := fun pins s σ H D I hw =>
  wpAny_mono (h pins s σ H D (I.wish _) hw) (fun _ _ q => q.unwish) fun _ _ z => False.elim z
end

/-! ### blocks and small statements -/
section
variable {X : Cx} {st : Stmt} {rest : List Stmt} {t u : TS} {e : Expr} {te : TE} {pos : Pos}
noncomputable def tNext : TS := fun D σ H => D.nx σ H
noncomputable def tSeq (t u : TS) : TS := fun D σ H => t { D with nx := u D } σ H
theorem pss_nil : PSs X [] tNext := fun _ _ σ H _ I h => wpAny_execs_nil ⟨σ, H, I, h⟩
theorem pss_cons (h1 : PS X st t) (h2 : PSs X rest u) : PSs X (st :: rest) (tSeq t u) := by
  intro pins s σ H D I h
  refine wpAny_execs_cons (thn (h1 pins s σ H { D with nx := u D } I h) fun f s1 q => ?_)
  cases f with
  | next =>
    obtain ⟨σ', H', I', q⟩ := q
    exact h2 pins s1 σ' H' D I' q
  | ret v => exact q
  | brk => exact q
  | cont => exact q
theorem pss_one (h1 : PS X st t) : PSs X [st] t := by
  intro pins s σ H D I h
  refine wpAny_execs_cons (thn (h1 pins s σ H D I h) fun f s1 q => ?_)
  cases f with
  | next => exact wpAny_execs_nil q
  | ret v => exact q
  | brk => exact q
  | cont => exact q
/-- in a def's body nothing is shown -/
theorem Inv.quiet {pins : List (Addr × Obj)} {σ : St} {H : Hp} {s : Shared} (I : Inv X pins σ H s) : interactive X.env = false := by simp [interactive, I.ok.kind]
/-- an expression whose value is dropped -/
noncomputable def tDrop (te : TE) : TS := fun D σ H => te σ H fun _ H1 => D.nx σ H1
theorem ps_expr (he : PE X e te) (hs : swapsWith e none pos.line X.env = pure false := by rfl) : PS X (.Expr e pos) (tDrop te) := by
  intro pins s σ H D I h
  exact wpAny_Expr_any (thn (he pins s σ H _ I h) fun v s1 ⟨x, H1, I1, r1, q1⟩ => ⟨σ, H1, I1, q1⟩) I.quiet hs
noncomputable def tRet (te : TE) : TS := fun D σ H => te σ H D.rt
theorem ps_ret (he : PE X e te) : PS X (.Return (some e) pos) (tRet te) := by
  intro pins s σ H D I h
  exact wpAny_Return_some (thn (he pins s σ H _ I h) fun v s1 ⟨x, H1, I1, r1, q1⟩ => ⟨x, σ, H1, I1, r1, q1⟩)
noncomputable def tIfS (c : TT) (t u : TS) : TS := fun D σ H => c σ H fun b H1 => if b = true then t D σ H1 else u D σ H1
theorem ps_if {c : Expr} {a b : List Stmt} {tc : TT} (hc : PT X c tc) (ha : PSs X a t) (hb : PSs X b u) : PS X (.If c a b pos) (tIfS tc t u) := by
  intro pins s σ H D I h
  refine wpAny_If (thn (hc pins s σ H _ I h) fun d s1 zz => ?_)
  obtain ⟨H1, I1, q1⟩ := zz
  cases d with
  | true => exact ha pins s1 σ H1 D I1 q1
  | false => exact hb pins s1 σ H1 D I1 q1
/-- code that the proof never comes to -/
noncomputable def tNever : TS := fun _ _ _ => False
theorem ps_never : PS X st tNever := fun _ _ _ _ _ _ h => h.elim
end

/-! ### targets -/
noncomputable abbrev TG := V → St → Hp → (St → Hp → Prop) → Prop
noncomputable abbrev TGs := List V → St → Hp → (St → Hp → Prop) → Prop
noncomputable def PG (X : Cx) (target : Expr) (t : TG) : Prop :=
  ∀ (pins : List (Addr × Obj)) (s : Shared) (σ : St) (H : Hp) (v : V) (u : Value) (Q : St → Hp → Prop), Inv X pins σ H s → RelV v u → t v σ H Q →
    wpAny (model X.prog X.w) X.A (assign target X.env u) (fun _ s' => ∃ σ' H', Inv X pins σ' H' s' ∧ Q σ' H') X.xe s
/-- several targets, one after another -/
noncomputable def PGs (X : Cx) (ts : List Expr) (t : TGs) : Prop :=
  ∀ (pins : List (Addr × Obj)) (s : Shared) (σ : St) (H : Hp) (vs : List V) (us : List Value) (Q : St → Hp → Prop), Inv X pins σ H s → Vals vs us → t vs σ H Q →
    wpAny (model X.prog X.w) X.A (assignInOrder ((assignEach ts X.env).map (·.2)) us) (fun _ s' => ∃ σ' H', Inv X pins σ' H' s' ∧ Q σ' H') X.xe s
/-- o[i] = v, by values -/
noncomputable abbrev TSet := V → V → V → Hp → (Hp → Prop) → Prop
noncomputable def PSet (X : Cx) (t : TSet) : Prop :=
  ∀ (pins : List (Addr × Obj)) (s : Shared) (σ : St) (H : Hp) (o i v : V) (ov iv u : Value) (Q : Hp → Prop), Inv X pins σ H s → RelV o ov → RelV i iv → RelV v u → t o i v H Q →
    wpAny (model X.prog X.w) X.A (setItem ov iv u) (fun _ s' => ∃ H', Inv X pins σ H' s' ∧ Q H') X.xe s
section
variable {X : Cx} {pos : Pos}
noncomputable def gName (i : Nat) : TG := fun v σ H Q => Q (σ.set i (some v)) H
theorem pg_name {i : Nat} {x : Str} (hN : X.N.Nodup) (hi : X.N[i]? = some x) (hx : Loc X.env.scope x) (hf : X.fn x = true ∨ X.env.scope.names.lookup x = some .local := by first | exact .inl rfl | exact .inr rfl | assumption) : PG X (.Name x pos) (gName i) := by
  intro pins s σ H v u Q I r h
  exact wpAny_assign_Name (store_ok I hN hi hx r (fun s' I' => ⟨_, H, I', h⟩) hf)
noncomputable def gNil : TGs := fun vs σ H Q => vs = [] ∧ Q σ H
noncomputable def gCons (t : TG) (u : TGs) : TGs := fun vs σ H Q => ∃ v r, vs = v :: r ∧ t v σ H fun σ' H' => u r σ' H' Q
theorem pgs_nil : PGs X [] gNil := by
  intro pins s σ H vs us Q I r h
  obtain ⟨e, h⟩ := h
  subst e
  cases r
  exact assignInOrder_nil ⟨σ, H, I, h⟩
theorem pgs_cons {e : Expr} {es : List Expr} {t : TG} {u : TGs} (h1 : PG X e t) (h2 : PGs X es u)
    (hs : (assignEach (e :: es) X.env).map (·.2) = assign e X.env :: (assignEach es X.env).map (·.2) := by rfl) : PGs X (e :: es) (gCons t u) := by
  intro pins s σ H vs us Q I r h
  obtain ⟨v, vr, e1, h⟩ := h
  subst e1
  cases r with
  | cons r rr =>
    rw [hs]
    refine assignInOrder_cons (thn (h1 pins s σ H _ _ _ I r h) fun _ s1 zz => ?_)
    obtain ⟨σ1, H1, I1, q1⟩ := zz
    exact h2 pins s1 σ1 H1 _ _ Q I1 rr q1
/-- (a, b, ..) = a tuple of that length -/
noncomputable def gTup (K : PySem.W.Frag) (n : Nat) (t : TGs) : TG := fun v σ H Q => ∃ a xs, v = .ref a ∧ SqT K H a xs ∧ xs.length = n ∧ t xs σ H Q
theorem pg_tup {es : List Expr} {k : Nat} {t : TGs} {n : Nat} (hc : X.calm = true) (h : PGs X es t)
    (hn : (assignEach es X.env).length = n := by rfl) (hst : (assignEach es X.env).findIdx? (·.1) = none := by rfl) : PG X (.Tuple es k pos) (gTup X.K n t) := by
  intro pins s σ H v u Q I r hw
  obtain ⟨a, xs, e1, hq, hl, hw⟩ := hw
  subst e1
  cases r
  obtain ⟨its, rv, ht, hz⟩ := I.tuple hq
  refine assign_Tuple_tuple (I.ok.hd hc) ht (by simp [hn, ← hl, rv.length]) hst fun h' hx => ?_
  have I1 : Inv X pins σ H { s with heap := h' } := I.kept (t' := s.toks) fun b o e => hx b o (Nat.ne_of_lt (Heap.lt_size e)) e
  exact h pins _ σ H xs _ Q I1 (by simpa using rv) hw
/-- o[i] = .. -/
noncomputable def gSub (to ti : TE) (t : TSet) : TG := fun v σ H Q => to σ H fun o H1 => ti σ H1 fun i H2 => t o i v H2 fun H3 => Q σ H3
theorem pg_sub {o i : Expr} {to ti : TE} {t : TSet} (ho : PE X o to) (hi : PE X i ti) (hs : PSet X t)
    (ha : ∀ v, assign (.Subscript o i pos) X.env v = (do
      let ov ← holding [v] (eval o X.env)
      let iv ← holding [v, ov] (eval i X.env)
      standAt pos
      holding [v, ov, iv] (setItem ov iv v)
      release [v, ov, iv] []) := by intro _; rfl) : PG X (.Subscript o i pos) (gSub to ti t) := by
  intro pins s σ H v u Q I r h
  rw [ha]
  refine wpAny_bind (wpAny_holding (thn (ho pins s σ H _ I h) fun ov s1 zz => ?_))
  obtain ⟨x, H1, I1, r1, q1⟩ := zz
  refine wpAny_bind (wpAny_holding (thn (hi pins s1 σ H1 _ I1 q1) fun iv s2 zz => ?_))
  obtain ⟨y, H2, I2, r2, q2⟩ := zz
  refine wpAny_bind (wpAny_standAt (wpAny_bind (wpAny_holding (thn (hs pins s2 σ H2 x y v ov iv u _ I2 r1 r2 r q2) fun _ s3 zz => ?_))))
  obtain ⟨H3, I3, q3⟩ := zz
  exact wpAny_release ⟨σ, H3, I3, q3⟩
/-- target = value -/
noncomputable def tAsg (te : TE) (g : TG) : TS := fun D σ H => te σ H fun x H1 => g x σ H1 D.nx
theorem ps_asg {tg e : Expr} {te : TE} {g : TG} (he : PE X e te) (hg : PG X tg g) (hs : swapsWithSole [tg] e pos.line X.env = pure false := by rfl) (hw : swappedStores [tg] e X.env = pure none := by rfl)
    (h1 : (assignEach [tg] X.env).map (·.2) = [assign tg X.env] := by rfl) : PS X (.Assign [tg] e pos) (tAsg te g) := by
  intro pins s σ H D I h
  refine wpAny_Assign_stores (thn (he pins s σ H _ I h) fun v s1 zz => ?_) hs hw
  obtain ⟨x, H1, I1, r1, q1⟩ := zz
  rw [h1]
  exact thn (hg pins s1 σ H1 x v _ I1 r1 q1) fun _ s2 q => q
/-- name = value -/
theorem ps_set {i : Nat} {x : Str} {e : Expr} {te : TE} {pos' : Pos} (hN : X.N.Nodup) (hi : X.N[i]? = some x) (hx : Loc X.env.scope x) (he : PE X e te) (hs : swapsWith e (some (.Name x pos')) pos.line X.env = pure false := by rfl) (hf : X.fn x = true ∨ X.env.scope.names.lookup x = some .local := by first | exact .inl rfl | exact .inr rfl | assumption) :
    PS X (.Assign [.Name x pos'] e pos) (tAsg te (gName i)) := by
  intro pins s σ H D I h
  refine wpAny_Assign_Name (thn (he pins s σ H _ I h) fun v s1 zz => ?_) hs
  obtain ⟨y, H1, I1, r1, q1⟩ := zz
  exact store_ok I1 hN hi hx r1 (fun s2 I2 => ⟨_, H1, I2, q1⟩) hf
end

/-! ### while -/
section
variable {X : Cx} {pos : Pos}
end

/-! ### what a loop or a comprehension walks -/
/-- at turn i: it yields x (the heap may grow), or it stops -/
structure It where
  go : Nat → Hp → Prop
  yld : Nat → Hp → V → Hp → Prop
  stop : Nat → Hp → Prop
/-- the iterator's own objects may turn: they are not the frame's, not pinned, younger than the entry (or a comprehension's own) -/
noncomputable def FpOk (X : Cx) (pins : List (Addr × Obj)) (H : Hp) (b : Addr) : Prop :=
  H b = none ∧ b ≠ X.env.locals ∧ b ∉ X.fs ∧ (b ∈ X.ex ∨ X.s₀.heap.objs.size ≤ b) ∧ (∀ x c, X.env.cells.lookup x = some c → c ≠ b) ∧ ∀ p ∈ X.pn ++ pins, p.1 ≠ b
theorem Inv.fpOk {X : Cx} {pins : List (Addr × Obj)} {σ : St} {H H' : Hp} {s : Shared} {b : Addr} (I : Inv X pins σ H s) (hb : s.heap.objs.size ≤ b) (hn : H' b = none) : FpOk X pins H' b := by
  refine ⟨hn, Nat.ne_of_gt (Nat.lt_of_lt_of_le I.lt hb), I.nofs hb, .inr (Nat.le_trans I.sz hb), fun x c e z => ?_, fun p hp z => ?_⟩
  · obtain ⟨v, q⟩ := I.cell x c e
    exact absurd (Nat.lt_of_lt_of_le q.lt (by rw [z]; exact hb)) (Nat.lt_irrefl _)
  · exact absurd (Nat.lt_of_lt_of_le (Heap.lt_size (I.pin p hp).1) (by rw [z]; exact hb)) (Nat.lt_irrefl _)
structure Turn (P : Program) (w : World) (K : PySem.W.Frag) (tg : Expr) (J : It) (fp : List Addr) (it : Addr) (tn : Nat → Heap → Prop) : Prop where
  mem : it ∈ fp
  obj : ∀ i h, tn i h → ∀ b ∈ fp, ∃ o, h.get? b = some o ∧ ∀ v, o.data ≠ .cell v
  keep : ∀ i h h', tn i h → (∀ b ∈ fp, ∀ o, h.get? b = some o → h'.get? b = some o) → tn i h'
  item : ∀ (X : Cx), X.prog = P → X.w = w → X.K = K → X.calm = true → ∀ (i : Nat) (pins : List (Addr × Obj)) (s : Shared) (σ : St) (H : Hp) (E : Value → Shared → Prop), Inv X pins σ H s → (∀ b ∈ fp, FpOk X pins H b) → tn i s.heap → J.go i H →
    wpAny (model P w) X.A (pyNext (.ref it)) (fun r s1 => ∃ u, r = some u ∧
      wpAny (model P w) X.A (letOwnedTupleGo tg (.ref it) u) (fun _ s2 => ∃ x H', Inv X pins σ H' s2 ∧ RelV x u ∧ J.yld i H x H' ∧ tn (i + 1) s2.heap ∧ ∀ b ∈ fp, H' b = none) E s1) E s
  done : ∀ (X : Cx), X.prog = P → X.w = w → X.K = K → X.calm = true → ∀ (i : Nat) (pins : List (Addr × Obj)) (s : Shared) (σ : St) (H : Hp) (E : Value → Shared → Prop), Inv X pins σ H s → (∀ b ∈ fp, FpOk X pins H b) → tn i s.heap → J.stop i H →
    wpAny (model P w) X.A (pyNext (.ref it)) (fun r s1 => r = none ∧ Inv X pins σ H s1) E s
  self : ∀ (A : Around) (i : Nat) (s : Shared) (Q : Value → Shared → Prop) (E : Value → Shared → Prop), tn i s.heap → Q (.ref it) s → wpAny (model P w) A (pyIter (.ref it)) Q E s
noncomputable abbrev TI := St → Hp → (It → Hp → Prop) → Prop
/-- an iterator has come -/
noncomputable def PIE (X : Cx) (pins : List (Addr × Obj)) (σ : St) (tg : Expr) (R : It → Hp → Prop) (itv : Value) (s2 : Shared) : Prop :=
  ∃ (it : Addr) (fp : List Addr) (tn : Nat → Heap → Prop) (J : It) (H' : Hp), itv = .ref it ∧ Inv X pins σ H' s2 ∧ Turn X.prog X.w X.K tg J fp it tn ∧ tn 0 s2.heap ∧ (∀ b ∈ fp, FpOk X pins H' b) ∧ R J H'
noncomputable def PI (X : Cx) (tg iter : Expr) (wi : TI) : Prop :=
  ∀ (pins : List (Addr × Obj)) (s : Shared) (σ : St) (H : Hp) (R : It → Hp → Prop), Inv X pins σ H s → wi σ H R →
    wpAny (model X.prog X.w) X.A (eval iter X.env) (fun v s1 => wpAny (model X.prog X.w) X.A (pyIter v) (PIE X pins σ tg R) X.xe s1) X.xe s

/-- the step ahead of the store is nothing for an iterator that keeps no tuple -/
theorem go_of {M : Model} {A : Around} {E : Value → Shared → Prop} {s : Shared} {tg : Expr} {it : Addr} {u : Value} {o : Obj} {n : String} {vs : Array Value} {Q : Unit → Shared → Prop} (ho : s.heap.get? it = some o) (hc : o.cls = .type n) (hd : o.data = .fields vs)
    (hn : ["enumerate", "zip", "dict_itemiterator", "dict_reverseitemiterator", "odict_iterator", "itertools.zip_longest", "itertools.pairwise"].contains n = false) (hQ : Q () s) : wpAny M A (letOwnedTupleGo tg (.ref it) u) Q E s := by
  unfold letOwnedTupleGo
  cases tg <;> first
    | exact wpAny_pure hQ
    | (cases u <;> first
        | exact wpAny_pure hQ
        | (refine wpAny_bind (wpAny_load ho ?_)
           rw [hc, hd]
           show wpAny M A (if (["enumerate", "zip", "dict_itemiterator", "dict_reverseitemiterator", "odict_iterator", "itertools.zip_longest", "itertools.pairwise"].contains n && vs[0]? == some (rawInt _)) = true then _ else _) Q E s
           rw [if_neg (by intro h; rw [hn, Bool.false_and] at h; cases h)]
           exact wpAny_pure hQ))

/-- the list at a, as it stands at each turn (a loop may append to it) -/
noncomputable def Itl (K : PySem.W.Frag) (a : Addr) : It :=
  ⟨fun i H => ∃ xs x, SqL K H a xs ∧ xs[i]? = some x, fun i H x H' => H' = H ∧ ∀ xs, SqL K H a xs → xs[i]? = some x, fun i H => ∃ xs, SqL K H a xs ∧ xs.length ≤ i⟩
/-- lo, lo + 1, .. (n of them) -/
noncomputable def Itr (lo : Int) (n : Nat) : It := ⟨fun i _ => i < n, fun i H x H' => H' = H ∧ x = .int (lo + i), fun i _ => n ≤ i⟩
theorem turn_list {P : Program} {w : World} {K : PySem.W.Frag} {tg : Expr} (a it : Addr) : Turn P w K tg (Itl K a) [it] it (fun i h => h.IsListIter it a i) where
  mem := by simp
  obj := fun i h st b hb => by
    have e : b = it := by simpa using hb
    subst e
    obtain ⟨o, e, c, d⟩ := st
    exact ⟨o, e, fun v z => by rw [d] at z; cases z⟩
  keep := fun i h h' st k => st.at fun o e => k it (by simp) o e
  item := by
    intro X hP hw hK hc i pins s σ H E I hf st hg
    subst hP hw hK
    obtain ⟨xs, x, hq, hx⟩ := hg
    obtain ⟨its, rv, p, hz⟩ := I.list hq
    obtain ⟨u, hu, ru⟩ := rv.get hx
    obtain ⟨f0, f1, f2, f3, f4, f5⟩ := hf it (by simp)
    refine wpAny_pyNext_list_item st p.isList (x := u) (by simpa using hu) fun h' st' sb => ?_
    have I1 : Inv X pins σ H { s with heap := h' } := I.turned (t' := s.toks) (fun b o hb e => (sb.2 b hb).trans e) f0 f1 f3 f4 f5
    obtain ⟨o, e, c, d⟩ := id st'
    exact ⟨u, rfl, go_of (s := { s with heap := h' }) e c d (by decide) ⟨x, H, I1, ru, ⟨rfl, fun ys hy => by rw [I.list_inj hy hq]; exact hx⟩, st', fun b hb => (hf b hb).1⟩⟩
  done := by
    intro X hP hw hK hc i pins s σ H E I hf st hg
    subst hP hw hK
    obtain ⟨xs, hq, hx⟩ := hg
    obtain ⟨its, rv, p, hz⟩ := I.list hq
    obtain ⟨f0, f1, f2, f3, f4, f5⟩ := hf it (by simp)
    have hl := rv.length
    exact wpAny_pyNext_list_end (I.ok.hd hc) st p.isList (by simp; omega) fun h' eb => ⟨rfl, I.turned (t' := s.toks) (fun b o hb e => eb b o hb e) f0 f1 f3 f4 f5⟩
  self := fun _ _ _ _ _ st h => wpAny_pyIter_listiter st h
theorem turn_range {P : Program} {w : World} {K : PySem.W.Frag} {tg : Expr} (it : Addr) (lo : Int) (n : Nat) : Turn P w K tg (Itr lo n) [it] it (fun i h => IsRangeIter h it (lo + (i : Nat) * 1) ((n : Int) - (i : Nat)) 1) where
  mem := by simp
  obj := fun i h st b hb => by
    have e : b = it := by simpa using hb
    subst e
    exact ⟨_, st, fun v z => by
      have z' : Data.fields _ = Data.cell v := z
      cases z'⟩
  keep := fun i h h' st k => k it (by simp) _ st
  item := by
    intro X hP hw hK hc i pins s σ H E I hf st hg
    subst hP hw hK
    obtain ⟨f0, f1, f2, f3, f4, f5⟩ := hf it (by simp)
    have W := Walks.range (prog := X.prog) (w := X.w) (I.ok.hd hc) it lo 1 n
    refine W.item i s _ _ hg st fun v h' tk hv st' kk => ?_
    obtain ⟨t, rfl⟩ := hv
    have I1 : Inv X pins σ H { s with heap := h', toks := tk } := I.turned (fun b o hb e => kk b o (by simpa using hb) e) f0 f1 f3 f4 f5
    refine ⟨_, rfl, go_of (s := { s with heap := h', toks := tk }) (n := "range_iterator") st' rfl rfl (by decide) ⟨.int (lo + i), H, I1, ⟨t, ?_⟩, ⟨rfl, rfl⟩, st', fun b hb => (hf b hb).1⟩⟩
    rw [Int.mul_one]
  done := by
    intro X hP hw hK hc i pins s σ H E I hf st hg
    subst hP hw hK
    obtain ⟨f0, f1, f2, f3, f4, f5⟩ := hf it (by simp)
    exact wpAny_pyNext_range_end (I.ok.hd hc) st (by have : n ≤ i := hg; omega) fun h' eb => ⟨rfl, I.turned (t' := s.toks) (fun b o hb e => eb b o hb e) f0 f1 f3 f4 f5⟩
  self := fun _ _ _ _ _ st h => wpAny_pyIter_rangeiter st h
end L2

namespace L2
open PySem PySem.Spec PyProof.Rows
section
variable {X : Cx} {tg : Expr}
noncomputable def iList (K : PySem.W.Frag) (tl : TE) : TI := fun σ H R => tl σ H fun x H1 => ∃ a, x = .ref a ∧ (∃ xs, SqL K H1 a xs) ∧ R (Itl K a) H1
theorem pi_list {l : Expr} {tl : TE} (hl : PE X l tl) : PI X tg l (iList X.K tl) := by
  intro pins s σ H R I h
  refine thn (hl pins s σ H _ I h) fun v s1 zz => ?_
  obtain ⟨x, H1, I1, r1, q1⟩ := zz
  obtain ⟨a, e, ⟨xs, hq⟩, q⟩ := q1
  subst e
  cases r1
  obtain ⟨its, rv, p, hz⟩ := I1.list hq
  refine wpAny_pyIter_list p.isList ?_
  refine ⟨s1.heap.objs.size, [s1.heap.objs.size], _, _, H1, rfl, I1.kept (t' := s1.toks) fun b o e => Heap.get?_push_of_some _ e, turn_list a _, ⟨_, Heap.get?_push_size _ rfl, rfl, rfl⟩, fun b hb => ?_, q⟩
  have e : b = s1.heap.objs.size := by simpa using hb
  subst e
  exact I1.fpOk (Nat.le_refl _) (I1.hok.fresh (Nat.le_refl _))
/-- a range object just made, walked -/
theorem range_it {pins : List (Addr × Obj)} {σ : St} {H : Hp} {s : Shared} {R : It → Hp → Prop} {E : Value → Shared → Prop} {lo hi : Int} {t u v : Tok} {tk : Nat} (I : Inv X pins σ H s) (h1 : -(2 ^ 62) ≤ lo) (h2 : lo < 2 ^ 62) (h3 : -(2 ^ 62) ≤ hi) (h4 : hi < 2 ^ 62)
    (q : R (Itr lo (hi - lo).toNat) H) : wpAny (model X.prog X.w) X.A (pyIter (.ref s.heap.objs.size)) (PIE X pins σ tg R) E { s with heap := s.heap.push { cls := .type "range", data := .fields #[.int lo t, .int hi u, .int 1 v] }, toks := tk } := by
  refine wpAny_pyIter_range (IsRange.new ..) (small_one h1 h2 h3 h4) ?_
  have I1 : Inv X pins σ H { s with heap := s.heap.push { cls := .type "range", data := .fields #[.int lo t, .int hi u, .int 1 v] }, toks := tk } := I.kept fun b o e => Heap.get?_push_of_some _ e
  refine ⟨(s.heap.push { cls := .type "range", data := .fields #[.int lo t, .int hi u, .int 1 v] }).objs.size, [(s.heap.push { cls := .type "range", data := .fields #[.int lo t, .int hi u, .int 1 v] }).objs.size], _, _, H, rfl,
    I1.kept (t' := tk) fun b o e => Heap.get?_push_of_some _ e, turn_range _ lo (hi - lo).toNat, ?_, fun b hb => ?_, q⟩
  · have e1 : lo + ((0 : Nat) : Int) * 1 = lo := by simp
    have e2 : (((hi - lo).toNat : Nat) : Int) - ((0 : Nat) : Int) = Builtin.Range.rangeSize lo hi 1 := by rw [rangeSize_one]; split <;> omega
    show IsRangeIter _ _ (lo + ((0 : Nat) : Int) * 1) ((((hi - lo).toNat : Nat) : Int) - ((0 : Nat) : Int)) 1
    rw [e1, e2]
    exact Heap.get?_push_size _ rfl
  · have e : b = (s.heap.push { cls := .type "range", data := .fields #[.int lo t, .int hi u, .int 1 v] }).objs.size := by simpa using hb
    subst e
    exact I1.fpOk (Nat.le_refl _) (I1.hok.fresh (Nat.le_refl _))
noncomputable def iRng1 (ta : TA) : TI := fun σ H R => ta σ H fun vs H1 => ∃ j : Int, vs = [.int j] ∧ -(2 ^ 62) ≤ j ∧ j < 2 ^ 62 ∧ R (Itr 0 j.toNat) H1
theorem pi_range1 {a : Expr} {ta : TA} {p pos : Pos} (hg : Gl X "range") (hm : X.mg "range" = none) (ha : PA X [a] ta) (hs : starEach [a] X.env = [(false, eval a X.env)] := by rfl) : PI X tg (.Call (.Name "range" p) [a] [] pos) (iRng1 ta) := by
  intro pins s σ H R I h
  refine Call_ (ld_blt I hg hm boot_range (PyProof.Rows.callWith_type1 (thn (ha pos pins s σ H _ I h) fun us s1 zz => ?_) hs rfl))
  obtain ⟨vs, H1, I1, r1, q1⟩ := zz
  obtain ⟨j, e, q1, q2, q⟩ := q1
  subst e
  cases r1 with
  | cons r rr =>
    cases rr
    obtain ⟨t, rfl⟩ := r
    exact call_range_1 (range_it I1 (by omega) (by omega) q1 q2 (by simpa using q))

/-! ### for -/
/-- W: the invariant by the turn and a measure; N: what the body is to reach -/
noncomputable def tFor (wi : TI) (g : TG) (tb : TS) : TS := fun D σ H => wi σ H fun J H1 => ∃ W : Nat → Nat → St → Hp → Prop, (∃ m, W 0 m σ H1) ∧ ∀ i m σ H, W i m σ H →
  (J.stop i H ∧ D.nx σ H) ∨ (J.go i H ∧ ∃ N : St → Hp → Prop, (∀ σ' H', N σ' H' → ∃ m', m' < m ∧ W (i + 1) m' σ' H') ∧ ∀ x H', J.yld i H x H' → g x σ H' fun σ2 H2 => tb { D with nx := N, ct := N, bk := D.nx } σ2 H2)
/-- the records at fp as they stand -/
noncomputable def pinsAt (fp : List Addr) (h : Heap) : List (Addr × Obj) := fp.filterMap fun b => (h.get? b).map fun o => (b, o)
theorem mem_pinsAt {fp : List Addr} {h : Heap} {b : Addr} {o : Obj} (hb : b ∈ fp) (e : h.get? b = some o) : (b, o) ∈ pinsAt fp h := List.mem_filterMap.mpr ⟨b, hb, by rw [e]; rfl⟩
theorem of_pinsAt {fp : List Addr} {h : Heap} {p : Addr × Obj} (hp : p ∈ pinsAt fp h) : p.1 ∈ fp ∧ h.get? p.1 = some p.2 := by
  obtain ⟨b, hb, e⟩ := List.mem_filterMap.mp hp
  cases q : h.get? b with
  | none => rw [q] at e; cases e
  | some o =>
    rw [q] at e
    have e' : (b, o) = p := Option.some.inj e
    subst e'
    exact ⟨hb, q⟩
theorem Inv.pinned {pins : List (Addr × Obj)} {σ : St} {H : Hp} {s : Shared} {fp : List Addr} (I : Inv X pins σ H s) (hf : ∀ b ∈ fp, FpOk X pins H b) (ho : ∀ b ∈ fp, ∃ o, s.heap.get? b = some o ∧ ∀ v, o.data ≠ .cell v) : Inv X (pins ++ pinsAt fp s.heap) σ H s :=
  I.pins_of fun p hp => (List.mem_append.mp hp).elim (fun z => I.pin p (List.mem_append_right _ z)) fun z => by
    obtain ⟨hb, e⟩ := of_pinsAt z
    obtain ⟨f0, f1, f2, _⟩ := hf p.1 hb
    obtain ⟨o, e', d⟩ := ho p.1 hb
    rw [e] at e'; cases e'
    exact ⟨e, f0, f1, f2, d⟩
theorem Inv.unpinned {pins pl : List (Addr × Obj)} {σ : St} {H : Hp} {s : Shared} (I : Inv X (pins ++ pl) σ H s) : Inv X pins σ H s := I.pins_of fun p hp => I.pin p (List.mem_append_right _ (List.mem_append_left _ hp))
theorem ps_for {iter : Expr} {body : List Stmt} {wi : TI} {g : TG} {tb : TS} {pos : Pos} (hp : PassesOwn (model X.prog X.w) X.A X.env X.xe) (hc : X.calm = true) (hi : PI X tg iter wi) (hg : PG X tg g) (hb : PSs X body tb)
    (hs : ∀ x, foldedSetIterable iter X.env x = pure x := by intro _; rfl) : PS X (.For tg iter body [] pos) (tFor wi g tb) := by
  intro pins s σ H D I h
  refine wpAny_For (thn (hi pins s σ H _ I h) fun v s1 h1 => thn h1 fun itv s2 h2 => ?_) hs
  obtain ⟨it, fp, tn, J, H2, e, I2, T, st2, f2, W, ⟨m0, w0⟩, turn⟩ := h2
  subst e
  -- what stays true of the iterator's objects through the loop
  have stat : ∀ {H' : Hp}, (∀ b ∈ fp, H' b = none) → ∀ b ∈ fp, FpOk X pins H' b := fun hn b hb => ⟨hn b hb, (f2 b hb).2⟩
  refine codeAny_forLoop_any (fun n s' => ∃ i σ' H', Inv X pins σ' H' s' ∧ tn i s'.heap ∧ (∀ b ∈ fp, H' b = none) ∧ W i n σ' H') ?_ m0 ⟨0, σ, H2, I2, st2, fun b hb => (f2 b hb).1, w0⟩
  rintro n s3 ⟨i, σ3, H3, I3, st3, fr3, w3⟩
  rcases turn i n σ3 H3 w3 with ⟨stop, qn⟩ | ⟨go, N, hN, step⟩
  · refine wpAny_passesOwn hp (thn (T.done X rfl rfl rfl hc i pins s3 σ3 H3 X.xe I3 (stat fr3) st3 stop) fun r s4 zz => ?_)
    obtain ⟨hr, I4⟩ := zz
    subst hr
    exact wpAny_execs_nil ⟨σ3, H3, I4, qn⟩
  · refine wpAny_passesOwn hp (thn (T.item X rfl rfl rfl hc i pins s3 σ3 H3 X.xe I3 (stat fr3) st3 go) fun r s4 zz => ?_)
    obtain ⟨u, hr, h4⟩ := zz
    subst hr
    refine wpAny_passesOwn hp (thn h4 fun _ s5 zz => ?_)
    obtain ⟨x, H5, I5, r5, y5, st5, fr5⟩ := zz
    have I5' := I5.pinned (stat fr5) (T.obj _ _ st5)
    refine wpAny_passesOwn hp (thn (hg _ s5 σ3 H5 x u _ I5' r5 (step x H5 y5)) fun _ s6 zz => ?_)
    obtain ⟨σ6, H6, I6, q6⟩ := zz
    refine wpAny_passesOwn hp (thn (hb _ s6 σ6 H6 _ I6 q6) fun f s7 q7 => ?_)
    have again : ∀ {σ7 : St} {H7 : Hp}, Inv X (pins ++ pinsAt fp s5.heap) σ7 H7 s7 → N σ7 H7 → ∃ m, m < n ∧ ∃ i σ' H', Inv X pins σ' H' s7 ∧ tn i s7.heap ∧ (∀ b ∈ fp, H' b = none) ∧ W i m σ' H' := fun {σ7 H7} I7 n7 => by
      obtain ⟨m', hm, w7⟩ := hN σ7 H7 n7
      refine ⟨m', hm, i + 1, σ7, H7, I7.unpinned, T.keep _ _ _ st5 fun b hb o e => (I7.pin (b, o) (List.mem_append_right _ (List.mem_append_right _ (mem_pinsAt hb e)))).1, fun b hb => ?_, w7⟩
      obtain ⟨o, e, d⟩ := T.obj _ _ st5 b hb
      exact (I7.pin (b, o) (List.mem_append_right _ (List.mem_append_right _ (mem_pinsAt hb e)))).2.1
    cases f with
    | next => obtain ⟨σ7, H7, I7, n7⟩ := q7; exact again I7 n7
    | cont => obtain ⟨σ7, H7, I7, n7⟩ := q7; exact again I7 n7
    | brk => obtain ⟨σ7, H7, I7, q7⟩ := q7; exact ⟨σ7, H7, I7.unpinned, q7⟩
    | ret v => obtain ⟨x7, σ7, H7, I7, r7, q7⟩ := q7; exact ⟨x7, σ7, H7, I7.unpinned, r7, q7⟩
end

/-! ### the forms one uses -/
/-- over a list that the body leaves as it is -/
theorem for_list {K : PySem.W.Frag} {a : Addr} {xs : List V} {g : TG} {tb : TS} {D : Ends} {σ : St} {H : Hp} (Pv : Nat → St → Hp → Prop) (h0 : Pv 0 σ H) (hl : ∀ i σ H, i ≤ xs.length → Pv i σ H → SqL K H a xs)
    (hs : ∀ i x σ H, xs[i]? = some x → Pv i σ H → g x σ H fun σ2 H2 => tb { D with nx := Pv (i + 1), ct := Pv (i + 1), bk := D.nx } σ2 H2) (hd : ∀ σ H, Pv xs.length σ H → D.nx σ H) :
    ∃ W : Nat → Nat → St → Hp → Prop, (∃ m, W 0 m σ H) ∧ ∀ i m σ H, W i m σ H →
      ((Itl K a).stop i H ∧ D.nx σ H) ∨ ((Itl K a).go i H ∧ ∃ N : St → Hp → Prop, (∀ σ' H', N σ' H' → ∃ m', m' < m ∧ W (i + 1) m' σ' H') ∧ ∀ x H', (Itl K a).yld i H x H' → g x σ H' fun σ2 H2 => tb { D with nx := N, ct := N, bk := D.nx } σ2 H2) := by
  refine ⟨fun i m σ H => m = xs.length - i ∧ i ≤ xs.length ∧ Pv i σ H, ⟨xs.length, by simp, Nat.zero_le _, h0⟩, ?_⟩
  rintro i m σ H ⟨rfl, hi, p⟩
  have q := hl i σ H hi p
  by_cases hlt : i < xs.length
  · refine .inr ⟨⟨xs, xs[i], q, by simp [hlt]⟩, Pv (i + 1), fun σ' H' p' => ⟨xs.length - (i + 1), by omega, rfl, hlt, p'⟩, fun x H' y => ?_⟩
    obtain ⟨e, y⟩ := y
    subst e
    exact hs i x σ _ (y xs q) p
  · have e : i = xs.length := by omega
    subst e
    exact .inl ⟨⟨xs, q, Nat.le_refl _⟩, hd σ H p⟩
theorem for_range {lo : Int} {n : Nat} {g : TG} {tb : TS} {D : Ends} {σ : St} {H : Hp} (Pv : Nat → St → Hp → Prop) (h0 : Pv 0 σ H)
    (hs : ∀ i σ H, i < n → Pv i σ H → g (.int (lo + i)) σ H fun σ2 H2 => tb { D with nx := Pv (i + 1), ct := Pv (i + 1), bk := D.nx } σ2 H2) (hd : ∀ σ H, Pv n σ H → D.nx σ H) :
    ∃ W : Nat → Nat → St → Hp → Prop, (∃ m, W 0 m σ H) ∧ ∀ i m σ H, W i m σ H →
      ((Itr lo n).stop i H ∧ D.nx σ H) ∨ ((Itr lo n).go i H ∧ ∃ N : St → Hp → Prop, (∀ σ' H', N σ' H' → ∃ m', m' < m ∧ W (i + 1) m' σ' H') ∧ ∀ x H', (Itr lo n).yld i H x H' → g x σ H' fun σ2 H2 => tb { D with nx := N, ct := N, bk := D.nx } σ2 H2) := by
  refine ⟨fun i m σ H => m = n - i ∧ i ≤ n ∧ Pv i σ H, ⟨n, by simp, Nat.zero_le _, h0⟩, ?_⟩
  rintro i m σ H ⟨rfl, hi, p⟩
  by_cases hlt : i < n
  · refine .inr ⟨hlt, Pv (i + 1), fun σ' H' p' => ⟨n - (i + 1), by omega, rfl, hlt, p'⟩, fun x H' y => ?_⟩
    obtain ⟨e, y⟩ := y
    subst e y
    exact hs i σ _ hlt p
  · have e : i = n := by omega
    subst e
    exact .inl ⟨Nat.le_refl _, hd σ H p⟩
end L2

namespace L2
open PySem PySem.Spec PyProof.Rows

noncomputable abbrev R2 := V → V → Hp → VK → Prop
/-- a two-place operation on values: f is binaryOp op, inplaceOp op or compareOp op -/
noncomputable def OpR (X : Cx) (f : Value → Value → Sem Value) (r : R2) : Prop :=
  ∀ (pins : List (Addr × Obj)) (s : Shared) (σ : St) (H : Hp) (x y : V) (v u : Value) (Q : VK), Inv X pins σ H s → RelV x v → RelV y u → r x y H Q →
    wpAny (model X.prog X.w) X.A (f v u) (EP X pins σ Q) X.xe s
/-- a call of a value that is known (a builtin, a type) with values -/
noncomputable def CallR (X : Cx) (f : Value) (r : List V → Hp → VK → Prop) : Prop :=
  ∀ (pins : List (Addr × Obj)) (s : Shared) (σ : St) (H : Hp) (xs : List V) (us : List Value) (Q : VK), Inv X pins σ H s → Vals xs us → r xs H Q →
    wpAny (model X.prog X.w) X.A (call f us) (EP X pins σ Q) X.xe s

noncomputable def tOp (r : R2) (ta tb : TE) : TE := fun σ H Q => ta σ H fun x H1 => tb σ H1 fun y H2 => r x y H2 Q
/-- ints in, under C, and a value out -/
noncomputable def rI (C : Int → Int → Prop) (g : Int → Int → V) : R2 := fun x y H Q => ∃ i j, x = .int i ∧ y = .int j ∧ C i j ∧ Q (g i j) H
noncomputable def rI0 (g : Int → Int → V) : R2 := fun x y H Q => ∃ i j, x = .int i ∧ y = .int j ∧ Q (g i j) H

section
variable {X : Cx} {a b c : Expr} {ta tb tc : TE} {pos : Pos}

theorem binT (ha : PE X a ta) (hb : PE X b tb) {pins : List (Addr × Obj)} {s : Shared} {σ : St} {H : Hp} {R : V → V → Hp → Prop} (I : Inv X pins σ H s)
    (h : ta σ H fun x H1 => tb σ H1 fun y H2 => R x y H2) {Q : Value → Shared → Prop} {f : Value → Value → Sem Value}
    (hf : ∀ v u s2 x y H2, Inv X pins σ H2 s2 → RelV x v → RelV y u → R x y H2 → wpAny (model X.prog X.w) X.A (f v u) Q X.xe s2) :
    wpAny (model X.prog X.w) X.A (eval a X.env) (fun v s₁ => wpAny (model X.prog X.w) X.A (eval b X.env) (fun u s₂ => wpAny (model X.prog X.w) X.A (f v u) Q X.xe s₂) X.xe s₁) X.xe s := by
  refine thn (ha pins s σ H _ I h) fun v s1 zz => ?_
  obtain ⟨x, H1, I1, r1, q1⟩ := zz
  refine thn (hb pins s1 σ H1 _ I1 q1) fun u s2 zz => ?_
  obtain ⟨y, H2, I2, r2, q2⟩ := zz
  exact hf v u s2 x y H2 I2 r1 r2 q2

theorem pe_op {op : Operator} {r : R2} (ho : OpR X (binaryOp op) r) (ha : PE X a ta) (hb : PE X b tb) : PE X (.BinOp a op b pos) (tOp r ta tb) := by
  intro pins s σ H Q I h
  exact wpAny_BinOp (binT ha hb I h fun v u s2 x y H2 I2 rx ry q => ho pins s2 σ H2 x y v u Q I2 rx ry q)

/-! ### ints -/
theorem opI {f : Value → Value → Sem Value} {C : Int → Int → Prop} {g : Int → Int → Int}
    (rule : ∀ (i j : Int) (t u : Tok) (s : Shared) (Q : Value → Shared → Prop) (E : Value → Shared → Prop), C i j → Q (.int (g i j) s.toks) { s with toks := s.toks + 1 } → wpAny (model X.prog X.w) X.A (f (.int i t) (.int j u)) Q E s) :
    OpR X f (rI C fun i j => .int (g i j)) := by
  intro pins s σ H x y v u Q I rx ry h
  obtain ⟨i, j, rfl, rfl, hc, q⟩ := h
  obtain ⟨t, rfl⟩ := rx
  obtain ⟨t', rfl⟩ := ry
  exact rule i j t t' s _ _ hc ⟨.int (g i j), H, I.tok _, ⟨_, rfl⟩, q⟩
theorem opI0 {f : Value → Value → Sem Value} {g : Int → Int → Int}
    (rule : ∀ (i j : Int) (t u : Tok) (s : Shared) (Q : Value → Shared → Prop) (E : Value → Shared → Prop), Q (.int (g i j) s.toks) { s with toks := s.toks + 1 } → wpAny (model X.prog X.w) X.A (f (.int i t) (.int j u)) Q E s) :
    OpR X f (rI0 fun i j => .int (g i j)) := by
  intro pins s σ H x y v u Q I rx ry h
  obtain ⟨i, j, rfl, rfl, q⟩ := h
  obtain ⟨t, rfl⟩ := rx
  obtain ⟨t', rfl⟩ := ry
  exact rule i j t t' s _ _ ⟨.int (g i j), H, I.tok _, ⟨_, rfl⟩, q⟩
theorem opB0 {f : Value → Value → Sem Value} {g : Int → Int → Bool}
    (rule : ∀ (i j : Int) (t u : Tok) (s : Shared) (Q : Value → Shared → Prop) (E : Value → Shared → Prop), Q (.bool (g i j)) s → wpAny (model X.prog X.w) X.A (f (.int i t) (.int j u)) Q E s) :
    OpR X f (rI0 fun i j => .bl (g i j)) := by
  intro pins s σ H x y v u Q I rx ry h
  obtain ⟨i, j, rfl, rfl, q⟩ := h
  obtain ⟨t, rfl⟩ := rx
  obtain ⟨t', rfl⟩ := ry
  exact rule i j t t' s _ _ ⟨.bl (g i j), H, I, rfl, q⟩

noncomputable def CDiv (i j : Int) : Prop := 0 < j ∧ j < 1073741824
noncomputable def CPow (i j : Int) : Prop := 0 ≤ j ∧ j ≤ 1000000 ∧ i.natAbs < 2 ^ 64

theorem op_add : OpR X (binaryOp .Add) (rI0 fun i j => .int (i + j)) := opI0 fun _ _ _ _ _ _ _ q => add_int q
theorem op_sub : OpR X (binaryOp .Sub) (rI0 fun i j => .int (i - j)) := opI0 fun _ _ _ _ _ _ _ q => sub_int q
/-- // by a positive divisor -/
theorem op_fdiv : OpR X (binaryOp .FloorDiv) (rI CDiv fun i j => .int (i / j)) := opI fun i j _ _ _ _ _ hc q => by
  have h1 : (0 : Int) < j := hc.1
  have h2 : j < 1073741824 := hc.2
  exact floordiv_int (by omega) (by rw [Int.fdiv_eq_ediv_of_nonneg i (by omega)]; exact q) (.inl (PyProof.noPylong_small (by omega)))
/-- % by a positive divisor of any size -/
theorem op_mod : OpR X (binaryOp .Mod) (rI (fun _ j => 0 < j) fun i j => .int (i % j)) := opI fun i j _ _ _ _ _ hc q => by
  have h1 : (0 : Int) < j := hc
  exact mod_int' (by omega) (by rw [Int.fmod_eq_emod_of_nonneg i (by omega)]; exact q)
theorem op_pow : OpR X (binaryOp .Pow) (rI CPow fun i j => .int (i ^ j.toNat)) := opI fun _ _ _ _ _ _ _ hc q => pow_int_small hc.1 hc.2.1 hc.2.2 q
theorem op_shl : OpR X (binaryOp .LShift) (rI CPow fun i j => .int (i * 2 ^ j.toNat)) := opI fun _ _ _ _ _ _ _ hc q => lshift_int_small hc.1 hc.2.1 hc.2.2 q
theorem op_and : OpR X (binaryOp .BitAnd) (rI0 fun i j => .int (Builtin.bitAnd i j)) := opI0 fun _ _ _ _ _ _ _ q => and_int q
theorem op_or : OpR X (binaryOp .BitOr) (rI0 fun i j => .int (Builtin.bitOr i j)) := opI0 fun _ _ _ _ _ _ _ q => or_int q



/-! ### bools among ints: n += (a < b) -/
end

/-! ### comparisons -/
/-- the scalars that == tells apart as data does -/
noncomputable def scal : V → V → Bool
  | .non, .non => true | .non, .int _ => true | .int _, .non => true | .non, .bl _ => true | .bl _, .non => true | .non, .str _ => true | .str _, .non => true
  | .int _, .int _ => true | .bl _, .bl _ => true | .str _, .str _ => true | .byt _, .byt _ => true
  | .int _, .str _ => true | .str _, .int _ => true | .bl _, .str _ => true | .str _, .bl _ => true
  | _, _ => false
noncomputable def rEq : R2 := fun x y H Q => scal x y = true ∧ Q (.bl (decide (x = y))) H

theorem dec_int {i j : Int} : decide (V.int i = V.int j) = (i == j) := by
  rw [Bool.eq_iff_iff]
  simp
theorem dec_bl {i j : Bool} : decide (V.bl i = V.bl j) = (i == j) := by
  rw [Bool.eq_iff_iff]
  simp
theorem dec_str {i j : Str} : decide (V.str i = V.str j) = (i == j) := by
  rw [Bool.eq_iff_iff]
  simp
theorem dec_byt {i j : Array UInt8} : decide (V.byt i = V.byt j) = (i.toList == j.toList) := by
  rw [Bool.eq_iff_iff]
  cases i
  cases j
  simp

section
variable {X : Cx} {a b c : Expr} {ta tb tc : TE} {pos : Pos}
theorem fin_bl {pins : List (Addr × Obj)} {σ : St} {H : Hp} {s : Shared} {Q : VK} {k k' : Bool} (I : Inv X pins σ H s) (q : Q (.bl k) H) (e : k = k') : EP X pins σ Q (.bool k') s := by
  subst e
  exact ⟨.bl k, H, I, rfl, q⟩
theorem op_eq : OpR X (compareOp .Eq) rEq := by
  intro pins s σ H x y v u Q I rx ry h
  obtain ⟨hs, q⟩ := h
  cases x with
  | non =>
    cases rx
    cases y with
    | non => cases ry; exact PySem.EqNone.eq_none_none (fin_bl I q (by simp))
    | bl j => cases ry; exact PySem.EqNone.eq_none_bool (fin_bl I q (by simp))
    | int j => obtain ⟨t', rfl⟩ := ry; exact PySem.EqNone.eq_none_int (fin_bl I q (by simp))
    | str j => obtain ⟨t', rfl⟩ := ry; exact PySem.EqNone.eq_none_str (fin_bl I q (by simp))
    | _ => exact absurd (show false = true from hs) Bool.false_ne_true
  | bl i =>
    cases rx
    cases y with
    | non => cases ry; exact PySem.EqNone.eq_bool_none (fin_bl I q (by simp))
    | bl j => cases ry; exact eq_bool (fin_bl I q dec_bl)
    | str j => obtain ⟨t', rfl⟩ := ry; exact PySem.EqMixed.eq_bool_str (fin_bl I q (by simp))
    | _ => exact absurd (show false = true from hs) Bool.false_ne_true
  | int i =>
    obtain ⟨t, rfl⟩ := rx
    cases y with
    | non => cases ry; exact PySem.EqNone.eq_int_none (fin_bl I q (by simp))
    | int j => obtain ⟨t', rfl⟩ := ry; exact eq_int (fin_bl I q dec_int)
    | str j => obtain ⟨t', rfl⟩ := ry; exact PySem.EqMixed.eq_int_str (fin_bl I q (by simp))
    | _ => exact absurd (show false = true from hs) Bool.false_ne_true
  | str i =>
    obtain ⟨t, rfl⟩ := rx
    cases y with
    | non => cases ry; exact PySem.EqNone.eq_str_none (fin_bl I q (by simp))
    | bl j => cases ry; exact PySem.EqMixed.eq_str_bool (fin_bl I q (by simp))
    | int j => obtain ⟨t', rfl⟩ := ry; exact PySem.EqMixed.eq_str_int (fin_bl I q (by simp))
    | str j => obtain ⟨t', rfl⟩ := ry; exact eq_str (fin_bl I q dec_str)
    | _ => exact absurd (show false = true from hs) Bool.false_ne_true
  | byt i =>
    obtain ⟨t, rfl⟩ := rx
    cases y with
    | byt j => obtain ⟨t', rfl⟩ := ry; exact PySem.W.eq_bytes (fin_bl I q dec_byt)
    | _ => exact absurd (show false = true from hs) Bool.false_ne_true
  | _ => cases y <;> exact absurd (show false = true from hs) Bool.false_ne_true

theorem op_lt : OpR X (compareOp .Lt) (rI0 fun i j => .bl (decide (i < j))) := opB0 fun _ _ _ _ _ _ _ q => lt_int q
theorem op_le : OpR X (compareOp .LtE) (rI0 fun i j => .bl (decide (i ≤ j))) := opB0 fun _ _ _ _ _ _ _ q => le_int q
theorem op_gt : OpR X (compareOp .Gt) (rI0 fun i j => .bl (decide (j < i))) := opB0 fun _ _ _ _ _ _ _ q => gt_int q
theorem op_ge : OpR X (compareOp .GtE) (rI0 fun i j => .bl (decide (j ≤ i))) := opB0 fun _ _ _ _ _ _ _ q => ge_int q




theorem nomark (b : Expr) {op : CmpOp} (h : op ≠ .In := by decide) (h2 : op ≠ .NotIn := by decide) : behindInMarks op b = false := by
  have e1 : (op == CmpOp.In) = false := by cases op <;> first | rfl | exact absurd rfl h
  have e2 : (op == CmpOp.NotIn) = false := by cases op <;> first | rfl | exact absurd rfl h2
  cases b <;> simp [behindInMarks, e1, e2]
/-- a comparison as a value; hm: nomark b, or (for in, not in) by with_unfolding_all rfl -/
theorem pe_cmpR {op : CmpOp} {r : R2} (ho : OpR X (compareOp op) r) (ha : PE X a ta) (hb : PE X b tb) (hm : behindInMarks op b = false) : PE X (.Compare a [op] [b] pos) (tOp r ta tb) := by
  intro pins s σ H Q I h
  exact wpAny_Compare1 (binT ha hb I h fun v u s2 x y H2 I2 rx ry q => ho pins s2 σ H2 x y v u Q I2 rx ry q) hm
/-- a reading of a value as a test -/
noncomputable def tTest (t : TE) : TT := fun σ H Q => t σ H fun x H' => ∃ k, x = .bl k ∧ Q k H'
theorem pt_cmpR {op : CmpOp} {r : R2} (ho : OpR X (compareOp op) r) (ha : PE X a ta) (hb : PE X b tb) (hm : behindInMarks op b = false) : PT X (.Compare a [op] [b] pos) (tTest (tOp r ta tb)) := by
  intro pins s σ H Q I h
  refine wpAny_isTrue_Compare1 (thn (ha pins s σ H _ I h) fun v s1 ⟨x, H1, I1, r1, q1⟩ => thn (hb pins s1 σ H1 _ I1 q1) fun u s2 ⟨y, H2, I2, r2, q2⟩ =>
    thn (ho pins s2 σ H2 x y v u _ I2 r1 r2 q2) fun c s3 zz => ?_) hm
  obtain ⟨z, H3, I3, r3, k, e, q3⟩ := zz
  subst e
  cases r3
  exact wpAny_truthy_bool ⟨H3, I3, q3⟩
/-- a op1 b op2 c -/
noncomputable def tChain (r r' : R2) (ta tb tc : TE) : TE := fun σ H Q => ta σ H fun x H1 => tb σ H1 fun y H2 => r x y H2 fun z H3 => ∃ k, z = .bl k ∧
  (if k = true then tc σ H3 fun w' H4 => r' y w' H4 Q else Q (.bl false) H3)
theorem pe_chain {op op' : CmpOp} {r r' : R2} (ho : OpR X (compareOp op) r) (ho' : OpR X (compareOp op') r') (ha : PE X a ta) (hb : PE X b tb) (hc : PE X c tc)
    (hm : lastMarks [op, op'] [b, c] = false := by with_unfolding_all rfl) : PE X (.Compare a [op, op'] [b, c] pos) (tChain r r' ta tb tc) := by
  intro pins s σ H Q I h
  refine Compare_chain (thn (ha pins s σ H _ I h) fun v s1 ⟨x, H1, I1, r1, q1⟩ => chain_link (thn (hb pins s1 σ H1 _ I1 q1) fun u s2 ⟨y, H2, I2, r2, q2⟩ =>
    thn (ho pins s2 σ H2 x y v u _ I2 r1 r2 q2) fun d s3 zz => ?_)) hm
  obtain ⟨z, H3, I3, r3, k, e, q3⟩ := zz
  subst e
  cases r3
  refine wpAny_truthy_bool ?_
  cases k with
  | false => exact ite_ff ⟨.bl false, H3, I3, rfl, q3⟩
  | true => exact ite_tt (chain_last (thn (hc pins s3 σ H3 _ I3 q3) fun w' s4 ⟨z', H4, I4, r4, q4⟩ => ho' pins s4 σ H4 y z' u w' Q I4 r2 r4 q4))

/-! ### truth -/
theorem line63 : (sizeLine : Nat) < 2 ^ 63 := by rw [sizeLine_eq]; decide

/-! ### strs and bytes -/


/-! ### scalar builtins, by CallR -/
theorem vals1 {x : V} {us : List Value} (r : Vals [x] us) : ∃ u, us = [u] ∧ RelV x u := by
  cases r with
  | cons r1 r2 => cases r2; exact ⟨_, rfl, r1⟩
theorem vals2 {x y : V} {us : List Value} (r : Vals [x, y] us) : ∃ u w', us = [u, w'] ∧ RelV x u ∧ RelV y w' := by
  cases r with
  | cons r1 r2 =>
    cases r2 with
    | cons r3 r4 => cases r4; exact ⟨_, _, rfl, r1, r3⟩
theorem call_max2 (hc : X.calm = true) : CallR X (.builtin "max") (fun xs H Q => ∃ i j, xs = [.int i, .int j] ∧ Q (.int (if j > i then j else i)) H) := by
  intro pins s σ H xs us Q I r h
  obtain ⟨i, j, rfl, q⟩ := h
  obtain ⟨u, w', rfl, ⟨t, rfl⟩, ⟨t', rfl⟩⟩ := vals2 r
  refine max_two_ints (I.ok.hd hc) fun h' tk k => ⟨_, H, I.kept k, ?_, q⟩
  by_cases hj : j > i
  · rw [if_pos hj, if_pos hj]; exact ⟨_, rfl⟩
  · rw [if_neg hj, if_neg hj]; exact ⟨_, rfl⟩
theorem call_min2 (hc : X.calm = true) : CallR X (.builtin "min") (fun xs H Q => ∃ i j, xs = [.int i, .int j] ∧ Q (.int (if j < i then j else i)) H) := by
  intro pins s σ H xs us Q I r h
  obtain ⟨i, j, rfl, q⟩ := h
  obtain ⟨u, w', rfl, ⟨t, rfl⟩, ⟨t', rfl⟩⟩ := vals2 r
  refine min_two_ints (I.ok.hd hc) fun h' tk k => ⟨_, H, I.kept k, ?_, q⟩
  by_cases hj : j < i
  · rw [if_pos hj, if_pos hj]; exact ⟨_, rfl⟩
  · rw [if_neg hj, if_neg hj]; exact ⟨_, rfl⟩
end
end L2

namespace L2
open PySem PySem.Spec PyProof.Rows

/-! ### an instance, its attributes a map -/
structure ObjM (h : Heap) (x dx C : Addr) (mA : Str → Option Value) : Prop where
  obj : h.get? x = some (PySem.W.instObj C dx)
  ns : h.Ns1 dx mA
  ne : dx ≠ x

theorem lookIn_ns {h : Heap} {dx : Addr} {mA : Str → Option Value} (n : h.Ns1 dx mA) : ∃ od, h.get? dx = some od ∧ ∀ name, PySem.W.lookIn name od = some (mA name) := by
  obtain ⟨o, es, ep, ho, hd, hk, _, hm⟩ := n
  refine ⟨o, ho, fun name => ?_⟩
  have e := hm name
  unfold nsFind findBy at e
  rw [← Array.find?_toList] at e
  unfold PySem.W.lookIn
  rw [hd]
  dsimp only
  split
  · rename_i y q
    rw [q] at e
    exact congrArg some e
  · rename_i q
    rw [q] at e
    have a : es.toList.any (·.refKey) = false := by
      rw [List.any_eq_false]
      intro y hy
      obtain ⟨z, t, hkey⟩ := hk y (Array.mem_toList_iff.mp hy)
      simp [DictEntry.refKey, hkey]
    have a' : ¬ es.toList.any (·.refKey) = true := by rw [a]; exact Bool.false_ne_true
    rw [if_neg a']
    exact congrArg some e

theorem ObjM.look {h : Heap} {x dx C : Addr} {mA : Str → Option Value} (I : ObjM h x dx C mA) : ∃ od, PySem.W.InstAt h x (PySem.W.instObj C dx) C (some od) ∧ ∀ name, PySem.W.lookIn name od = some (mA name) :=
  let ⟨od, ho, hl⟩ := lookIn_ns I.ns
  ⟨od, ⟨I.obj, rfl, rfl, ho⟩, hl⟩

section
variable {prog : Program} {w : World} {A : Around} {E : Value → Shared → Prop} {s : Shared} {K : PySem.W.Frag} {x dx C f : Addr} {mA : Str → Option Value} {name : Str} {v : Value}

theorem get_map {expr : Bool} {Q : Value → Shared → Prop} (X : K.In s.heap) (I : ObjM s.heap x dx C mA) (hg : PySem.W.plainGet K C name = true) (hh : PySem.W.hasDictIn K C = true)
    (ha : PySem.W.findIn K (.ref C) name = some none) (hv : mA name = some v) (hv' : PySem.W.handedIn v = true) (h : Q v { s with toks := s.toks + 1 }) :
    wpAny (model prog w) A (getAttr (.ref x) name expr) Q E s := by
  obtain ⟨od, J, hl⟩ := I.look
  exact PySem.W.get_value X J (PySem.W.plainGet_of hg).1 (PySem.W.findObj_own hh ha rfl (by rw [hl, hv])) hv' h


theorem get_meth {pl : Sem Bool} {Q : Value × List Value → Shared → Prop} (X : K.In s.heap) (I : ObjM s.heap x dx C mA) (hg : PySem.W.plainGet K C name = true)
    (hf : PySem.W.findIn K (.ref C) name = some (some (.ref f))) (ht : PySem.W.isFn K (.ref f) = true) (hv : mA name = none) (h : Q (.ref f, [.ref x]) s) :
    wpAny (model prog w) A (getMethod (.ref x) name pl) Q E s := by
  obtain ⟨od, J, hl⟩ := I.look
  exact PySem.W.method_fn X J (PySem.W.plainGet_of hg).1 (PySem.W.plainGet_of hg).2 hf (beq_iff_eq.mp ht) (by show (PySem.W.lookIn name od).map (·.isSome) = some false; rw [hl, hv]; rfl) h

theorem set_map {ns : List Str} {Q : Unit → Shared → Prop} (X : K.In s.heap) (I : ObjM s.heap x dx C mA)
    (hs : PySem.W.findIn K (.ref C) "__setattr__" = some (some (.builtin "object.__setattr__"))) (hp : PySem.W.plainOver K C = true) (ht : PySem.W.takerIn K C name = some none) (hh : PySem.W.hasDictIn K C = true)
    (hw : PySem.Within mA ns) (hsz : ns.length ≤ sizeLine)
    (h : ∀ h', ObjM h' x dx C (fun y => if y = name then some v else mA y) → Heap.SameBut dx s.heap h' → Q () { s with heap := h', toks := s.toks + 2 }) :
    wpAny (model prog w) A (setAttr (.ref x) name v) Q E s := by
  obtain ⟨od, J, hl⟩ := I.look
  refine PySem.W.set_plain X J hs (PySem.W.osa_open (s := { s with toks := s.toks + 1 }) (r := none) X J hp ht fun b => ?_)
  obtain ⟨cd, hc, hd'⟩ := PySem.W.any_some hh
  have hx : s.heap.get? x = some ⟨.ref C, some dx, .plain, #[]⟩ := I.obj
  refine wpAny_bind (wpAny_pure (wpAny_bind (wpAny_bind (wpAny_loadPart hx (wpAny_bind (PySem.W.Looks.here (s := { s with toks := s.toks + 1 }) (PySem.W.looks_clsIn X hc) ?_))))))
  rw [hd']
  refine wpAny_pure (a := some dx) (wpAny_bind (wpAny_pure (wpAny_bind ?_)))
  refine wpAny_nsSet1 (s := { s with toks := s.toks + 1 }) I.ns fun h' hn2 hs2 => ?_
  obtain ⟨oD, esD, epD, hoD, hdD, hcD⟩ := hn2.count (PySem.Within.cons name v hw)
  refine wpAny_bind (wpAny_lookBehind hoD (by rw [hdD]; exact pastItsLine_dict (Nat.le_trans hcD (by rw [List.length_cons]; omega))) ?_)
  exact wpAny_pure (h _ ⟨(hs2.2 _ (Ne.symm I.ne)).trans I.obj, hn2, I.ne⟩ hs2)

/-- C(..): the dict at the heap's end, the instance behind it; then its __init__ -/
theorem make_map {R : Result → Shared → Prop} {vs : List Value} {kw : List (Str × Value)} (X : K.In s.heap) (hm : PySem.W.makesIn K C = true)
    (hi : PySem.W.findIn K (.ref C) "__init__" = some (some (.ref f))) (hf : PySem.W.typeIn K (.ref f) = some (.type "function"))
    (h : codeAny (model prog w) (A.under (.builtin "type.__call__" ⟨.ref C :: vs, kw⟩)) (.call (.ref f) ⟨.ref (s.heap.objs.size + 1) :: vs, kw⟩) (PySem.W.InitBack (s.heap.objs.size + 1) R)
      { s with heap := (s.heap.push PySem.W.emptyDict).push (PySem.W.instObj C s.heap.objs.size) }) :
    codeAny (model prog w) A (.call (.ref C) ⟨vs, kw⟩) R s := by
  obtain ⟨hh, g, d, t, os⟩ := s
  exact PySem.W.make_core (PySem.W.makes_of X hm) (PySem.W.looks_findIn X hi) (fun self => PySem.W.bind_fn X self hf) (.inl rfl) h
/-- C() where there is no __init__ but object's -/
theorem make_map0 {R : Result → Shared → Prop} (X : K.In s.heap) (hm : PySem.W.makesIn K C = true)
    (hi : PySem.W.findIn K (.ref C) "__init__" = some (some (.builtin "object.__init__")))
    (hb : ∀ self, PySem.W.Looks (model prog w) s.heap (bindSpecial (.builtin "object.__init__") self) (.builtin "object.__init__", [self]))
    (h : codeAny (model prog w) (A.under (.builtin "type.__call__" ⟨[.ref C], []⟩)) (.call (.builtin "object.__init__") ⟨[.ref (s.heap.objs.size + 1)], []⟩) (PySem.W.InitBack (s.heap.objs.size + 1) R)
      { s with heap := (s.heap.push PySem.W.emptyDict).push (PySem.W.instObj C s.heap.objs.size) }) :
    codeAny (model prog w) A (.call (.ref C) ⟨[], []⟩) R s := by
  obtain ⟨hh, g, d, t, os⟩ := s
  exact PySem.W.make_core (PySem.W.makes_of X hm) (PySem.W.looks_findIn X hi) hb (.inr ⟨rfl, rfl⟩) h
end

/-! ### the attributes as a list of pairs -/
noncomputable def putF (f : Str) (v : V) : List (Str × V) → List (Str × V)
  | [] => [(f, v)]
  | (g, x) :: r => if g = f then (g, v) :: r else (g, x) :: putF f v r
theorem lookup_putF (f g : Str) (v : V) : ∀ fs : List (Str × V), (putF f v fs).lookup g = if g = f then some v else fs.lookup g
  | [] => by
    show List.lookup g [(f, v)] = _
    by_cases h : g = f
    · have hb : (g == f) = true := beq_iff_eq.mpr h
      simp only [List.lookup, hb, if_pos h]
    · have hb : (g == f) = false := beq_eq_false_iff_ne.mpr h
      simp only [List.lookup, hb, if_neg h]
  | (k, x) :: r => by
    have ih := lookup_putF f g v r
    rw [show putF f v ((k, x) :: r) = (if k = f then (k, v) :: r else (k, x) :: putF f v r) from rfl]
    by_cases hk : k = f
    · rw [if_pos hk]
      by_cases h : g = k
      · have hb : (g == k) = true := beq_iff_eq.mpr h
        simp only [List.lookup, hb, if_pos (h.trans hk)]
      · have hb : (g == k) = false := beq_eq_false_iff_ne.mpr h
        simp only [List.lookup, hb, if_neg (fun e : g = f => h (e.trans hk.symm))]
    · rw [if_neg hk]
      by_cases h : g = k
      · have hb : (g == k) = true := beq_iff_eq.mpr h
        simp only [List.lookup, hb, if_neg (fun e : g = f => hk (h.symm.trans e))]
      · have hb : (g == k) = false := beq_eq_false_iff_ne.mpr h
        simp only [List.lookup, hb]
        exact ih
theorem keys_putF (f : Str) (v : V) : ∀ fs : List (Str × V), f ∈ (putF f v fs).map (·.1) ∧ ∀ g, g ∈ fs.map (·.1) → g ∈ (putF f v fs).map (·.1)
  | [] => ⟨by simp [putF], fun g h => by simp at h⟩
  | (k, x) :: r => by
    obtain ⟨i1, i2⟩ := keys_putF f v r
    rw [show putF f v ((k, x) :: r) = (if k = f then (k, v) :: r else (k, x) :: putF f v r) from rfl]
    by_cases hk : k = f
    · rw [if_pos hk]
      subst hk
      exact ⟨by simp, fun g h => by simpa using h⟩
    · rw [if_neg hk]
      refine ⟨?_, fun g h => ?_⟩
      · rw [List.map_cons]
        exact List.mem_cons_of_mem _ i1
      · rw [List.map_cons] at h ⊢
        rcases List.mem_cons.mp h with e | e
        · exact List.mem_cons.mpr (.inl e)
        · exact List.mem_cons_of_mem _ (i2 g e)
theorem length_putF (f : Str) (v : V) : ∀ fs : List (Str × V), (putF f v fs).length ≤ fs.length + 1
  | [] => by simp [putF]
  | (k, x) :: r => by
    have ih := length_putF f v r
    rw [show putF f v ((k, x) :: r) = (if k = f then (k, v) :: r else (k, x) :: putF f v r) from rfl]
    by_cases hk : k = f
    · rw [if_pos hk, List.length_cons, List.length_cons]; omega
    · rw [if_neg hk, List.length_cons, List.length_cons]; omega

theorem RelO.some_of {v : V} {o : Option Value} (r : RelO (some v) o) : ∃ u, o = some u ∧ RelV v u := by
  cases o with
  | none => exact (show False from r).elim
  | some u => exact ⟨u, rfl, r⟩
theorem RelO.none_of {o : Option Value} (r : RelO none o) : o = none := by
  cases o with
  | none => rfl
  | some u => exact (show False from r).elim
theorem handed_of {v : V} {u : Value} (r : RelV v u) : PySem.W.handedIn u = true := by
  cases v with
  | non => cases (show u = Value.none from r); rfl
  | bl b => cases (show u = Value.bool b from r); rfl
  | int i => obtain ⟨t, e⟩ := (show ∃ t, u = Value.int i t from r); cases e; rfl
  | str x => obtain ⟨t, e⟩ := (show ∃ t, u = Value.str x t from r); cases e; rfl
  | byt b => obtain ⟨t, e⟩ := (show ∃ t, u = Value.bytes b t from r); cases e; rfl
  | flt b => obtain ⟨t, e⟩ := (show ∃ t, u = Value.float b t from r); cases e; rfl
  | ref a => cases (show u = Value.ref a from r); rfl
  | ty n => cases (show u = Value.type n from r); rfl

section
variable {P : Program} {w : World} {H H' : Hp} {h h' : Heap} {a C dx : Addr} {fs fs' : List (Str × V)}
theorem ins_get (hok : HOk P w H h) (e : H a = some (.ins C dx fs)) : ∃ mA, ObjM h a dx C mA ∧ (∀ f, RelO (fs.lookup f) (mA f)) ∧ PySem.Within mA (fs.map (·.1)) ∧ fs.length ≤ 1000 ∧ H dx = some (.own a) := by
  obtain ⟨d, z, ne, ob, mA, n, r, q⟩ := (show ObjOk P w H h a (.ins C dx fs) from hok a _ e)
  exact ⟨mA, ⟨ob, n, ne⟩, r, q, z, d⟩
end

/-! ### what of the text a class must have -/
structure Cls (K : PySem.W.Frag) (C : Addr) : Prop where
  pg : PySem.W.plainGet K C Str.empty = true
  hd : PySem.W.hasDictIn K C = true
  po : PySem.W.plainOver K C = true
  sa : PySem.W.findIn K (.ref C) "__setattr__" = some (some (.builtin "object.__setattr__"))
theorem Cls.get {K : PySem.W.Frag} {C : Addr} (c : Cls K C) (f : Str) : PySem.W.plainGet K C f = true := c.pg
/-- no class of it has the name -/
noncomputable def NoAttr (K : PySem.W.Frag) (C : Addr) (f : Str) : Prop := PySem.W.findIn K (.ref C) f = some none
theorem NoAttr.taker {K : PySem.W.Frag} {C : Addr} {f : Str} (n : NoAttr K C f) : PySem.W.takerIn K C f = some none := by
  unfold PySem.W.takerIn
  rw [show PySem.W.findIn K (.ref C) f = some none from n]
  rfl
/-- a method: a plain def of the class or of one above it -/
structure Meth (K : PySem.W.Frag) (C : Addr) (m : Str) (f : Addr) : Prop where
  at_ : PySem.W.findIn K (.ref C) m = some (some (.ref f))
  fn : PySem.W.isFn K (.ref f) = true
  kp : PySem.W.keepIn K (.ref f) = true

section
variable {X : Cx} {pins : List (Addr × Obj)} {σ : St} {H : Hp} {s : Shared} {a C dx : Addr} {fs : List (Str × V)} {f : Str} {v : V} {A : Around} {E : Value → Shared → Prop}

theorem getattr_ok {b : Bool} {Q : Value → Shared → Prop} (I : Inv X pins σ H s) (e : H a = some (.ins C dx fs)) (c : Cls X.K C) (n : NoAttr X.K C f) (l : fs.lookup f = some v)
    (h : ∀ u s', Inv X pins σ H s' → RelV v u → Q u s') : wpAny (model X.prog X.w) A (getAttr (.ref a) f b) Q E s := by
  obtain ⟨mA, O, r, _, _, _⟩ := ins_get I.hok e
  obtain ⟨u, hu, ru⟩ := RelO.some_of (v := v) (o := mA f) (by rw [← l]; exact r f)
  exact get_map I.kIn O (c.get f) c.hd n hu (handed_of ru) (h u _ (I.tok _) ru)


theorem getmeth_ok {m : Str} {g : Addr} {pl : Sem Bool} {Q : Value × List Value → Shared → Prop} (I : Inv X pins σ H s) (e : H a = some (.ins C dx fs)) (c : Cls X.K C) (k : Meth X.K C m g) (l : fs.lookup m = none)
    (h : Q (.ref g, [.ref a]) s) : wpAny (model X.prog X.w) A (getMethod (.ref a) m pl) Q E s := by
  obtain ⟨mA, O, r, _, _, _⟩ := ins_get I.hok e
  have hn : mA m = none := RelO.none_of (by rw [← l]; exact r m)
  exact get_meth I.kIn O (c.get m) k.at_ k.fn hn h

theorem setattr_ok {y : V} {u : Value} {Q : Unit → Shared → Prop} (I : Inv X pins σ H s) (e : H a = some (.ins C dx fs)) (c : Cls X.K C) (n : NoAttr X.K C f) (hl : fs.length < 1000) (ry : RelV y u)
    (h : ∀ s', Inv X pins σ (upd H a (.ins C dx (putF f y fs))) s' → Q () s') : wpAny (model X.prog X.w) A (setAttr (.ref a) f u) Q E s := by
  obtain ⟨mA, O, r, wi, _, ho⟩ := ins_get I.hok e
  have hz : (fs.map (·.1)).length ≤ sizeLine := by rw [List.length_map, sizeLine_eq]; omega
  refine set_map I.kIn O c.sa c.po n.taker c.hd wi hz fun h' O' sb => h _ ?_
  have hd : ∃ o, h'.get? dx = some o := let ⟨o, _, _, e', _⟩ := O'.ns; ⟨o, e'⟩
  refine I.write (x := a) (e := dx) (by rw [e]; exact True.intro) (.inr ho) (fun b q hb z => (sb.2 b hb).trans z) hd ?_
  refine ⟨by rw [upd_ne O.ne]; exact ho, ?_, O.ne, O'.obj, _, O'.ns, fun g => ?_, fun g hg => ?_⟩
  · have := length_putF f y fs; omega
  · show RelO ((putF f y fs).lookup g) (if g = f then some u else mA g)
    rw [lookup_putF]
    by_cases q : g = f
    · rw [if_pos q, if_pos q]; exact ry
    · rw [if_neg q, if_neg q]; exact r g
  · by_cases q : g = f
    · rw [q]; exact (keys_putF f y fs).1
    · refine (keys_putF f y fs).2 g (wi g fun z => hg ?_)
      show (if g = f then some u else mA g) = none
      rw [if_neg q]; exact z

/-- a new instance, tracked, without attributes -/
theorem Inv.made (I : Inv X pins σ H s) : Inv X pins σ (upd (upd H s.heap.objs.size (.own (s.heap.objs.size + 1))) (s.heap.objs.size + 1) (.ins C s.heap.objs.size []))
    { s with heap := (s.heap.push PySem.W.emptyDict).push (PySem.W.instObj C s.heap.objs.size) } := by
  have e1 : (s.heap.push PySem.W.emptyDict).get? s.heap.objs.size = some PySem.W.emptyDict := Heap.get?_push_size s.heap rfl
  have e2 : ((s.heap.push PySem.W.emptyDict).push (PySem.W.instObj C s.heap.objs.size)).get? (s.heap.objs.size + 1) = some (PySem.W.instObj C s.heap.objs.size) := by
    have := Heap.get?_push_size (s.heap.push PySem.W.emptyDict) (o := PySem.W.instObj C s.heap.objs.size) rfl
    rwa [Heap.size_push] at this
  have e3 : (s.heap.push PySem.W.emptyDict).Ns s.heap.objs.size (fun _ => none) := ⟨PySem.W.emptyDict, #[], _, e1, rfl, (fun e he => absurd he (by simp)), fun _ => rfl⟩
  have I1 := I.laid (a := s.heap.objs.size) (o := .own (s.heap.objs.size + 1)) (h' := s.heap.push PySem.W.emptyDict) (t' := s.toks) (fun b u q => Heap.get?_push_of_some _ q) (Nat.le_refl _) ⟨_, e1⟩
  refine I1.laid (a := s.heap.objs.size + 1) (o := .ins C s.heap.objs.size []) (t' := s.toks) (fun b u q => Heap.get?_push_of_some _ q) (Nat.le_of_eq (Heap.size_push _ _)) ?_
  have ne : s.heap.objs.size ≠ s.heap.objs.size + 1 := Nat.ne_of_lt (Nat.lt_succ_self _)
  refine ⟨by rw [upd_ne ne, upd_same], Nat.zero_le _, ne, e2, fun _ => none, (Heap.Ns1.of_empty e3).at fun o q => Heap.get?_push_of_some _ q, fun _ => True.intro, fun y hy => absurd rfl hy⟩

/-- e.f where nothing but the object is asked: through attributeBase (super) and the last hold -/
theorem attr_of {prog : Program} {w : World} {env : Env} {e : Expr} {f : Str} {pos : Pos} {s : Shared} {Q : Value → Shared → Prop} (hb : attributeBase e f env (eval e env) = eval e env)
    (h : wpAny (model prog w) A (eval e env) (fun o s₁ => wpAny (model prog w) A (getAttr o f true) Q E s₁) E s) : wpAny (model prog w) A (eval (.Attribute e f pos) env) Q E s :=
  Attribute_any_ h (by rw [arm_eval_Attribute, hb])
end

/-! ### readings and rules -/
/-- e.f, an attribute of the instance -/
noncomputable def tFld (K : PySem.W.Frag) (ta : TE) (f : Str) : TE := fun σ H Q => ta σ H fun x H1 => ∃ a C dx fs v, x = .ref a ∧ H1 a = some (.ins C dx fs) ∧ Cls K C ∧ NoAttr K C f ∧ fs.lookup f = some v ∧ Q v H1
/-- e.f = value -/
noncomputable def sFld (K : PySem.W.Frag) (ta tv : TE) (f : Str) : TS := fun D σ H => tv σ H fun y H1 => ta σ H1 fun x H2 => ∃ a C dx fs, x = .ref a ∧ H2 a = some (.ins C dx fs) ∧ Cls K C ∧ NoAttr K C f ∧ fs.length < 1000 ∧
  D.nx σ (upd H2 a (.ins C dx (putF f y fs)))

section
variable {X : Cx} {o e value : Expr} {f : Str} {pos pos' tpos : Pos} {ta tv : TE}
theorem pe_fld (he : PE X e ta) (hb : attributeBase e f X.env (eval e X.env) = eval e X.env) : PE X (.Attribute e f pos) (tFld X.K ta f) := by
  intro pins s σ H Q I h
  refine attr_of hb (thn (he pins s σ H _ I h) fun u s1 zz => ?_)
  obtain ⟨x, H1, I1, rx, a, C, dx, fs, v, ex, ea, c, n, l, q⟩ := zz
  subst ex
  obtain rfl : u = Value.ref a := rx
  exact getattr_ok I1 ea c n l fun u' s2 I2 ru => ⟨v, H1, I2, ru, q⟩
theorem ps_fld (ha : PE X o ta) (hv : PE X value tv) (hs : swapsWith value (some (.Attribute o f pos')) pos.line X.env = pure false) : PS X (.Assign [.Attribute o f pos'] value pos) (sFld X.K ta tv f) := by
  intro pins s σ H D I h
  refine plainObj_wpAny_Assign_Attribute (thn (hv pins s σ H _ I h) fun u s1 ⟨y, H1, I1, ry, q⟩ => thn (ha pins s1 σ H1 _ I1 q) fun ov s2 zz => ?_) hs
  obtain ⟨x, H2, I2, rx, a, C, dx, fs, ex, ea, c, n, l, q2⟩ := zz
  subst ex
  obtain rfl : ov = Value.ref a := rx
  exact setattr_ok I2 ea c n l ry fun s3 I3 => ⟨σ, _, I3, q2⟩

end

/-! ### isinstance -/
section
variable {X : Cx} {pins : List (Addr × Obj)} {σ : St} {H : Hp} {s : Shared} {A : Around} {E : Value → Shared → Prop} {Q : Value → Shared → Prop} {c : Value} {b : Bool}
/-- the type of a value, as the fragment's deciders take it; for an instance its class -/
inductive TyOf (K : PySem.W.Frag) (H : Hp) : V → Value → Prop where
  | non : TyOf K H .non (.type "NoneType")
  | bl (x : Bool) : TyOf K H (.bl x) (.type "bool")
  | int (i : Int) : TyOf K H (.int i) (.type "int")
  | str (x : Str) : TyOf K H (.str x) (.type "str")
  | flt (x : UInt64) : TyOf K H (.flt x) (.type "float")
  | lst {a : Addr} {xs : List V} (e : H a = some (.lst xs)) : TyOf K H (.ref a) (.type "list")
  | frz {a : Addr} {o : Obj} {xs : List V} (e : H a = some (.frz o (.lst xs))) : TyOf K H (.ref a) (.type "list")
  | tup {a : Addr} {xs : List V} (e : H a = some (.tup xs)) : TyOf K H (.ref a) (.type "tuple")
  | dK {a : Addr} {kvs : List (Key × V)} (e : H a = some (.dK kvs)) : TyOf K H (.ref a) (.type "dict")
  | dT {a : Addr} {kvs : List (List Key × V)} (e : H a = some (.dT kvs)) : TyOf K H (.ref a) (.type "dict")
  | ins {a C dx : Addr} {fs : List (Str × V)} (e : H a = some (.ins C dx fs)) (cl : Cls K C) (ha : PySem.W.findIn K (.ref C) "__class__" = some (some (.builtin "object.__class__")))
      (hn : PySem.W.specialIn K (.builtin "object.__class__") "__get__" = some (some (.builtin "getset_descriptor.__get__"))) (htk : PySem.W.takesIn K (.builtin "object.__class__") = some true)
      (hm : PySem.W.mroIn K C (.type "object") = some true) : TyOf K H (.ref a) (.ref C)
/-- isinstance(x, c) for one class c, a built-in or an own one: kitOne's answer -/
theorem isinst_ok {x : V} {u t : Value} (I : Inv X pins σ H s) (rx : RelV x u) (ty : TyOf X.K H x t) (e : PySem.W.kitOne X.K t c = some b) (h : ∀ tk, Q (.bool b) { s with toks := tk }) :
    wpAny (model X.prog X.w) A (call (.builtin "isinstance") [u, c]) Q E s := by
  cases ty with
  | non => cases (show u = Value.none from rx); exact PySem.W.kia_one PySem.W.kitx_none I.kIn True.intro e (fun z => nomatch z) h
  | bl y => cases (show u = Value.bool y from rx); exact PySem.W.kia_one PySem.W.kitx_bool I.kIn True.intro e (fun z => nomatch z) h
  | int i => obtain ⟨t, q⟩ := (show ∃ t, u = Value.int i t from rx); cases q; exact PySem.W.kia_one PySem.W.kitx_int I.kIn True.intro e (fun z => nomatch z) h
  | str y => obtain ⟨t, q⟩ := (show ∃ t, u = Value.str y t from rx); cases q; exact PySem.W.kia_one PySem.W.kitx_str I.kIn True.intro e (fun z => nomatch z) h
  | flt y => obtain ⟨t, q⟩ := (show ∃ t, u = Value.float y t from rx); cases q; exact PySem.W.kia_one PySem.W.kitx_float I.kIn True.intro e (fun z => nomatch z) h
  | @lst a xs ea =>
    cases (show u = Value.ref a from rx)
    obtain ⟨_, _, n, _, h1⟩ := (show ObjOk X.prog X.w H s.heap a (.lst xs) from I.hok a _ ea)
    exact PySem.W.kia_one PySem.W.kitx_list I.kIn ⟨_, h1, rfl⟩ e (fun z => nomatch z) h
  | @frz a ob xs ea =>
    cases (show u = Value.ref a from rx)
    obtain ⟨_, _, _, n, _, h1⟩ := (show ObjOk X.prog X.w H s.heap a (.frz ob (.lst xs)) from I.hok a _ ea)
    exact PySem.W.kia_one PySem.W.kitx_list I.kIn ⟨_, h1, rfl⟩ e (fun z => nomatch z) h
  | @tup a xs ea =>
    cases (show u = Value.ref a from rx)
    obtain ⟨_, _, _, p⟩ := (show ObjOk X.prog X.w H s.heap a (.tup xs) from I.hok a _ ea)
    obtain ⟨o, h1, h2, _⟩ := p
    exact PySem.W.kia_one PySem.W.kitx_tuple I.kIn ⟨o, h1, h2⟩ e (fun z => nomatch z) h
  | @dK a kvs ea =>
    cases (show u = Value.ref a from rx)
    obtain ⟨_, _, vs, _, p⟩ := (show ObjOk X.prog X.w H s.heap a (.dK kvs) from I.hok a _ ea)
    obtain ⟨o, es, ep, h1, h2, _⟩ := p
    exact PySem.W.kia_one PySem.W.kitx_dict I.kIn ⟨o, h1, h2.1⟩ e (fun z => nomatch z) h
  | @dT a kvs ea =>
    cases (show u = Value.ref a from rx)
    obtain ⟨_, _, xs, _, o, es, ep, h1, h2, _⟩ := (show ObjOk X.prog X.w H s.heap a (.dT kvs) from I.hok a _ ea)
    exact PySem.W.kia_one PySem.W.kitx_dict I.kIn ⟨o, h1, h2.1⟩ e (fun z => nomatch z) h
  | @ins a C dx fs ea cl ha hn htk hm =>
    cases (show u = Value.ref a from rx)
    obtain ⟨mA, O, _⟩ := ins_get I.hok ea
    obtain ⟨od, J, _⟩ := O.look
    exact PySem.W.kia_one (PySem.W.kitx_own (cl.get _) cl.hd ha hn htk hm) I.kIn J e (fun z => nomatch z) h
end
end L2

namespace L2
open PySem PySem.Spec PyProof.Rows

/-! ### room -/
structure Room (k : Nat) (A : Around) : Prop where
  hd : A.handled = none
  dp : A.depth + 3 * k + 5 < recursionLimit
  un : A.units + 16 * k + 200 < cLine
theorem Room.mono {j k : Nat} {A : Around} (r : Room k A) (h : j ≤ k) : Room j A := ⟨r.hd, by have := r.dp; omega, by have := r.un; omega⟩
theorem Room.deeper {k : Nat} {A : Around} (r : Room (k + 1) A) (env : Env) : Room k (A.deeper env) :=
  ⟨r.hd, by have := r.dp; show A.depth + 1 + 3 * k + 5 < _; omega, by have := r.un; show A.units + 3 + 16 * k + 200 < _; omega⟩
theorem make_depth {A : Around} {C : Addr} {us : List Value} {kw : List (Str × Value)} : (A.under (.builtin "type.__call__" ⟨.ref C :: us, kw⟩)).depth = A.depth + 1 := by
  first | rfl | simp [Around.under, Code.weight, Code.isCreation, Code.isGuard, Code.isCaller, Code.frames, Code.isFrame, guardIds]
theorem make_units {A : Around} {C : Addr} {us : List Value} {kw : List (Str × Value)} : (A.under (.builtin "type.__call__" ⟨.ref C :: us, kw⟩)).units = A.units + 1 := by
  first | rfl | simp [Around.under, Code.cUnits, Code.frames, Code.isFrame]
theorem Room.make {k : Nat} {A : Around} (r : Room (k + 1) A) (C : Addr) (us : List Value) (kw : List (Str × Value)) : Room k (A.under (.builtin "type.__call__" ⟨.ref C :: us, kw⟩)) :=
  ⟨r.hd, by have := r.dp; rw [make_depth]; omega, by have := r.un; rw [make_units]; omega⟩
theorem Room.depth {k : Nat} {A : Around} (r : Room k A) : A.depth < recursionLimit := by have := r.dp; omega
theorem Room.units0 {k : Nat} {A : Around} (r : Room k A) : A.units < cLine := by have := r.un; omega

/-! ### argument lists and displays -/
noncomputable def tNil : TA := fun _ H Q => Q [] H
noncomputable def tCons (ta : TE) (tr : TA) : TA := fun σ H Q => ta σ H fun x H1 => tr σ H1 fun xs H2 => Q (x :: xs) H2
section
variable {X : Cx} {e : Expr} {es : List Expr} {te : TE} {t : TA} {pos : Pos}
theorem pa_nil : PA X [] tNil := fun _ _ _ _ H Q I h => Calls.spliced_nil ⟨[], H, I, .nil, h⟩
theorem pa_cons (ha : PE X e te) (hr : PA X es t) (hs : starEach (e :: es) X.env = (false, eval e X.env) :: starEach es X.env := by rfl) : PA X (e :: es) (tCons te t) := by
  intro pos pins s σ H Q I h
  rw [hs]
  show wpAny _ _ (spliced ((false, eval e X.env) :: backTo pos (starEach es X.env))) _ _ s
  refine Calls.spliced_cons (thn (ha pins s σ H _ I h) fun u s1 zz => ?_)
  obtain ⟨x, H1, I1, r1, q1⟩ := zz
  exact thn (hr pos pins s1 σ H1 _ I1 q1) fun us s2 ⟨xs, H2, I2, r2, q2⟩ => ⟨x :: xs, H2, I2, .cons r1 r2, q2⟩

/-- a tuple, a list of written items -/
noncomputable def tTup (t : TA) : TE := fun σ H Q => t σ H fun xs H1 => xs.length ≤ sizeLine ∧ ∀ p, H1 p = none → Q (.ref p) (upd H1 p (.tup xs))
noncomputable def tLst (t : TA) : TE := fun σ H Q => t σ H fun xs H1 => xs.length ≤ sizeLine ∧ ∀ p, H1 p = none → Q (.ref p) (upd H1 p (.lst xs))
theorem pe_tup {x1} (h : PA X es t) : PE X (.Tuple es x1 pos) (tTup t) := by
  intro pins s σ H Q I hq
  refine wpAny_Tuple_spliced (thn (h pos pins s σ H _ I hq) fun us s1 ⟨xs, H1, I1, r, z, q⟩ => ⟨by rw [← r.length]; exact z, ?_⟩)
  have hf : H1 s1.heap.objs.size = none := I1.hok.fresh (Nat.le_refl _)
  refine ⟨.ref s1.heap.objs.size, upd H1 s1.heap.objs.size (.tup xs), I1.laid (t' := s1.toks) (fun b u e => Heap.get?_push_of_some _ e) (Nat.le_refl _) ?_, rfl, q _ hf⟩
  exact ⟨z, us, r, ⟨_, Heap.get?_push_size _ rfl, rfl, _, rfl⟩⟩
theorem pe_lst (h : PA X es t) : PE X (.List es pos) (tLst t) := by
  intro pins s σ H Q I hq
  refine wpAny_List_spliced (thn (h pos pins s σ H _ I hq) fun us s1 ⟨xs, H1, I1, r, z, q⟩ => ⟨by rw [← r.length]; exact z, ?_⟩)
  have hf : H1 s1.heap.objs.size = none := I1.hok.fresh (Nat.le_refl _)
  refine ⟨.ref s1.heap.objs.size, upd H1 s1.heap.objs.size (.lst xs), I1.laid (t' := s1.toks) (fun b u e => Heap.get?_push_of_some _ e) (Nat.le_refl _) ?_, rfl, q _ hf⟩
  exact ⟨z, us, 0, r, Heap.get?_push_size _ rfl⟩
end

/-! ### what a def promises -/
/-- a def's promise: the bound arguments in the parameters' order, the heap, the wanted end, the wanted exception -/
noncomputable abbrev Sp := List V → Hp → VK → XK → Prop
/-- how an exception lies behind a call (file 08 gives it): the callers' frames, abstract heap and state ahead of the call, the wish, the exception, the state -/
noncomputable abbrev CXT := List Env → Hp → Shared → XK → Value → Shared → Prop

/-- the state at a call -/
structure Env0 (P : Program) (w : World) (K : PySem.W.Frag) (mg : Str → Option Value) (base : Heap) (A : Around) (outer : List Env) (s : Shared) (H : Hp) : Prop where
  frames : A.frames = some outer
  mod : Mod K mg base
  bs : ∀ b o, base.get? b = some o → s.heap.get? b = some o ∧ H b = none
  bsz : base.objs.size ≤ s.heap.objs.size
  funs : s.heap.FunFrames base outer
  frf : ∀ b ∈ frs outer, H b = none
  hok : HOk P w H s.heap
  bare : AllBare s.gens
/-- a call's end -/
noncomputable def CE (outer : List Env) (P : Program) (w : World) (H : Hp) (s : Shared) (Q : VK) (u : Value) (s' : Shared) : Prop :=
  ∃ v H', s'.os = s.os ∧ AllBare s'.gens ∧ Un (frs outer) [] H H' s.heap s'.heap ∧ HOk P w H' s'.heap ∧ RelV v u ∧ Q v H'
noncomputable def CR (CX : CXT) (outer : List Env) (P : Program) (w : World) (H : Hp) (s : Shared) (Q : VK) (E : XK) (r : Result) (s' : Shared) : Prop :=
  match r with
  | .ok (.ret u) => CE outer P w H s Q u s'
  | .ok _ => False
  | .error e => CX outer H s E e s'
structure FnOk (P : Program) (w : World) (K : PySem.W.Frag) (mg : Str → Option Value) (base : Heap) (CX : CXT) (k : Nat) (f : Addr) (fd : FuncData) (ps : List Str) (sp : Sp) : Prop where
  len : ∀ vs H Q E, sp vs H Q E → vs.length = ps.length
  run : ∀ (A : Around) (outer : List Env) (s : Shared) (H : Hp) (args : Args) (us : List Value) (vs : List V) (Q : VK) (E : XK), Room k A → Env0 P w K mg base A outer s H → BindsTo s fd args (ps.zip us) → Vals vs us → sp vs H Q E →
    codeAny (model P w) A (.call (.ref f) args) (CR CX outer P w H s Q E) s
theorem FnOk.mono {P : Program} {w : World} {K : PySem.W.Frag} {mg : Str → Option Value} {base : Heap} {CX : CXT} {j k : Nat} {f : Addr} {fd : FuncData} {ps : List Str} {sp : Sp} (F : FnOk P w K mg base CX j f fd ps sp) (h : j ≤ k) :
    FnOk P w K mg base CX k f fd ps sp := ⟨F.len, fun A outer s H args us vs Q E hr => F.run A outer s H args us vs Q E (hr.mono h)⟩

theorem Env0.make {P : Program} {w : World} {K : PySem.W.Frag} {mg : Str → Option Value} {base : Heap} {A : Around} {outer : List Env} {s : Shared} {H : Hp} (e : Env0 P w K mg base A outer s H) (C : Addr) (us : List Value) (kw : List (Str × Value)) :
    Env0 P w K mg base (A.under (.builtin "type.__call__" ⟨.ref C :: us, kw⟩)) outer s H := ⟨by first | exact e.frames | (simpa [Around.under, Code.envs, Code.isFrame, pushEnvs] using e.frames), e.mod, e.bs, e.bsz, e.funs, e.frf, e.hok, e.bare⟩

section
variable {X : Cx} {pins : List (Addr × Obj)} {σ : St} {H : Hp} {s s' : Shared}
/-- from a body: what a callee wants -/
theorem Inv.env0 (I : Inv X pins σ H s) : Env0 X.prog X.w X.K X.mg X.base X.A X.stack s H :=
  ⟨I.ok.frames, I.ok.mod, I.bs, Nat.le_trans I.ok.bsz I.sz, I.stack, I.stkFree, I.hok, I.bare⟩
/-- behind a call -/
theorem Inv.after {Q : VK} {u : Value} (I : Inv X pins σ H s) (h : CE X.stack X.prog X.w H s Q u s') : EP X pins σ Q u s' := by
  obtain ⟨v, H', os, bare, un, hok, r, q⟩ := h
  obtain ⟨hh, g, d, t, os'⟩ := s'
  obtain rfl : os' = s.os := os
  exact ⟨v, H', I.call (h' := hh) (g' := g) (d' := d) (t' := t) (ch := []) un hok bare (fun b z => absurd z (by simp)), r, q⟩
end

/-! ### calls -/
/-- f(..): the written arguments, then the defaults dvs; E: what is wanted of an exception -/
noncomputable def tCall (sp : Sp) (dvs : List V) (E : XK) (t : TA) : TE := fun σ H Q => t σ H fun vs H1 => sp (vs ++ dvs) H1 Q E
/-- C(..): a new instance and its dict, then __init__ -/
noncomputable def tMake (C : Addr) (sp : Sp) (dvs : List V) (E : XK) (t : TA) : TE := fun σ H Q => t σ H fun vs H1 => ∀ x dx, H1 x = none → H1 dx = none → dx ≠ x →
  sp (.ref x :: (vs ++ dvs)) (upd (upd H1 dx (.own x)) x (.ins C dx [])) (fun v H2 => v = .non ∧ Q (.ref x) H2) E

/-- how the parameters are bound: us the positional arguments, kw the keywords' values by name, ds the defaults that fill up -/
noncomputable def Binds (K : PySem.W.Frag) (fd : FuncData) (ps : List Str) (ds : List Value) : Prop :=
  ∀ (s : Shared) (us : List Value), K.In s.heap → (us ++ ds).length = ps.length → BindsTo s fd ⟨us, []⟩ (ps.zip (us ++ ds))
/-- every parameter is given -/
theorem Binds.all {K : PySem.W.Frag} {fd : FuncData} {ps : List Str} (h : ∀ us : List Value, us.length = ps.length → bindArgs fd ⟨us, []⟩ = pure (ps.zip us)) : Binds K fd ps [] := fun s us _ hl => by
  rw [List.append_nil] at hl ⊢
  exact .of_eq (h us hl)

/-- an exception of a callee reaches what this body wants of exceptions -/
noncomputable def Passes (CX : CXT) (X : Cx) (E : XK) : Prop := ∀ (pins : List (Addr × Obj)) (σ : St) (H : Hp) (s : Shared) (e : Value) (s' : Shared), Inv X pins σ H s → CX X.stack H s E e s' → X.xe e s'

section
variable {X : Cx} {CX : CXT} {k : Nat} {f C : Addr} {fd : FuncData} {ps : List Str} {sp : Sp} {dvs : List V} {ds : List Value} {E : XK} {x m : Str} {p pos apos : Pos} {e o : Expr} {es : List Expr} {ta : TE} {t : TA}

/-- the callee runs -/
theorem run_fn {pins : List (Addr × Obj)} {σ : St} {H : Hp} {s : Shared} {Q : VK} {us : List Value} {vs : List V} (F : FnOk X.prog X.w X.K X.mg X.base CX k f fd ps sp) (hr : Room k X.A) (hb : Binds X.K fd ps ds) (hd : Vals dvs ds) (hx : Passes CX X E)
    (I : Inv X pins σ H s) (r : Vals vs us) (h : sp (vs ++ dvs) H Q E) : wpAny (model X.prog X.w) X.A (call (.ref f) us) (EP X pins σ Q) X.xe s := by
  have r2 : Vals (vs ++ dvs) (us ++ ds) := r.append hd
  have hl : (us ++ ds).length = ps.length := by rw [← r2.length]; exact F.len _ _ _ _ h
  refine wpAny_call (codeAny_mono (F.run X.A X.stack s H ⟨us, []⟩ (us ++ ds) (vs ++ dvs) Q E hr I.env0 (hb s us I.kIn hl) r2 h) fun r s' hq => ?_)
  cases r with
  | error e => exact hx pins σ H s e s' I hq
  | ok fl =>
    cases fl with
    | ret u => exact I.after hq
    | next => exact False.elim hq
    | brk => exact False.elim hq
    | cont => exact False.elim hq

theorem pe_call (F : FnOk X.prog X.w X.K X.mg X.base CX k f fd ps sp) (hr : Room k X.A) (hg : Gl X x) (hm : X.mg x = some (.ref f)) (hk : PySem.W.keepIn X.K (.ref f) = true) (hb : Binds X.K fd ps ds) (hd : Vals dvs ds) (hx : Passes CX X E)
    (ha : PA X (e :: es) t) (hdb : (x == ("__debug__" : Str)) = false := by decide) (he : starEach (e :: es) X.env = (false, eval e X.env) :: starEach es X.env := by rfl) (hpl : (backTo pos (starEach es X.env)).any (·.1) = false := by rfl) :
    PE X (.Call (.Name x p) (e :: es) [] pos) (tCall sp dvs E t) := by
  intro pins s σ H Q I h
  refine wpAny_Call_Name_kw (ld_glob I hg hm ?_ hdb)
  refine PySem.W.callWith_K (h₀ := X.base) I.ok.mod.kin hk (thn (ha pos pins s σ H _ I h) fun us s1 ⟨vs, H1, I1, r, q⟩ => ⟨I1.kIn, ?_⟩) he hpl
  exact run_fn F hr hb hd hx I1 r q


/-- what a class must have to be made -/
structure Mk (K : PySem.W.Frag) (C f : Addr) : Prop where
  makes : PySem.W.makesIn K C = true
  init : PySem.W.findIn K (.ref C) "__init__" = some (some (.ref f))
  fn : PySem.W.isFn K (.ref f) = true
  kp : PySem.W.keepIn K (.ref C) = true

theorem run_make {pins : List (Addr × Obj)} {σ : St} {H : Hp} {s : Shared} {Q : VK} {us : List Value} {vs : List V} (M : Mk X.K C f) (F : FnOk X.prog X.w X.K X.mg X.base CX k f fd ps sp) (hr : Room (k + 1) X.A) (hb : Binds X.K fd ps ds) (hd : Vals dvs ds)
    (hx : Passes CX X E) (I : Inv X pins σ H s) (r : Vals vs us)
    (h : ∀ x dx, H x = none → H dx = none → dx ≠ x → sp (.ref x :: (vs ++ dvs)) (upd (upd H dx (.own x)) x (.ins C dx [])) (fun v H2 => v = .non ∧ Q (.ref x) H2) E) :
    wpAny (model X.prog X.w) X.A (call (.ref C) us) (EP X pins σ Q) X.xe s := by
  have hq := h (s.heap.objs.size + 1) s.heap.objs.size (I.hok.fresh (Nat.le_succ _)) (I.hok.fresh (Nat.le_refl _)) (Nat.ne_of_lt (Nat.lt_succ_self _))
  have I2 := Inv.made (C := C) I
  have r2 : Vals (V.ref (s.heap.objs.size + 1) :: (vs ++ dvs)) (Value.ref (s.heap.objs.size + 1) :: (us ++ ds)) := .cons rfl (r.append hd)
  have hl : (Value.ref (s.heap.objs.size + 1) :: us ++ ds).length = ps.length := by
    have e := r2.length
    rw [F.len _ _ _ _ hq] at e
    exact e.symm
  refine wpAny_call (make_map (f := f) I.kIn M.makes M.init (beq_iff_eq.mp M.fn) (codeAny_mono (F.run _ X.stack _ _ ⟨Value.ref (s.heap.objs.size + 1) :: us, []⟩ (Value.ref (s.heap.objs.size + 1) :: (us ++ ds)) _ _ E (hr.make C us [])
    (I2.env0.make C us []) (hb _ (Value.ref (s.heap.objs.size + 1) :: us) I2.kIn hl) r2 hq) fun r s' hq' => ?_))
  cases r with
  | error e => exact hx pins σ _ _ e s' I2 hq'
  | ok fl =>
    cases fl with
    | ret u =>
      obtain ⟨v, H', I3, rv, ev, q3⟩ := I2.after hq'
      subst ev
      exact ⟨rv, ⟨V.ref (s.heap.objs.size + 1), H', I3, rfl, q3⟩⟩
    | next => exact False.elim hq'
    | brk => exact False.elim hq'
    | cont => exact False.elim hq'
theorem pe_make (M : Mk X.K C f) (F : FnOk X.prog X.w X.K X.mg X.base CX k f fd ps sp) (hr : Room (k + 1) X.A) (hg : Gl X x) (hm : X.mg x = some (.ref C)) (hb : Binds X.K fd ps ds) (hd : Vals dvs ds) (hx : Passes CX X E)
    (ha : PA X (e :: es) t) (hdb : (x == ("__debug__" : Str)) = false := by decide) (he : starEach (e :: es) X.env = (false, eval e X.env) :: starEach es X.env := by rfl) (hpl : (backTo pos (starEach es X.env)).any (·.1) = false := by rfl) :
    PE X (.Call (.Name x p) (e :: es) [] pos) (tMake C sp dvs E t) := by
  intro pins s σ H Q I h
  refine wpAny_Call_Name_kw (ld_glob I hg hm ?_ hdb)
  refine PySem.W.callWith_K (h₀ := X.base) I.ok.mod.kin M.kp (thn (ha pos pins s σ H _ I h) fun us s1 ⟨vs, H1, I1, r, q⟩ => ⟨I1.kIn, ?_⟩) he hpl
  exact run_make M F hr hb hd hx I1 r q
end

/-! ### keywords -/
section
variable {X : Cx} {CX : CXT} {k : Nat} {f C : Addr} {fd : FuncData} {ps ks : List Str} {sp : Sp} {E : XK} {x m : Str} {p pos apos kpos : Pos} {e o : Expr} {es : List Expr} {kws : List Keyword} {te ta : TE} {t tk : TA} {nm : Option Str}

variable {g : List Value → List Value → List Value} {gV : List V → List V → List V}
end

/-! ### a def's body keeps its promise -/
/-- names: the parameters first -/
structure FnScope (N P : List Str) (sc : Scope) : Prop where
  kind : sc.kind = .function
  co : sc.isCoroutine = false
  gen : sc.isGenerator = false
  nd : N.Nodup
  pre : N.take P.length = P
  par : ∀ x ∈ P, sc.names.lookup x = some .local ∨ sc.names.lookup x = some .cell
  nofree : ∀ y ∈ sc.names, y.2 ≠ .free

theorem bindL_out {kindOf : Str → Option NameKind} {x : Str} : ∀ {binds : List (Str × Value)} {m : Str → Option Value}, (∀ v, (x, v) ∉ binds) → bindL kindOf binds m x = m x
  | [], _, _ => rfl
  | (n, v) :: r, m, h => by
    unfold bindL
    rw [bindL_out fun w hw => h w (List.mem_cons_of_mem _ hw)]
    split
    · have : x ≠ n := by rintro rfl; exact h v List.mem_cons_self
      simp [this]
    · rfl
theorem bindC_out {kindOf : Str → Option NameKind} {x : Str} : ∀ {binds : List (Str × Value)} {m : Str → Option Value}, (∀ v, (x, v) ∉ binds) → bindC kindOf binds m x = m x
  | [], _, _ => rfl
  | (n, v) :: r, m, h => by
    unfold bindC
    rw [bindC_out fun w hw => h w (List.mem_cons_of_mem _ hw)]
    split
    · rfl
    · have : x ≠ n := by rintro rfl; exact h v List.mem_cons_self
      simp [this]
theorem bindL_get {kindOf : Str → Option NameKind} {x : Str} {v : Value} : ∀ {P : List Str} {vs : List Value} {i : Nat} {m : Str → Option Value}, P.Nodup → P[i]? = some x → vs[i]? = some v → kindOf x = some .local →
    bindL kindOf (P.zip vs) m x = some v
  | [], _, _, _, _, h, _, _ => by simp at h
  | _ :: _, [], _, _, _, _, h, _ => by simp at h
  | p :: P, w :: vs, 0, m, nd, h1, h2, hk => by
    simp at h1 h2; subst h1; subst h2
    show bindL kindOf ((p, w) :: P.zip vs) m p = _
    unfold bindL
    rw [bindL_out fun v hv => (List.nodup_cons.mp nd).1 (List.of_mem_zip hv).1, if_pos hk]
    simp
  | p :: P, w :: vs, i + 1, m, nd, h1, h2, hk => by
    show bindL kindOf ((p, w) :: P.zip vs) m x = _
    unfold bindL
    exact bindL_get (i := i) (List.nodup_cons.mp nd).2 (by simpa using h1) (by simpa using h2) hk
theorem bindC_get {kindOf : Str → Option NameKind} {x : Str} {v : Value} : ∀ {P : List Str} {vs : List Value} {i : Nat} {m : Str → Option Value}, P.Nodup → P[i]? = some x → vs[i]? = some v → kindOf x ≠ some .local →
    bindC kindOf (P.zip vs) m x = some v
  | [], _, _, _, _, h, _, _ => by simp at h
  | _ :: _, [], _, _, _, _, h, _ => by simp at h
  | p :: P, w :: vs, 0, m, nd, h1, h2, hk => by
    simp at h1 h2; subst h1; subst h2
    show bindC kindOf ((p, w) :: P.zip vs) m p = _
    unfold bindC
    rw [bindC_out fun v hv => (List.nodup_cons.mp nd).1 (List.of_mem_zip hv).1, if_neg hk]
    simp
  | p :: P, w :: vs, i + 1, m, nd, h1, h2, hk => by
    show bindC kindOf ((p, w) :: P.zip vs) m x = _
    unfold bindC
    exact bindC_get (i := i) (List.nodup_cons.mp nd).2 (by simpa using h1) (by simpa using h2) hk

/-- the names' values at the entry -/
noncomputable def start (N : List Str) (vs : List V) : St := vs.map some ++ List.replicate (N.length - vs.length) none

/-- the context of a def's body, at its entry; an exception leaves the frame, then lies as CX says -/
noncomputable def cxOf (CX : CXT) (P : Program) (w : World) (K : PySem.W.Frag) (mg : Str → Option Value) (base : Heap) (N : List Str) (qual : Str) (scope : Scope) (f : Addr) (cd : Value) (A : Around) (outer : List Env) (s : Shared) (H : Hp) (E : XK) : Cx where
  prog := P
  w := w
  K := K
  mg := mg
  base := base
  A := A.deeper (envOfC qual scope s.heap.objs.size f cd)
  N := N
  s₀ := s
  H₀ := H
  env := envOfC qual scope s.heap.objs.size f cd
  outer := outer
  stack := envOfC qual scope s.heap.objs.size f cd :: outer
  ex := []
  calm := true
  fn := fun _ => true
  pn := []
  xe := fun e s' => wpAny (model P w) (A.deeper (envOfC qual scope s.heap.objs.size f cd)) (leaving (envOfC qual scope s.heap.objs.size f cd) e) (fun _ s'' => CX outer H s E e s'') (fun e' s'' => CX outer H s E e' s'') s'

theorem cell_has {sc : Scope} {n : Nat} {x : Str} (h : sc.names.lookup x = some .cell) : ∃ c, (cellsFrom n sc.names []).lookup x = some c := by
  have q := PySem.W.cellsFrom_some sc.names n [] (.inl h)
  exact Option.isSome_iff_exists.mp q

theorem inv_start {CX : CXT} {P : Program} {w : World} {K : PySem.W.Frag} {mg : Str → Option Value} {base : Heap} {N ps : List Str} {qual : Str} {scope : Scope} {f : Addr} {cd : Value} {A : Around} {outer : List Env} {s s1 : Shared} {H : Hp} {E : XK} {us : List Value} {vs : List V}
    (S : FnScope N ps scope) (hd : A.handled = none) (e0 : Env0 P w K mg base A outer s H) (hl : vs.length = ps.length) (r : Vals vs us)
    (x : InCallC s s.heap.objs.size (bindL (envOfC qual scope s.heap.objs.size f cd).kindOf (ps.zip us) fun _ => none) (cellsFrom (s.heap.objs.size + 1) scope.names []) (bindC (envOfC qual scope s.heap.objs.size f cd).kindOf (ps.zip us) fun _ => none) s1) :
    Inv (cxOf CX P w K mg base N qual scope f cd A outer s H E) [] (start N vs) H s1 := by
  have hpl : ps.length ≤ N.length := by have := congrArg List.length S.pre; rw [List.length_take] at this; omega
  obtain ⟨h1, tk, rfl, hk⟩ := x.done
  have noA : ∀ b : Addr, b ∉ (cxOf CX P w K mg base N qual scope f cd A outer s H E).ex := fun b z => absurd (show b ∈ ([] : List Addr) from z) (by simp)
  refine ⟨⟨e0.mod, S.kind, rfl, rfl, Nat.le_refl _, fun y z c h1 h2 => ?_, fun y hy => ?_, fun y c _ h => ?_, fun _ => hd, Around.frames_deeper e0.frames, .inr ⟨rfl, rfl⟩, fun b z => absurd z (noA b), e0.bs, e0.bsz, fun b _ _ => noA b, fun b z => absurd z (noA b), e0.funs, e0.frf⟩,
    rfl, e0.bare, Un.kept hk, ⟨_, x.toInCall.ns, fun i y v h1 h2 h3 => ?_⟩, fun y c h => ⟨_, x.cell y c h⟩, e0.hok.fresh (Nat.le_refl _), fun y c h => ?_, fun p hp => absurd (show p ∈ ([] : List (Addr × Obj)) from hp) (by simp), e0.hok.kept hk, ?_⟩
  · exact name_of_addr x.apart (PySem.mem_of_lookup h1) (PySem.mem_of_lookup h2)
  · have hy : scope.names.lookup y = some .cell ∨ scope.names.lookup y = some .free := hy
    rcases hy with hy | hy
    · exact cell_has hy
    · exact absurd rfl (S.nofree _ (PySem.mem_of_lookup hy))
  · exact Nat.le_of_lt (x.above y c (PySem.mem_of_lookup h))
  · have hi : i < vs.length := by
      unfold start at h2
      by_cases hi : i < vs.length
      · exact hi
      · rw [List.getElem?_append_right (by simpa using hi)] at h2
        rw [List.getElem?_replicate] at h2
        split at h2 <;> cases h2
    have ha : vs[i]? = some v := by
      unfold start at h2
      rw [List.getElem?_append_left (by simpa using hi), List.getElem?_map] at h2
      cases e : vs[i]? with
      | none => rw [e] at h2; cases h2
      | some a => rw [e] at h2; cases h2; rfl
    obtain ⟨u, hu, rv⟩ := r.get ha
    have hp : ps[i]? = some y := by
      rw [← S.pre, List.getElem?_take_of_lt (by omega)]; exact h1
    have ndP : ps.Nodup := by rw [← S.pre]; exact S.nd.sublist (List.take_sublist _ _)
    refine ⟨u, rv, ?_⟩
    rcases S.par y (List.mem_of_getElem? hp) with k | k
    · exact .inl ⟨k, bindL_get ndP hp hu k⟩
    · obtain ⟨c, e⟩ := cell_has (n := s.heap.objs.size + 1) k
      refine .inr ⟨.inl k, c, e, ?_⟩
      have q := x.cell y c e
      rw [bindC_get ndP hp hu (by show scope.names.lookup y ≠ _; rw [k]; decide)] at q
      exact q
  · exact e0.hok.fresh (Nat.le_of_lt (x.above y c (PySem.mem_of_lookup h)))
  · unfold start
    show _ = N.length
    rw [List.length_append, List.length_map, List.length_replicate]
    omega

/-- THE RULE: a def (or a method) of the text, by its body. The body's reading t is chosen for each entry; it is run at the parameters' values -/
theorem fn_of {CX : CXT} {P : Program} {w : World} {K : PySem.W.Frag} {mg : Str → Option Value} {base : Heap} {k : Nat} {f : Addr} {name qual : Str} {params : Arguments} {body : List Stmt} {scope : Scope} {dV kV doc pm cdv ct oc : Value} {an od : Option Addr}
    {osl : Array (Option Value)} {N ps : List Str} {sp : Sp} (lk : K.lookup f = some ⟨oc, od, .func (PySem.W.fnOf name qual params body scope dV kV doc pm an cdv ct), osl⟩) (hcd : PySem.W.codeIn K cdv qual = true) (S : FnScope N ps scope)
    (len : ∀ vs H Q E, sp vs H Q E → vs.length = ps.length)
    (hbody : ∀ (A : Around) (outer : List Env) (s : Shared) (H : Hp) (vs : List V) (Q : VK) (E : XK), Room k (A.deeper (envOfC qual scope s.heap.objs.size f cdv)) → sp vs H Q E →
      ∃ t, PSs (cxOf CX P w K mg base N qual scope f cdv A outer s H E) body t ∧ t { nx := fun _ H' => Q .non H', rt := Q } (start N vs) H) :
    FnOk P w K mg base CX (k + 1) f (PySem.W.fnOf name qual params body scope dV kV doc pm an cdv ct) ps sp := by
  refine ⟨len, fun A outer s H args us vs Q E hr e0 hb r hsp => ?_⟩
  have hl := len _ _ _ _ hsp
  have KX : K.In s.heap := e0.mod.kin.keeps fun b o e => (e0.bs b o e).1
  have lim : s.heap.NoLimit := e0.mod.nolimit.keeps fun b o e => (e0.bs b o e).1
  have hkind : ∀ y ∈ ps.zip us, scope.names.lookup y.1 = some .local ∨ (scope.names.lookup y.1 = some .cell ∧ ((cellsFrom (s.heap.objs.size + 1) scope.names []).lookup y.1).isSome = true) := fun ⟨n, v⟩ hy => by
    rcases S.par n (List.of_mem_zip hy).1 with q | q
    · exact .inl q
    · exact .inr ⟨q, PySem.W.cellsFrom_some _ _ _ (.inl q)⟩
  refine codeAny_call_function hr.depth (KX _ _ lk) rfl S.co S.gen rfl (PySem.W.codeRec_of KX hcd) (hb _ _ _ _ ?_)
  refine wpAny_newFunctionEnv_cells S.kind hkind fun env he s1 x => ?_
  subst he
  refine ⟨lim.keeps x.toInCall.keep, codeAny_func ?_⟩
  obtain ⟨t, ht, hq⟩ := hbody A outer s H vs Q E (hr.deeper _) hsp
  have I : Inv (cxOf CX P w K mg base N qual scope f cdv A outer s H E) [] (start N vs) H s1 := inv_start S hr.hd e0 hl r x
  refine wpAny_mono (ht [] s1 (start N vs) H _ I hq) (fun fl s' hs => ?_) fun e s' hs => hs
  have fin : ∀ {σ' : St} {H' : Hp} {v : V} {u : Value}, Inv (cxOf CX P w K mg base N qual scope f cdv A outer s H E) [] σ' H' s' → RelV v u → Q v H' → CE outer P w H s Q u s' :=
    fun {σ' H' v u} J rv q => ⟨v, H', J.os, J.bare, J.base, J.hok, rv, q⟩
  cases fl with
  | ret u =>
    obtain ⟨v, σ', H', J, rv, q⟩ := hs
    exact fin J rv q
  | next =>
    obtain ⟨σ', H', J, q⟩ := hs
    exact fin (v := V.non) (u := Value.none) J rfl q
  | brk =>
    obtain ⟨_, _, _, q⟩ := hs
    exact False.elim q
  | cont =>
    obtain ⟨_, _, _, q⟩ := hs
    exact False.elim q
end L2

namespace L2
open PySem PySem.Spec PyProof.Rows
section
variable {X : Cx} {x : Str} {p pos : Pos} {e : Expr} {es : List Expr} {t : TA} {id T : String} {r : List V → Hp → VK → Prop}

noncomputable def tCB (r : List V → Hp → VK → Prop) (t : TA) : TE := fun σ H Q => t σ H fun vs H1 => r vs H1 Q
/-- f(e, ..), f a built-in function -/
theorem pe_callB (hc : CallR X (.builtin id) r) (hg : Gl X x) (hm : X.mg x = none) (hv : bootBuiltins x = some (.builtin id)) (ha : PA X (e :: es) t) (hn : x ≠ "__name__" := by decide) (hdb : (x == ("__debug__" : Str)) = false := by decide)
    (he : starEach (e :: es) X.env = (false, eval e X.env) :: starEach es X.env := by rfl) (hpl : (backTo pos (starEach es X.env)).any (·.1) = false := by rfl) : PE X (.Call (.Name x p) (e :: es) [] pos) (tCB r t) := by
  intro pins s σ H Q I h
  refine wpAny_Call_Name_kw (ld_blt I hg hm hv ?_ hn hdb)
  exact PyProof.Rows.callWith_builtin1 (thn (ha pos pins s σ H _ I h) fun us s1 ⟨vs, H1, I1, r1, q1⟩ => hc pins s1 σ H1 vs us Q I1 r1 q1) he hpl
/-- T(e, ..), T a built-in type -/
theorem pe_callTy (hc : CallR X (.type T) r) (hg : Gl X x) (hm : X.mg x = none) (hv : bootBuiltins x = some (.type T)) (ha : PA X (e :: es) t) (hn : x ≠ "__name__" := by decide) (hdb : (x == ("__debug__" : Str)) = false := by decide)
    (he : starEach (e :: es) X.env = (false, eval e X.env) :: starEach es X.env := by rfl) (hpl : (backTo pos (starEach es X.env)).any (·.1) = false := by rfl) : PE X (.Call (.Name x p) (e :: es) [] pos) (tCB r t) := by
  intro pins s σ H Q I h
  refine wpAny_Call_Name_kw (ld_blt I hg hm hv ?_ hn hdb)
  exact PyProof.Rows.callWith_type1 (thn (ha pos pins s σ H _ I h) fun us s1 ⟨vs, H1, I1, r1, q1⟩ => hc pins s1 σ H1 vs us Q I1 r1 q1) he hpl
end
end L2

namespace HT
open PySem PyProof.Rows



section
open PySem.SeqAt
open PySem.AutoSeq1 (wpAny_loadPart')
open PySem.MeetsSeq PySem.MeetsSeq2 PySem.MeetsSeq3

end

section
variable {prog : Program} {w : World} {A : Around} {E : Value → Shared → Prop} {s : Shared}



/-! ### t[a:b], not the whole -/
/-- a slice's bound as a place among n (d where it is left out) -/
noncomputable def sIx (n d : Nat) : Option Int → Nat
  | none => d
  | some v => if v < 0 then (v + (n : Int)).toNat else min v.toNat n
theorem sIx_none (n d : Nat) : sIx n d none = d := rfl
theorem sIx_nat (n d k : Nat) : sIx n d (some (k : Int)) = min k n := by
  show (if (k : Int) < 0 then ((k : Int) + (n : Int)).toNat else min (k : Int).toNat n) = min k n
  rw [if_neg (by omega), Int.toNat_natCast]

end
end HT

namespace L2
open PySem PySem.Spec PyProof.Rows

/-! ### the parts of a slice -/
noncomputable abbrev TO := St → Hp → (Option Int → Hp → Prop) → Prop
/-- a slice's part (left out, or an int) -/
noncomputable def PO (X : Cx) (e : Option Expr) (t : TO) : Prop :=
  ∀ (pins : List (Addr × Obj)) (s : Shared) (σ : St) (H : Hp) (Q : Option Int → Hp → Prop), Inv X pins σ H s → t σ H Q →
    wpAny (model X.prog X.w) X.A (evalPart e X.env) (fun u s' => ∃ o H', Inv X pins σ H' s' ∧ IsPart u o ∧ Q o H') X.xe s
noncomputable def tNoPart : TO := fun _ H Q => Q none H
noncomputable def tPart (t : TE) : TO := fun σ H Q => t σ H fun x H1 => ∃ i, x = .int i ∧ Q (some i) H1


section
variable {X : Cx} {e : Expr} {te : TE} {lo hi : Option Expr} {tl th : TO} {pos p2 : Pos}

theorem po_none : PO X none tNoPart := by
  intro pins s σ H Q I h
  rw [evalPart_none]
  exact wpAny_pure ⟨none, H, I, .none, h⟩
theorem po_some (h : PE X e te) : PO X (some e) (tPart te) := by
  intro pins s σ H Q I hw
  rw [evalPart_some]
  refine thn (h pins s σ H _ I hw) fun u s1 zz => ?_
  obtain ⟨x, H1, I1, r1, q1⟩ := zz
  obtain ⟨i, rfl, q⟩ := q1
  obtain ⟨t, rfl⟩ := r1
  exact ⟨some i, H1, I1, .int i t, q⟩

/-- what a slice of a value is, by values: the slice object stands at sl -/
noncomputable def SlR (X : Cx) (r : V → Option Int → Option Int → Hp → VK → Prop) : Prop :=
  ∀ (pins : List (Addr × Obj)) (s : Shared) (σ : St) (H : Hp) (x : V) (v vl vu : Value) (lo hi : Option Int) (sl : Addr) (Q : VK), Inv X pins σ H s → RelV x v → s.heap.IsSliceOf sl vl vu .none → IsPart vl lo → IsPart vu hi → r x lo hi H Q →
    ∃ T id, typeLookup (.type T) "__getitem__" = pure (some (.builtin id)) ∧ s.TypeIs v T ∧ wpAny (model X.prog X.w) X.A (getItem v (.ref sl)) (EP X pins σ Q) X.xe s
noncomputable def tSl (r : V → Option Int → Option Int → Hp → VK → Prop) (te : TE) (tl th : TO) : TE := fun σ H Q => te σ H fun x H1 => tl σ H1 fun l H2 => th σ H2 fun u H3 => r x l u H3 Q
/-- a[lo:hi], any a -/
theorem pe_slice {r : V → Option Int → Option Int → Hp → VK → Prop} (hr : SlR X r) (he : PE X e te) (hl : PO X lo tl) (hu : PO X hi th) : PE X (.Subscript e (.Slice lo hi none p2) pos) (tSl r te tl th) := by
  intro pins s σ H Q I h
  refine Subscript_ (thn (he pins s σ H _ I h) fun v s1 zz => ?_)
  obtain ⟨x, H1, I1, r1, q1⟩ := zz
  refine wpAny_Slice (thn (hl pins s1 σ H1 _ I1 q1) fun vl s2 ⟨l, H2, I2, pl, q2⟩ => thn (hu pins s2 σ H2 _ I2 q2) fun vu s3 zz => ?_)
  obtain ⟨u, H3, I3, pu, q3⟩ := zz
  rw [evalPart_none]
  refine wpAny_pure ?_
  have I4 : Inv X pins σ H3 { s3 with heap := s3.heap.push { cls := .type "slice", data := .fields #[vl, vu, .none] } } := I3.kept (t' := s3.toks) fun b ob q => Heap.get?_push_of_some _ q
  obtain ⟨T, id, hT, ht, hg⟩ := hr pins { s3 with heap := s3.heap.push { cls := .type "slice", data := .fields #[vl, vu, .none] } } σ H3 x v vl vu l u s3.heap.objs.size Q I4 r1 (Heap.IsSliceOf.new ..) pl pu q3
  show wpAny (model X.prog X.w) X.A (subscriptTail e (.Slice lo hi none p2) v (.ref s3.heap.objs.size)) (EP X pins σ Q) X.xe { s3 with heap := s3.heap.push { cls := .type "slice", data := .fields #[vl, vu, .none] } }
  exact tail_any (ops := [.ref s3.heap.objs.size, v]) ht hT hg (by with_unfolding_all rfl)

/-- the items of xs[lo:hi] -/
noncomputable def cutV (xs : List V) (lo hi : Option Int) : List V := (xs.drop (HT.sIx xs.length 0 lo)).take (HT.sIx xs.length xs.length hi - HT.sIx xs.length 0 lo)
theorem cutV_length (xs : List V) (lo hi : Option Int) : (cutV xs lo hi).length ≤ xs.length := by
  unfold cutV
  rw [List.length_take, List.length_drop]
  omega

/-! ### t < u, t + u -/
end
end L2

namespace L2
open PySem PySem.Spec PyProof.Rows

/-! ### places -/
/-- the place that an index of any sign means -/
noncomputable def ixN (n : Nat) (i : Int) : Option Nat := if 0 ≤ i then (if i < n then some i.toNat else none) else if -(n : Int) ≤ i then some (i + n).toNat else none
noncomputable def atI {α : Type} (xs : List α) (i : Int) : Option α := (ixN xs.length i).bind fun j => xs[j]?
theorem ixN_seq {n : Nat} {i : Int} {j : Nat} (h : ixN n i = some j) : seqIndex? i n = some j ∧ j < n ∧ -(n : Int) ≤ i ∧ i < n := by
  unfold ixN at h
  by_cases h0 : 0 ≤ i
  · rw [if_pos h0] at h
    by_cases h1 : i < n
    · rw [if_pos h1] at h
      have e : i.toNat = j := Option.some.inj h
      exact ⟨by rw [seqIndex_of h0 h1, e], by omega, by omega, h1⟩
    · rw [if_neg h1] at h; cases h
  · rw [if_neg h0] at h
    by_cases h1 : -(n : Int) ≤ i
    · rw [if_pos h1] at h
      have e : (i + n).toNat = j := Option.some.inj h
      exact ⟨by rw [seqIndex_neg (by omega) h1, e], by omega, h1, by omega⟩
    · rw [if_neg h1] at h; cases h
theorem atI_get {α : Type} {xs : List α} {i : Int} {v : α} (h : atI xs i = some v) : ∃ j, seqIndex? i xs.length = some j ∧ xs[j]? = some v ∧ j < xs.length ∧ -(xs.length : Int) ≤ i ∧ i < xs.length := by
  unfold atI at h
  cases e : ixN xs.length i with
  | none => rw [e] at h; cases h
  | some j =>
    rw [e] at h
    obtain ⟨h1, h2, h3, h4⟩ := ixN_seq e
    exact ⟨j, h1, h, h2, h3, h4⟩
theorem atI_nat {α : Type} {xs : List α} {j : Nat} {v : α} (h : xs[j]? = some v) : atI xs (j : Int) = some v := by
  have hj : j < xs.length := (List.getElem?_eq_some_iff.mp h).1
  have e : ixN xs.length (j : Int) = some j := by
    unfold ixN
    rw [if_pos (by omega), if_pos (by omega)]; simp
  unfold atI; rw [e]; exact h

/-! ### what may be subscripted -/
/-- what stands as an index of a plain subscript -/
noncomputable def PlainIx (b : Expr) : Prop := ∀ o i, subscripted b false o i = operate [o, i] (getItem o i)
/-- a subscript by values -/
noncomputable def IxR (X : Cx) (r : R2) : Prop :=
  ∀ (value slice : Expr) (pins : List (Addr × Obj)) (s : Shared) (σ : St) (H : Hp) (x y : V) (v u : Value) (Q : VK), Inv X pins σ H s → RelV x v → RelV y u → r x y H Q →
    subscripted slice false v u = operate [v, u] (getItem v u) → wpAny (model X.prog X.w) X.A (subscriptTail value slice v u) (EP X pins σ Q) X.xe s
/-- a call of a builtin's method by values: the receiver, the arguments -/
noncomputable def MtR (X : Cx) (id : String) (r : V → List V → Hp → VK → Prop) : Prop :=
  ∀ (pins : List (Addr × Obj)) (s : Shared) (σ : St) (H : Hp) (x : V) (xs : List V) (v : Value) (us : List Value) (Q : VK), Inv X pins σ H s → RelV x v → Vals xs us → r x xs H Q →
    wpAny (model X.prog X.w) X.A (call (.builtin id) (v :: us)) (EP X pins σ Q) X.xe s
section
variable {X : Cx} {a b : Expr} {ta tb : TE} {pos : Pos}
/-- a[b] -/
theorem pe_ix {r : R2} (hr : IxR X r) (ha : PE X a ta) (hb : PE X b tb) (hs : PlainIx b) : PE X (.Subscript a b pos) (tOp r ta tb) := by
  intro pins s σ H Q I h
  exact Subscript_ (binT ha hb I h fun v u s2 x y H2 I2 rx ry q => hr a b pins s2 σ H2 x y v u Q I2 rx ry q (hs _ _))

noncomputable def rIxL (K : PySem.W.Frag) : R2 := fun x y H Q => ∃ p xs i v, x = .ref p ∧ y = .int i ∧ SqL K H p xs ∧ atI xs i = some v ∧ Q v H
noncomputable def rIxT (K : PySem.W.Frag) : R2 := fun x y H Q => ∃ p xs i v, x = .ref p ∧ y = .int i ∧ SqT K H p xs ∧ atI xs i = some v ∧ Q v H
theorem ix_list : IxR X (rIxL X.K) := by
  intro value slice pins s σ H x y v u Q I rx ry h hs
  obtain ⟨p, xs, i, z, rfl, rfl, hq, he, q⟩ := h
  cases rx
  obtain ⟨t, rfl⟩ := ry
  obtain ⟨its, r, pl, hz⟩ := I.list hq
  obtain ⟨j, h1, h2, h3, h4, h5⟩ := atI_get he
  obtain ⟨w, ew, rw'⟩ := r.get h2
  have hl := r.length
  have hn := line63
  have fin : EP X pins σ Q w s := ⟨z, H, I, rw', q⟩
  by_cases h0 : 0 ≤ i
  · have hj : i.toNat = j := by
      rw [seqIndex_of h0 h5] at h1
      exact Option.some.inj h1
    exact item_listR pl.isList h0 (by omega) (by rw [hj]; simpa using ew) fin hs
  · have hj : (i + (its.toArray.size : Int)).toNat = j := by
      rw [seqIndex_neg (by omega) h4] at h1
      rw [List.size_toArray, ← hl]
      exact Option.some.inj h1
    exact subscriptTail_builtinR (x := w) pl.isList.typeIs slot_list_getitem.lookup
      (wpAny_getItem_list_neg (Q := fun r s' => r = w ∧ EP X pins σ Q r s') pl.isList (by omega) (by rw [List.size_toArray] <;> omega) (by omega) (by rw [hj]; simpa using ew) ⟨rfl, fin⟩) hs
theorem ix_tup : IxR X (rIxT X.K) := by
  intro value slice pins s σ H x y v u Q I rx ry h hs
  obtain ⟨p, xs, i, z, rfl, rfl, hq, he, q⟩ := h
  cases rx
  obtain ⟨t, rfl⟩ := ry
  obtain ⟨its, r, pl, hz⟩ := I.tuple hq
  obtain ⟨j, h1, h2, h3, h4, h5⟩ := atI_get he
  obtain ⟨w, ew, rw'⟩ := r.get h2
  have hl := r.length
  have hn := line63
  have fin : EP X pins σ Q w s := ⟨z, H, I, rw', q⟩
  exact subscriptTail_builtinR (x := w) pl.typeIs slot_tuple_getitem.lookup
    (getItem_tuple (j := j) (Q := fun r s' => r = w ∧ EP X pins σ Q r s') pl (by omega) (by omega) (by rw [List.size_toArray, ← hl]; exact h1) (by simpa using ew) ⟨rfl, fin⟩) hs

/-! ### xs[i] = v, any sign -/
/-- the list's object behind a store -/
theorem mapSeq_set (its : List Value) (n j : Nat) (u : Value) : Obj.mapSeq (·.setIfInBounds j u) { cls := .type "list", data := .seq its.toArray n } = { cls := .type "list", data := .seq (its.set j u).toArray n } := by
  simp [Obj.mapSeq]
theorem Inv.lst {pins : List (Addr × Obj)} {σ : St} {H : Hp} {s : Shared} {p : Addr} {xs : List V} (I : Inv X pins σ H s) (h : H p = some (.lst xs)) :
    ∃ (its : List Value) (n : Nat), Vals xs its ∧ s.heap.get? p = some { cls := .type "list", data := .seq its.toArray n } ∧ xs.length ≤ sizeLine := by
  obtain ⟨z, its, n, r, e⟩ := I.hok p _ h
  exact ⟨its, n, r, e, z⟩
/-- the list at p is written by an update of its object -/
theorem Inv.lstUpd {pins : List (Addr × Obj)} {σ : St} {H : Hp} {s : Shared} {p : Addr} {xs ys : List V} {its its' : List Value} {n n' : Nat} {f : Obj → Obj} (I : Inv X pins σ H s) (h : H p = some (.lst xs))
    (ho : s.heap.get? p = some { cls := .type "list", data := .seq its.toArray n }) (hf : f { cls := .type "list", data := .seq its.toArray n } = { cls := .type "list", data := .seq its'.toArray n' }) (r : Vals ys its') (hz : ys.length ≤ sizeLine) (t : Nat) :
    Inv X pins σ (upd H p (.lst ys)) { s with heap := s.heap.update p f, toks := t } := by
  have e : (s.heap.update p f).get? p = some { cls := .type "list", data := .seq its'.toArray n' } := by
    rw [Heap.get?_update_self f ho (by rw [hf] <;> rfl), hf]
  refine I.write (x := p) (e := p) (by rw [h]; trivial) (.inl rfl) (fun b u hb q => (Heap.get?_update_other _ _ (Ne.symm hb)).trans q) ⟨_, e⟩ ?_
  exact ⟨hz, its', n', r, e⟩
noncomputable def rSetL : V → V → V → Hp → (Hp → Prop) → Prop := fun o i v H Q => ∃ p xs k j, o = .ref p ∧ i = .int k ∧ H p = some (.lst xs) ∧ ixN xs.length k = some j ∧ Q (upd H p (.lst (xs.set j v)))
theorem set_list : PSet X rSetL := by
  intro pins s σ H o i v ov iv u Q I ro ri rv h
  obtain ⟨p, xs, k, j, rfl, rfl, hp, hj, q⟩ := h
  cases ro
  obtain ⟨t, rfl⟩ := ri
  obtain ⟨its, n, r, ho, hz⟩ := I.lst hp
  obtain ⟨h1, h2, h3, h4⟩ := ixN_seq hj
  have hl := r.length
  have hn := line63
  have I' : Inv X pins σ (upd H p (.lst (xs.set j v))) { s with heap := s.heap.update p (Obj.mapSeq (·.setIfInBounds j u)) } :=
    I.lstUpd hp ho (mapSeq_set its n j u) (r.set rv j) (by rw [List.length_set]; exact hz) s.toks
  by_cases h0 : 0 ≤ k
  · have hk : k.toNat = j := by
      rw [seqIndex_of h0 h4] at h1
      exact Option.some.inj h1
    exact PySem.W.ki_setAt ho h0 (by omega) (by rw [List.size_toArray, ← hl]; exact h4) (by rw [hk]; exact ⟨_, I', q⟩)
  · have hk : (k + (its.toArray.size : Int)).toNat = j := by
      rw [seqIndex_neg (by omega) h3] at h1
      rw [List.size_toArray, ← hl]
      exact Option.some.inj h1
    exact PySem.W.ki_setBack ho (by omega) (by rw [List.size_toArray, ← hl]; exact h3) (by omega) (by rw [hk]; exact ⟨_, I', q⟩)

/-! ### slices -/
theorem slice_bounds (lo hi : Option Int) (n : Nat) : (sliceBounds lo hi none n).1 = ((HT.sIx n 0 lo : Nat) : Int) ∧ (sliceBounds lo hi none n).2.1 = ((HT.sIx n n hi : Nat) : Int) ∧ (sliceBounds lo hi none n).2.2 = 1 := by
  refine ⟨?_, ?_, rfl⟩
  · cases lo with
    | none => simp [sliceBounds, HT.sIx]
    | some i =>
      simp only [sliceBounds, HT.sIx, Option.getD_none, show (1 : Int) > 0 by decide, if_true]
      by_cases h : i < 0
      · simp only [h, if_true] <;> omega
      · simp only [h, if_false] <;> omega
  · cases hi with
    | none => simp [sliceBounds, HT.sIx]
    | some i =>
      simp only [sliceBounds, HT.sIx, Option.getD_none, show (1 : Int) > 0 by decide, if_true]
      by_cases h : i < 0
      · simp only [h, if_true] <;> omega
      · simp only [h, if_false] <;> omega
theorem slicePick_cut (its : List Value) (lo hi : Option Int) : slicePick its.toArray lo hi none = ((its.drop (HT.sIx its.length 0 lo)).take (HT.sIx its.length its.length hi - HT.sIx its.length 0 lo)).toArray := by
  obtain ⟨h1, h2, h3⟩ := slice_bounds lo hi its.toArray.size
  unfold slicePick
  rw [h1, h2, h3]
  simp only [sliceRange_one, pick_run, List.size_toArray] <;> rfl
/-- xs[lo:hi] of a list: a new list -/
noncomputable def rSlL (K : PySem.W.Frag) : V → Option Int → Option Int → Hp → VK → Prop := fun x lo hi H Q => ∃ a xs, x = .ref a ∧ SqL K H a xs ∧ ∀ p, H p = none → Q (.ref p) (upd H p (.lst (cutV xs lo hi)))
theorem sl_list : SlR X (rSlL X.K) := by
  intro pins s σ H x v vl vu lo hi sl Q I rx hs pl pu h
  obtain ⟨a, xs, rfl, hx, q⟩ := h
  cases rx
  obtain ⟨its, r, ht, hz⟩ := I.list hx
  have hlen := r.length
  refine ⟨"list", _, slot_list_getitem.lookup, ht.isList.typeIs, ?_⟩
  refine wpAny_getItem_list_slice ht.isList hs pl pu .none (by simp) ?_ (by rw [List.size_toArray] <;> omega)
  rw [slicePick_cut, ← hlen]
  refine ⟨.ref s.heap.objs.size, _, I.laid (t' := s.toks) (o := .lst (cutV xs lo hi)) (fun b ob q => Heap.get?_push_of_some _ q) (Nat.le_refl _) ?_, rfl, q _ (I.hok.fresh (Nat.le_refl _))⟩
  exact ⟨Nat.le_trans (cutV_length xs lo hi) hz, _, 0, (r.drop (HT.sIx xs.length 0 lo)).take (HT.sIx xs.length xs.length hi - HT.sIx xs.length 0 lo), Heap.get?_push_size _ rfl⟩

/-! ### in, not in: flat items -/

/-! ### len, list(x), tuple(x) of any list or tuple that is read -/
theorem call_len_seq : CallR X (.builtin "len") (fun xs H Q => ∃ p ys, xs = [.ref p] ∧ (SqL X.K H p ys ∨ SqT X.K H p ys) ∧ Q (.int ys.length) H) := by
  intro pins s σ H xs us Q I r h
  obtain ⟨p, ys, rfl, hq, q⟩ := h
  obtain ⟨u, rfl, rx⟩ := vals1 r
  cases rx
  have hn := line63
  rcases hq with hq | hq
  · obtain ⟨its, r', pl, hz⟩ := I.list hq
    have hlen := r'.length
    exact Calls.call_len_list pl.isList (by simp only [List.size_toArray] <;> omega) ⟨.int ys.length, H, I.tok _, ⟨s.toks + 1, by rw [List.size_toArray, hlen]⟩, q⟩
  · obtain ⟨its, r', pl, hz⟩ := I.tuple hq
    have hlen := r'.length
    exact len_tuple pl (by simp only [List.size_toArray] <;> omega) ⟨.int ys.length, H, I.tok _, ⟨s.toks + 1, by rw [List.size_toArray, hlen]⟩, q⟩
theorem call_list_of : CallR X (.type "list") (fun xs H Q => ∃ p ys, xs = [.ref p] ∧ (SqL X.K H p ys ∨ SqT X.K H p ys) ∧ ∀ l, H l = none → Q (.ref l) (upd H l (.lst ys))) := by
  intro pins s σ H xs us Q I r h
  obtain ⟨p, ys, rfl, hq, q⟩ := h
  obtain ⟨u, rfl, rx⟩ := vals1 r
  cases rx
  have fin : ∀ (its : List Value), Vals ys its → ys.length ≤ sizeLine → ∀ (h' : Heap) (c' : Nat), (∀ b o', s.heap.get? b = some o' → h'.get? b = some o') →
      h'.get? s.heap.objs.size = some { cls := .type "list", dict := none, data := .seq its.toArray c', slots := #[] } → EP X pins σ Q (.ref s.heap.objs.size) { s with heap := h' } := fun its r' hz h' c' kp e =>
    ⟨.ref s.heap.objs.size, _, I.laid (t' := s.toks) kp (Nat.le_refl _) (show ObjOk X.prog X.w _ h' _ (.lst ys) from ⟨hz, its, c', r', e⟩), rfl, q _ (I.hok.fresh (Nat.le_refl _))⟩
  rcases hq with hq | hq
  · obtain ⟨its, r', pl, hz⟩ := I.list hq
    have hlen := r'.length
    obtain ⟨o, ho, hc, n, hd⟩ := pl.isList
    exact call_list_seq p (.inl rfl) ho hc hd (fun h' c' kp e => fin its r' hz h' c' kp e) (by simp only [List.size_toArray] <;> omega)
  · obtain ⟨its, r', pl, hz⟩ := I.tuple hq
    have hlen := r'.length
    obtain ⟨o, ho, hc, n, hd⟩ := pl
    exact call_list_seq p (.inr rfl) ho hc hd (fun h' c' kp e => fin its r' hz h' c' kp e) (by simp only [List.size_toArray] <;> omega)

/-! ### the call of a builtin's method: o.m(..) -/
/-- the value is of that builtin type -/
noncomputable def tyV (K : PySem.W.Frag) (T : String) (x : V) (H : Hp) : Prop := match x with
  | .str _ => T = "str"
  | .int _ => T = "int"
  | .ref p => (T = "list" ∧ ∃ xs, SqL K H p xs) ∨ (T = "tuple" ∧ ∃ o, K.lookup p = some o ∧ o.cls = .type "tuple" ∧ o.dict = none) ∨
      (T = "dict" ∧ ((∃ kvs, H p = some (.dK kvs)) ∨ ∃ kvs, H p = some (.dT kvs))) ∨ (T = "set" ∧ ∃ S n, H p = some (.set S n))
  | _ => False
theorem tyV_is {pins : List (Addr × Obj)} {σ : St} {H : Hp} {s : Shared} {T : String} {x : V} {v : Value} (I : Inv X pins σ H s) (r : RelV x v) (ty : tyV X.K T x H) :
    s.TypeIs v T ∧ ∀ a, v = .ref a → ∃ ob, s.heap.get? a = some ob ∧ ob.dict = none := by
  cases x with
  | str z =>
    obtain ⟨t, rfl⟩ := r
    cases (show T = "str" from ty)
    exact ⟨typeIs_str s z t, fun _ e => nomatch e⟩
  | int i =>
    obtain ⟨t, rfl⟩ := r
    cases (show T = "int" from ty)
    exact ⟨typeIs_int s i t, fun _ e => nomatch e⟩
  | ref p =>
    cases r
    rcases ty with ⟨rfl, xs, hq⟩ | ⟨rfl, o, hk, hc, hd⟩ | ⟨rfl, hk⟩ | ⟨rfl, S, n, hk⟩
    · obtain ⟨its, _, pl, _⟩ := I.list hq
      refine ⟨pl.isList.typeIs, fun a e => ?_⟩
      cases e
      obtain ⟨o, n, e, c, hd, _⟩ := pl
      exact ⟨o, e, hd⟩
    · refine ⟨⟨o, I.kIn p o hk, hc⟩, fun a e => ?_⟩
      cases e
      exact ⟨o, I.kIn _ o hk, hd⟩
    · have z : ∃ o, s.heap.get? p = some o ∧ o.ExactDict := by
        rcases hk with ⟨kvs, hk⟩ | ⟨kvs, hk⟩
        · obtain ⟨_, _, _, _, o, _, _, e, ex, _⟩ := I.hok p _ hk
          exact ⟨o, e, ex⟩
        · obtain ⟨_, _, _, _, o, _, _, e, ex, _⟩ := I.hok p _ hk
          exact ⟨o, e, ex⟩
      obtain ⟨o, e, ex⟩ := z
      refine ⟨⟨o, e, ex.1⟩, fun a e2 => ?_⟩
      cases e2
      exact ⟨o, e, ex.2.1⟩
    · obtain ⟨o, _, _, _, e, ex, _⟩ := I.hok p _ hk
      refine ⟨⟨o, e, ex.1⟩, fun a e2 => ?_⟩
      cases e2
      exact ⟨o, e, ex.2.1⟩
  | _ => exact False.elim ty
noncomputable def tBM (K : PySem.W.Frag) (T : String) (r : V → List V → Hp → VK → Prop) (to : TE) (t : TA) : TE := fun σ H Q => to σ H fun x H1 => tyV K T x H1 ∧ t σ H1 fun xs H2 => r x xs H2 Q
variable {o e : Expr} {es : List Expr} {to : TE} {t : TA} {name : Str} {apos cpos : Pos} {T id : String} {r : V → List V → Hp → VK → Prop}
theorem pe_bm (pa : PlainAttrs T) (slot : Slot T name id) (hty : typeOf (.builtin id) = pure (.type "method_descriptor")) (hm : MtR X id r) (ho : PE X o to) (ha : PA X (e :: es) t)
    (hbase : attributeBase o name X.env (eval o X.env) = eval o X.env := by rfl)
    (hfew : ((backTo cpos (starEach (e :: es) X.env)).all (fun x => !x.1) && (backToKw cpos (keywordEach [] X.env)).all (fun x => x.1.isSome)
      && decide ((e :: es).length + ([] : List Keyword).length + (if ([] : List Keyword).isEmpty then 0 else 1) < 30)) = true := by rfl)
    (hline : (apos.endLine == cpos.line) = true := by rfl) (hs : starEach (e :: es) X.env = (false, eval e X.env) :: starEach es X.env := by rfl) (hplain : (backTo cpos (starEach es X.env)).any (·.1) = false := by rfl) :
    PE X (.Call (.Attribute o name apos) (e :: es) [] cpos) (tBM X.K T r to t) := by
  intro pins s σ H Q I h
  refine wpAny_Call_method_late hbase hfew hline rfl (thn (ho pins s σ H _ I h) fun v s1 zz => ?_)
  obtain ⟨x, H1, I1, r1, ty, q1⟩ := zz
  obtain ⟨h1, h2⟩ := tyV_is I1 r1 ty
  refine ⟨T, id, pa, slot, hty, h1, h2, ?_⟩
  have hA := ha cpos pins s1 σ H1 _ I1 q1
  rw [hs] at hA ⊢
  refine Calls.callWith_builtin (by show (false || (backTo cpos (starEach es X.env)).any (·.1)) = false; rw [hplain] <;> rfl) (Calls.evalArgs_plain ?_)
  exact thn hA fun us s2 ⟨vs, H2, I2, r2, q2⟩ => hm pins s2 σ H2 x vs v us Q I2 r1 r2 q2
/- xs.append(e), list.index on a module's tuple .. are MtR facts of 06m -/
end
end L2

namespace L2
open PySem PySem.Spec PyProof.Rows

noncomputable def MtM (X : Cx) (id : String) (r : V → List V → Hp → VK → Prop) : Prop :=
  ∀ (pins : List (Addr × Obj)) (s : Shared) (σ : St) (H : Hp) (x : V) (xs : List V) (v : Value) (us : List Value) (Q : VK), Inv X pins σ H s → RelV x v → Vals xs us → r x xs H Q →
    wpAny (model X.prog X.w) X.A (call (.builtin id) (v :: us)) (EP X pins σ Q) X.xe s

/-! ### lists of values -/
theorem Vals.one {x : V} {us : List Value} (h : Vals [x] us) : ∃ u, us = [u] ∧ RelV x u := by
  cases h with | cons r h => cases h with | nil => exact ⟨_, rfl, r⟩

section
variable {X : Cx} {pins : List (Addr × Obj)} {σ : St} {H : Hp} {s : Shared} {l b : Addr} {xs ys zs : List V}

/-! ### the two steps: a tracked list is rewritten, a new list is laid -/
theorem Inv.lset {its its' : List Value} {n : Nat} {f : Array Value → Array Value} {t' : Nat} (I : Inv X pins σ H s) (hH : H l = some (.lst xs))
    (e : s.heap.get? l = some { cls := .type "list", data := .seq its.toArray n }) (hf : f its.toArray = its'.toArray) (hv : Vals ys its') (hz : ys.length ≤ sizeLine) :
    Inv X pins σ (upd H l (.lst ys)) { s with heap := s.heap.update l (Obj.mapSeq f), toks := t' } := by
  have q := PySem.IsL.update e f
  rw [hf] at q
  refine I.write (x := l) (e := l) (by rw [hH]; exact trivial) (.inl rfl) (fun b' u hb hu => (Heap.get?_update_other s.heap (Obj.mapSeq f) (Ne.symm hb)).trans hu) ⟨_, q⟩ ?_
  exact ⟨hz, its', _, hv, q⟩
theorem Inv.lnew {its : List Value} {t' : Nat} (I : Inv X pins σ H s) (hv : Vals ys its) (hz : ys.length ≤ sizeLine) :
    Inv X pins σ (upd H s.heap.objs.size (.lst ys)) { s with heap := s.heap.push { cls := .type "list", data := .seq its.toArray }, toks := t' } :=
  I.laid (fun _ _ q => Heap.get?_push_of_some _ q) (Nat.le_refl _) ⟨hz, its, 0, hv, Heap.get?_push_size _ rfl⟩
theorem Inv.fresh (I : Inv X pins σ H s) : H s.heap.objs.size = none := I.hok.fresh (Nat.le_refl _)
theorem Inv.lstM (I : Inv X pins σ H s) (hH : H l = some (.lst xs)) : xs.length ≤ sizeLine ∧ ∃ (its : List Value) (n : Nat), Vals xs its ∧ xs.length = its.length ∧ s.heap.get? l = some { cls := .type "list", data := .seq its.toArray n } := by
  obtain ⟨z, its, n, r, e⟩ := I.hok l _ hH
  exact ⟨z, its, n, r, r.length, e⟩

end

section
variable {X : Cx}

/-! ### methods -/
noncomputable def rAppend : V → List V → Hp → VK → Prop := fun x vs H Q => ∃ l xs y, x = .ref l ∧ vs = [y] ∧ H l = some (.lst xs) ∧ xs.length < sizeLine ∧ Q .non (upd H l (.lst (xs ++ [y])))
theorem mt_append : MtM X "list.append" rAppend := by
  intro pins s σ H x vs v us Q I rx rv h
  obtain ⟨l, xs, y, rfl, rfl, hH, hz, q⟩ := h
  cases rx
  obtain ⟨u, rfl, ru⟩ := rv.one
  obtain ⟨z, its, n, r, hl, e⟩ := I.lstM hH
  refine call_meets F.slot_list_append ⟨_, e, rfl⟩ F.entry_list_append (F.args_list_append_2 _ _) (PySem.list_append l its.toArray n u (by rw [List.size_toArray]; omega)) ⟨e, ?_⟩
  refine ⟨.non, _, I.lset (its' := its ++ [u]) hH e (by simp) (r.append (.cons ru .nil)) ?_, rfl, q⟩
  rw [List.length_append, List.length_singleton]
  omega






/-! ### list + list, list += list, list * int -/
noncomputable def rCat : R2 := fun x y H Q => ∃ l b xs zs, x = .ref l ∧ y = .ref b ∧ H l = some (.lst xs) ∧ H b = some (.lst zs) ∧ xs.length + zs.length ≤ sizeLine ∧ ∀ p, H p = none → Q (.ref p) (upd H p (.lst (xs ++ zs)))
theorem op_cat : OpR X (binaryOp .Add) rCat := by
  intro pins s σ H x y v u Q I rx ry h
  obtain ⟨l, b, xs, zs, rfl, rfl, hH, hB, hz, q⟩ := h
  cases rx
  cases ry
  obtain ⟨z, its, n, r, hl, e⟩ := I.lstM hH
  obtain ⟨z2, its2, n2, r2, hl2, e2⟩ := I.lstM hB
  refine PySem.P.add_list e e2 ?_ (by rw [List.size_toArray, List.size_toArray]; omega)
  have ea : its.toArray ++ its2.toArray = (its ++ its2).toArray := by simp
  rw [ea]
  exact ⟨.ref _, _, I.lnew (t' := s.toks) (r.append r2) (by rw [List.length_append]; omega), rfl, q _ I.fresh⟩

/-! ### del xs[i] -/
end

/-! ### xs[a:b] = ys -/
section
variable {prog : Program} {w : World} {A : Around} {E : Value → Shared → Prop} {s : Shared}
set_option maxRecDepth 100000 in
end

section
variable {X : Cx}
end
end L2


namespace L2
open PySem PySem.Spec PyProof.Rows

/-! ### lists of pairs as tables -/
section
variable {κ : Type} [DecidableEq κ]



end


/-! ### a tracked dict, its keys ints and texts or tuples of these -/


section
variable {P : Program} {w : World} {H : Hp} {h : Heap} {a : Addr}
end



section
variable {X : Cx} {pins : List (Addr × Obj)} {σ : St} {H : Hp} {s : Shared} {a : Addr} {y v : V} {u r : Value} {o : Option V} {A : Around} {E : Value → Shared → Prop}

theorem Inv.big (I : Inv X pins σ H s) : sysModules < s.heap.objs.size := by
  have h : mainGlobals < s.heap.objs.size := (I.mod.glob.keeps I.bk).lt
  exact Nat.lt_trans (by decide) h

end

section
variable {X : Cx} {pins : List (Addr × Obj)} {σ : St} {H : Hp} {s : Shared} {a : Addr} {kvs : List (Key × V)} {k : Key} {u : Value} {A : Around} {E : Value → Shared → Prop}
end


/-! ### readings and rules -/



section
variable {X : Cx} {o i e value : Expr} {pos pos' tpos : Pos} {td ty tv : TE}
end


/-! ### displays -/
theorem dk_empty {P : Program} {w : World} {H : Hp} (h : Heap) (hb : sysModules < h.objs.size) : ObjOk P w H (h.push { cls := .type "dict", data := .dict #[] }) h.objs.size (.dK []) :=
  ⟨Nat.zero_le _, beq_eq_false_iff_ne.mpr (Ne.symm (Nat.ne_of_lt hb)), [], .nil, Heap.DictOf.new h⟩
/-- {}, to be a dict of the kind that is wanted -/
noncomputable def tDNewK : TE := fun _ H Q => ∀ p, H p = none → Q (.ref p) (upd H p (.dK []))
section
variable {X : Cx} {pos : Pos}
theorem pe_dnewK : PE X (.Dict [] [] pos) tDNewK := fun pins s σ H Q I h =>
  wpAny_Dict_empty ⟨.ref s.heap.objs.size, _, I.laid (a := s.heap.objs.size) (o := .dK []) (t' := s.toks) (fun _ _ q => Heap.get?_push_of_some _ q) (Nat.le_refl _) (dk_empty s.heap I.big), rfl, h _ (I.hok.fresh (Nat.le_refl _))⟩
end




/-! ### methods -/


section
variable {X : Cx} {pins : List (Addr × Obj)} {σ : St} {H : Hp} {s : Shared} {a : Addr} {y d : V} {u r : Value} {o : Option V} {A : Around} {E : Value → Shared → Prop}
end

section
variable {X : Cx} {o e f : Expr} {apos cpos : Pos} {td ty tx : TE}
end

/-! ### dict(d): a copy -/
section
variable {X : Cx} {pins : List (Addr × Obj)} {σ : St} {H : Hp} {s : Shared} {a : Addr} {kvs : List (Key × V)} {A : Around} {E : Value → Shared → Prop}
end


section
variable {X : Cx} {pins : List (Addr × Obj)} {σ : St} {H : Hp} {s : Shared} {a : Addr} {y : V} {u : Value} {A : Around} {E : Value → Shared → Prop}
end
end L2

namespace Att
open PySem PySem.W PySem.Calls PyProof.Rows

/-! ### the script -/
theorem ints_of_wellAll {P : Params} {h : Heap} : ∀ (ns : List Int) (vs : List Value), WellAll P h vs (ns.map WData.int) → IntsAre vs ns := by
  intro ns
  induction ns with
  | nil =>
    intro vs w
    rw [List.map_nil] at w
    cases w
    exact .nil
  | cons n ns ih =>
    intro vs w
    rw [List.map_cons] at w
    cases w with
    | cons a b =>
      cases a
      exact .cons _ _ (ih _ b)

theorem script_of {l : OpenLaw} {n : Nat} (hn : l.most = some n) {P : Params} {h : Heap} {args : List WData} {vals : List Value}
    (hpre : l.row.toRowW.claim.pre args = true) (hwl : WellAll P h vals args) :
    ∃ a vs ns, vals = [Value.ref a] ∧ args = [WData.list (ns.map WData.int)] ∧ h.get? a = some { cls := .type "list", data := .seq vs.toArray } ∧ IntsAre vs ns ∧ ns.length ≤ n := by
  have hsh : WShape.hasAll [] args [.list .int] = true := (pre_splitW hpre).1
  have hc : l.pre.holds [] { args := args } = true := (pre_splitW hpre).2
  obtain ⟨d, r, rfl, h1, h2⟩ := hasAllW_cons hsh
  obtain rfl := hasAllW_nil h2
  obtain ⟨xs, rfl, h3⟩ := hasW_list h1
  obtain ⟨ns, rfl⟩ := items_int h3
  have hlen : ns.length ≤ n := by
    unfold OpenLaw.pre at hc
    have h4 : (WTm.not (.lt (.lit (.int (n : Int))) (.len (.arg 0)))).holds [] { args := [.list (ns.map .int)] } = true := by
      have h4 := (holds_andW hc).1
      rw [hn] at h4
      exact h4
    have h5 := condW_of h4 (w_not (w_lt w_lit (w_len_list (w_arg rfl))))
    rw [List.length_map] at h5
    refine Nat.le_of_not_lt fun q => ?_
    have q' : (n : Int) < ((ns.length : Nat) : Int) := by omega
    first
      | (rw [decide_eq_true q'] at h5; exact absurd h5 (by decide))
      | (simp at h5; omega)
  cases hwl with
  | cons w1 w2 =>
    cases w2
    cases w1 with
    | list ho hall => exact ⟨_, _, ns, rfl, rfl, ho, ints_of_wellAll ns _ hall, hlen⟩

theorem post_true (l : OpenLaw) (args : List WData) : l.row.toRowW.claim.post args (.bool true) args = true :=
  postW_of (r := l.row.toRowW) (X := (true == true))
    (show WShape.has [] (.bool true) .bool = true by first | rfl | decide | simp [WShape.has, WShape.arms, WShape.armsAll])
    (show (WTm.eq .res (.lit (.bool true))).value [] { args := args, res := some (.bool true), after := args } = some (.bool (true == true)) from w_eq_bool (w_res rfl) w_lit) rfl

/-! ### the attachment: holds_open's last premise (the goal 'hc' behind k_head) from a wpAny of the law's body -/

/-- the same from a codeAny of the CALL (for a layer whose function contracts speak of calls) -/
theorem attach_call {l : OpenLaw} {n : Nat} {q : Program} {loose : List Str} {XP : (Str → Option Value) → Heap → Prop} {YP : World → Heap → Prop} {d : DefRec}
    (hn : l.most = some n) (hdf : d.params.defaults = [])
    (call : ∀ (w : World) (s₀ s₁ : Shared) (mg mb : Str → Option Value) (fa : Addr) (o : Obj) (pm cd doc : Value) (a : Addr) (vs : List Value) (ns : List Int),
      Ground q loose [] XP w s₀ mg mb s₁.heap → YP w s₁.heap →
      s₁.heap.get? fa = some o → o.data = .func (docDef d.name d.params d.body d.scope pm cd doc) → s₁.heap.CodeRec cd d.name → mg d.name = some (.ref fa) →
      s₁.heap.get? a = some { cls := .type "list", data := .seq vs.toArray } → IntsAre vs ns → ns.length ≤ n → s₁.gens = #[] →
      codeAny (model l.prog w) callerA (.call (.ref fa) ⟨[.ref a], []⟩) (fun r s' => r = .ok (.ret (.bool true)) ∧ OldK s₁.heap s'.heap ∧ s'.os = s₁.os ∧ AllBare s'.gens) s₁) :
    WalkO q loose XP YP l.row.toRowW d [] (fun f vs => PySem.call f vs) := by
  intro w s₀ s₁ mg mb G Y fa o pm cd doc dV kV ho hd hcd hD hmg hg args vals as hpre hlay hrd hwl hlo
  obtain rfl : dV = .none := Dflts.none hD hdf
  obtain rfl : kV = .none := Dflts.noKw hD
  obtain ⟨a, vs, ns, rfl, rfl, hobj, hints, hlen⟩ := script_of hn hpre hwl
  refine enter_call (codeAny_mono (call w s₀ s₁ mg mb fa o pm cd doc a vs ns G Y ho (fd_plain hd) hcd hmg hobj hints hlen hg) fun r s' hq => ?_)
  obtain ⟨rfl, h2, h3, h4⟩ := hq
  exact ⟨.inl ⟨.bool true, .bool true, [], rfl, fun _ => rfl, .bool true, post_true l _, fun _ => ⟨List.Pairwise.nil, fun _ hm => (nomatch hm)⟩⟩, h2, h3, h4⟩


/-! ### rules over ANY heap (no ledger) from facts about the written part K: the library's own take a ledger (News) for what they write -/
section
variable {prog : Program} {w : World} {A : Around} {E : Value → Shared → Prop} {s : Shared} {K : Frag}





/-! the whole heap as the ledger: makes every rule that writes through a ledger a rule over any heap -/

end
end Att

namespace L2
open PySem PySem.Spec PyProof.Rows

theorem vals_ints : ∀ {vs : List Value} {ns : List Int}, IntsAre vs ns → Vals (ns.map V.int) vs
  | _, _, .nil => .nil
  | _, _, .cons n t h => .cons ⟨t, rfl⟩ (vals_ints h)

/-- nothing is tracked but the script, known to the object (or it is an object of the module) -/
noncomputable def Only (H : Hp) : Prop := ∀ b, H b = none ∨ ∃ o xs, H b = some (.frz o (.lst xs))

/-- THE HEAD: the law's promise, at the heap behind the top. F, the promise of the law's def, may use that base is part of the heap (so K.In base, base.Ns mainGlobals mg stand in Mod) -/
theorem law_call {P : Program} {w : World} {K : PySem.W.Frag} {mg mb : Str → Option Value} {CX : CXT} {k : Nat} {fa a : Addr} {fd : FuncData} {x : Str} {sp : Sp} {s₁ : Shared} {vs : List Value} {ns : List Int}
    (KX : K.In s₁.heap) (hns : s₁.heap.Ns mainGlobals mg) (hb : s₁.heap.Ns builtinsNs mb) (hbb : ∀ x : Str, x ≠ "__name__" → mb x = bootBuiltins x) (hlim : s₁.heap.NoLimit) (hg : s₁.gens = #[])
    (ha : s₁.heap.get? a = some { cls := .type "list", data := .seq vs.toArray }) (hi : IntsAre vs ns) (hl : ns.length ≤ sizeLine) (hr : Room k callerA)
    (F : ∀ base : Heap, K.In base → base.Ns mainGlobals mg → FnOk P w K mg base CX k fa fd [x] sp) (hbind : ∀ (s : Shared) (u : Value), BindsTo s fd ⟨[u], []⟩ [(x, u)])
    (hsp : ∀ H : Hp, Only H → SqL K H a (ns.map V.int) → sp [.ref a] H (fun v _ => v = .bl true) fun _ _ _ => False)
    (hCX : ∀ H e s', CX [] H s₁ (fun _ _ _ => False) e s' → False) :
    codeAny (model P w) callerA (.call (.ref fa) ⟨[.ref a], []⟩) (fun r s' => r = .ok (.ret (.bool true)) ∧ OldK s₁.heap s'.heap ∧ s'.os = s₁.os ∧ AllBare s'.gens) s₁ := by
  have rv := vals_ints hi
  have lenV := hi.length
  -- from an abstract heap in which nothing but the script may be tracked
  have core : ∀ H : Hp, Only H → SqL K H a (ns.map V.int) → HOk P w H s₁.heap → (∀ b, H b ≠ none → b = a) → (H a ≠ none → K.lookup a = none) →
      codeAny (model P w) callerA (.call (.ref fa) ⟨[.ref a], []⟩) (fun r s' => r = .ok (.ret (.bool true)) ∧ OldK s₁.heap s'.heap ∧ s'.os = s₁.os ∧ AllBare s'.gens) s₁ := by
    intro H hO hS hok hA hK
    have base_of : ∀ {b : Addr} {o : Obj}, s₁.heap.get? b = some o → H b = none → (hidT s₁.heap H).get? b = some o := fun e n => hidT_get e n
    have noA : ∀ {b : Addr} {o : Obj} {es : Array DictEntry} {ep : Nat}, s₁.heap.get? b = some o → o.data = .dict es ep → H b = none := fun {b o es ep} e d => by
      cases q : H b with
      | none => rfl
      | some u =>
        have e' : b = a := hA b (by rw [q]; simp)
        subst e'
        rw [ha] at e; cases e
        have d' : Data.seq vs.toArray _ = Data.dict es ep := d
        cases d'
    have nsK : ∀ {b : Addr} {m : Str → Option Value}, s₁.heap.Ns b m → (hidT s₁.heap H).Ns b m := fun {b m} ⟨o, es, ep, e, d, r⟩ => ⟨o, es, ep, base_of e (noA e d), d, r⟩
    have hKb : K.In (hidT s₁.heap H) := fun b o e => base_of (KX b o e) (by
      cases q : H b with
      | none => rfl
      | some u =>
        have e' : b = a := hA b (by rw [q]; simp)
        subst e'
        rw [hK (by rw [q]; simp)] at e; cases e)
    have hM : Mod K mg (hidT s₁.heap H) := ⟨hKb, nsK hns, ⟨mb, nsK hb, hbb⟩, let ⟨mc, h1, h2⟩ := hlim; ⟨mc, nsK h1, h2⟩⟩
    have e0 : Env0 P w K mg (hidT s₁.heap H) callerA [] s₁ H := ⟨rfl, hM, fun b o e => of_hidT e, Nat.le_of_eq (hidT_size _ _), trivial, fun b hb => absurd (show b ∈ ([] : List Addr) from hb) (by simp), hok, .of_eq hg⟩
    refine codeAny_mono ((F _ hKb (nsK hns)).run callerA [] s₁ H ⟨[.ref a], []⟩ [.ref a] [.ref a] _ _ hr e0 (hbind s₁ (.ref a)) (.cons rfl .nil) (hsp H hO hS)) fun r s' h => ?_
    cases r with
    | error e => exact (hCX H e s' h).elim
    | ok fl =>
      cases fl with
      | next => exact False.elim h
      | brk => exact False.elim h
      | cont => exact False.elim h
      | ret u =>
        obtain ⟨v, H', os, bare, un, hok', r', q⟩ := h
        have q' : v = .bl true := q
        subst q'
        obtain rfl : u = Value.bool true := r'
        refine ⟨rfl, OldK.of_keep fun b o e => ?_, os, bare⟩
        cases q : H b with
        | none => exact un.keep b o e q (by intro z; exact absurd (show b ∈ ([] : List Addr) from z) (by simp)) (by simp)
        | some u =>
          rcases hO b with z | ⟨ob, xs, z⟩
          · rw [q] at z; cases z
          · have z2 := un.frzs b ob _ z
            obtain ⟨e1, _⟩ := hok b _ z
            obtain ⟨e2, _⟩ := hok' b _ z2
            rw [e] at e1; cases e1
            exact e2
  cases hk : K.lookup a with
  | some o =>
    -- the script is one of the module's own objects
    have e := KX a o hk
    rw [ha] at e
    cases e
    refine core (fun _ => none) (fun _ => .inl rfl) (.inr ⟨_, vs.toArray, _, hk, rfl, rfl, rfl, by rw [List.size_toArray, lenV]; exact hl, by simpa using rv⟩) (fun b u z => by have z' : (none : Option HO) = some u := z; cases z') (fun b z => absurd rfl z) fun z => absurd rfl z
  | none =>
    refine core (fun b => if b = a then some (.frz { cls := .type "list", data := .seq vs.toArray } (.lst (ns.map V.int))) else none) (fun b => ?_) (.inl (.inr ⟨{ cls := .type "list", data := .seq vs.toArray }, if_pos rfl⟩)) (fun b u z => ?_) (fun b z => ?_) fun _ => hk
    · by_cases hb : b = a
      · exact .inr ⟨_, _, if_pos hb⟩
      · exact .inl (if_neg hb)
    · by_cases hb : b = a
      · have z' := (if_pos hb).symm.trans z
        cases z'
        subst hb
        exact ⟨ha, by rw [List.length_map]; exact hl, vs, _, rv, ha⟩
      · have z' := (if_neg hb).symm.trans z
        cases z'
    · by_cases hb : b = a
      · exact hb
      · exact absurd (if_neg hb) z
end L2

namespace L2
open PySem PySem.Spec PyProof.Rows


/-- the goal that k_head leaves (case hc), from the law's promise. F gives the function object fd (K's own) once, then the promise over every base -/
theorem walk_of {l : PySem.W.OpenLaw} {n k : Nat} {q : Program} {loose : List Str} {XP : (Str → Option Value) → Heap → Prop} {YP : World → Heap → Prop} {d : DefRec} {K : Params → PySem.W.Frag} {CX : World → CXT} {sp : World → Sp} {x : Str}
    (hn : l.most = some n) (hn2 : n ≤ sizeLine) (hdf : d.params.defaults = []) (hr : Room k callerA)
    (hY : ∀ (w : World) (h : Heap), YP w h → (K w.params).In h)
    (F : ∀ (w : World) (mg : Str → Option Value) (fa : Addr) (h : Heap), (K w.params).In h → h.Ns mainGlobals mg → mg d.name = some (.ref fa) →
      ∃ fd : FuncData, (∀ (s : Shared) (u : Value), BindsTo s fd ⟨[u], []⟩ [(x, u)]) ∧
        ∀ base : Heap, (K w.params).In base → base.Ns mainGlobals mg → FnOk l.prog w (K w.params) mg base (CX w) k fa fd [x] (sp w))
    (hsp : ∀ (w : World) (H : Hp) (a : Addr) (ns : List Int), ns.length ≤ n → Only H → SqL (K w.params) H a (ns.map V.int) → sp w [.ref a] H (fun v _ => v = .bl true) fun _ _ _ => False)
    (hCX : ∀ (w : World) (H : Hp) (s : Shared) (e : Value) (s' : Shared), CX w [] H s (fun _ _ _ => False) e s' → False) :
    PySem.W.WalkO q loose XP YP l.row.toRowW d [] (fun f vs => PySem.call f vs) := by
  refine Att.attach_call hn hdf fun w s₀ s₁ mg mb fa o pm cd doc a vs ns G Y ho hd hcd hmg hobj hints hlen hg => ?_
  have KX := hY w _ Y
  obtain ⟨fd, hb, hF⟩ := F w mg fa _ KX G.T.g hmg
  exact law_call KX G.T.g G.T.b G.T.builtins G.T.nolimit hg hobj hints (Nat.le_trans hlen hn2) hr hF hb (fun H hO hS => hsp w H a ns hlen hO hS) fun H e s' => hCX w H s₁ e s'
end L2

/- THE LAST THEOREM (shape; LID, My.* are yours):
   My.Adr: a structure of the addresses that your layer names (classes, functions); My.Txt K t: a structure (Prop) of the equations over K;
   My.txt_mk : {K} {implicit addresses ..} (e1 : nsIn K mainGlobals "law" = some (some (.ref f))) (e2 : K.lookup f = some ⟨oc, od, .func (fnOf "law" "law" params body scope dV kV doc pm an cdv ct), sl⟩) (e3 : codeIn K cdv "law" = true) .. : ∃ t, My.Txt K t

set_option maxRecDepth 100000 in
set_option maxHeartbeats 0 in
theorem PySem.Challenge.cw_LID_holds : PySem.Challenge.rw_LID.Holds := by
  w_on; o_law; k_head; (case hw => w_witness2)
  k_fill
  refine L2.walk_of (l := PySem.Challenge.rw_LID) (n := 63) (k := 40) (x := "script") (CX := fun w => ..) (sp := fun _ => My.sp_law) rfl (by decide) rfl ⟨rfl, by decide, by decide⟩ (fun w h Y => PySem.W.kIn_of Y) ?F ?S ?C
  case F =>
    intro w mg fa h KX G hmg
    have T : ∃ t, My.Txt (L2.KOf KX) t := by
      dsimp only [L2.KOf]                          -- K must stand as «<heap const> w.params» for k_is
      refine' My.txt_mk ?e1 ?e2 ?e3 ..
      (case e1 => PySem.W.k_is)                    -- in the order: a name -> its address -> its object -> its parts
      (case e2 => PySem.W.k_is)
      ..
    obtain ⟨t, T⟩ := T
    have e0 := hmg.symm.trans (PySem.W.mg_of KX G T.law)
    cases e0                                       -- fa is the law's own address
    exact ⟨_, fun s u => .of_eq rfl, fun base kb nb => My.law_fn T kb nb⟩     -- if «.of_eq rfl» comes too early: refine' ⟨_, ?b, fun base kb nb => My.law_fn T kb nb⟩; exact fun s u => .of_eq rfl
  case S => exact fun w H a ns hl hO hS => ..
  case C => exact ..
(the tactic k_is has no namespace: write k_is) -/

/-! SHORT WORDS over the layer: a def of the text, its body, what a loop and a test want. -/
namespace L2
open PySem PySem.Spec PyProof.Rows

/-! ### the text by places -/
noncomputable def defArgs (s : Stmt) : Arguments := match s with
  | .FunctionDef _ a _ _ _ _ _ _ _ _ => a
  | _ => { posonlyargs := [], args := [], vararg := none, kwonlyargs := [], kw_defaults := [], kwarg := none, defaults := [] }
noncomputable def defBody (s : Stmt) : List Stmt := match s with
  | .FunctionDef _ _ b _ _ _ _ _ _ _ => b
  | _ => []
noncomputable def defScope (s : Stmt) : Scope := match s with
  | .FunctionDef _ _ _ _ _ _ sc _ _ _ => sc
  | _ => { kind := .function, names := [], isGenerator := false, isCoroutine := false }

/-! ### no exception leaves a def -/
noncomputable abbrev CX0 : CXT := fun _ _ _ _ _ _ => False
noncomputable abbrev E0 : XK := fun _ _ _ => False
theorem pass0 {X : Cx} : Passes CX0 X E0 := fun _ _ _ _ _ _ _ h => h.elim

/-! ### a def (or method) of the text as it stands behind the top -/
structure Fun (K : PySem.W.Frag) (x qual : Str) (st : Stmt) (f : Addr) (fd : FuncData) : Prop where
  ex : ∃ (oc : Value) (od : Option Addr) (kV doc pm : Value) (an : Option Addr) (cdv ct : Value) (osl : Array (Option Value)),
    fd = PySem.W.fnOf x qual (defArgs st) (defBody st) (defScope st) .none kV doc pm an cdv ct ∧ K.lookup f = some ⟨oc, od, .func fd, osl⟩ ∧ PySem.W.codeIn K cdv qual = true
  kp : PySem.W.keepIn K (.ref f) = true
section
variable {P : Program} {w : World} {K : PySem.W.Frag} {mg : Str → Option Value} {base : Heap}
/-- THE RULE for a def: its body as a term of rules, and the reading of that term -/
theorem Fun.ok {x qual : Str} {st : Stmt} {f : Addr} {fd : FuncData} {N ps : List Str} {k : Nat} {sp : Sp} (F : Fun K x qual st f fd) (S : FnScope N ps (defScope st)) (len : ∀ vs H Q E, sp vs H Q E → vs.length = ps.length)
    (hbody : ∀ (cdv : Value) (A : Around) (outer : List Env) (s : Shared) (H : Hp) (vs : List V) (Q : VK) (E : XK), Room k (A.deeper (envOfC qual (defScope st) s.heap.objs.size f cdv)) → sp vs H Q E →
      ∃ t, PSs (cxOf CX0 P w K mg base N qual (defScope st) f cdv A outer s H E).nox (defBody st) t ∧ t { nx := fun _ H' => Q .non H', rt := Q } (start N vs) H) : FnOk P w K mg base CX0 (k + 1) f fd ps sp := by
  obtain ⟨oc, od, kV, doc, pm, an, cdv, ct, osl, rfl, lk, hcd⟩ := F.ex
  refine fn_of lk hcd S len fun A outer s H vs Q E hr hsp => ?_
  obtain ⟨t, h, q⟩ := hbody cdv A outer s H vs Q E hr hsp
  exact ⟨t, h.nox, q⟩
/-- how its arguments bind (no defaults): h is «fun _ _ _ _ _ _ us hl => match us, hl with | [_, _], _ => rfl», one _ a parameter -/
theorem Fun.binds {x qual : Str} {st : Stmt} {f : Addr} {fd : FuncData} {ps : List Str} (F : Fun K x qual st f fd)
    (h : ∀ (kV doc pm : Value) (an : Option Addr) (cdv ct : Value) (us : List Value), us.length = ps.length → bindArgs (PySem.W.fnOf x qual (defArgs st) (defBody st) (defScope st) .none kV doc pm an cdv ct) ⟨us, []⟩ = pure (ps.zip us)) : Binds K fd ps [] := by
  obtain ⟨oc, od, kV, doc, pm, an, cdv, ct, osl, rfl, lk, hcd⟩ := F.ex
  exact .all (h kV doc pm an cdv ct)
theorem fun_mk {x qual : Str} {st : Stmt} {f : Addr} {oc : Value} {od an : Option Addr} {osl : Array (Option Value)} {kV doc pm cdv ct : Value} (l : K.lookup f = some ⟨oc, od, .func (PySem.W.fnOf x qual (defArgs st) (defBody st) (defScope st) .none kV doc pm an cdv ct), osl⟩)
    (c : PySem.W.codeIn K cdv qual = true) (k : PySem.W.keepIn K (.ref f) = true) : Fun K x qual st f (PySem.W.fnOf x qual (defArgs st) (defBody st) (defScope st) .none kV doc pm an cdv ct) := ⟨⟨oc, od, kV, doc, pm, an, cdv, ct, osl, rfl, l, c⟩, k⟩
end
theorem small1000 {n : Nat} (h : n ≤ 1000) : n < sizeLine := Nat.lt_of_le_of_lt h (by decide)

/-! ### expressions in short: the name that stands in the i-th slot -/
section
variable {X : Cx}
end

/-! ### tests -/
theorem iteF {A B : Prop} (h : B) : if false = true then A else B := by
  rw [if_neg Bool.false_ne_true]
  exact h
theorem iteT {A B : Prop} (h : A) : if true = true then A else B := by
  rw [if_pos rfl]
  exact h
theorem ite2 {c A B : Prop} [Decidable c] (h1 : c → A) (h2 : ¬ c → B) : if c then A else B := by
  by_cases h : c
  · rw [if_pos h]
    exact h1 h
  · rw [if_neg h]
    exact h2 h

/-! ### heaps -/
/-- all that was tracked is as it was -/
noncomputable def Same (H H' : Hp) : Prop := ∀ b o, H b = some o → H' b = some o
theorem Same.refl (H : Hp) : Same H H := fun _ _ h => h
theorem Same.trans {H H1 H2 : Hp} (a : Same H H1) (b : Same H1 H2) : Same H H2 := fun c o h => b c o (a c o h)
theorem Same.free {H H' : Hp} (e : Same H H') {l : Addr} (h : H' l = Option.none) : H l = Option.none := by
  cases q : H l with
  | none => rfl
  | some o =>
    rw [e l o q] at h
    cases h
theorem Same.seq {K : PySem.W.Frag} {H H' : Hp} {a : Addr} {xs : List V} (e : Same H H') (h : SqL K H a xs) : SqL K H' a xs := by
  rcases h with (h | ⟨o, h⟩) | h
  · exact .inl (.inl (e _ _ h))
  · exact .inl (.inr ⟨o, e _ _ h⟩)
  · exact .inr h

/-! ### a dict's pairs: keys that differ -/
section
variable {κ : Type} [DecidableEq κ]
end
end L2


namespace GM
/-! Whole numbers: divisors, lowest ratios, sizes. -/



end GM


set_option Elab.async false
set_option linter.all false
set_option maxRecDepth 100000
/-! MY RULES over the hand layer -/
namespace L2
open PySem PySem.Spec PyProof.Rows

/-! ### argument lists without stars: by a look at each item's head alone -/
noncomputable def noStar : Expr → Bool
  | .Starred _ _ => false
  | _ => true
theorem star_cons {e : Expr} {es : List Expr} {env : Env} (h : noStar e = true) : starEach (e :: es) env = (false, eval e env) :: starEach es env := by
  cases e <;> first | rfl | cases h
theorem star_any {pos : Pos} {env : Env} : ∀ {es : List Expr}, es.all noStar = true → (backTo pos (starEach es env)).any (·.1) = false
  | [], _ => rfl
  | e :: es, h => by
    rw [List.all_cons, Bool.and_eq_true] at h
    rw [star_cons h.1]
    show (false || (backTo pos (starEach es env)).any (·.1)) = false
    rw [star_any h.2]; rfl
theorem all_cons1 {e : Expr} {es : List Expr} (h : (e :: es).all noStar = true) : noStar e = true ∧ es.all noStar = true := by
  rw [List.all_cons, Bool.and_eq_true] at h; exact h
section
variable {X : Cx} {e o : Expr} {es : List Expr} {te : TE} {t : TA} {pos p : Pos}
theorem pa_c (ha : PE X e te) (hr : PA X es t) (hs : noStar e = true := by rfl) : PA X (e :: es) (tCons te t) := pa_cons ha hr (star_cons hs)
theorem pe_cB {x : Str} {id : String} {r : List V → Hp → VK → Prop} (hc : CallR X (.builtin id) r) (hg : Gl X x) (hm : X.mg x = none) (hv : bootBuiltins x = some (.builtin id)) (ha : PA X (e :: es) t) (hs : (e :: es).all noStar = true := by rfl)
    (hn : x ≠ "__name__" := by decide) (hdb : (x == ("__debug__" : Str)) = false := by decide) : PE X (.Call (.Name x p) (e :: es) [] pos) (tCB r t) :=
  pe_callB hc hg hm hv ha hn hdb (star_cons (all_cons1 hs).1) (star_any (all_cons1 hs).2)
theorem pe_cTy {x : Str} {T : String} {r : List V → Hp → VK → Prop} (hc : CallR X (.type T) r) (hg : Gl X x) (hm : X.mg x = none) (hv : bootBuiltins x = some (.type T)) (ha : PA X (e :: es) t) (hs : (e :: es).all noStar = true := by rfl)
    (hn : x ≠ "__name__" := by decide) (hdb : (x == ("__debug__" : Str)) = false := by decide) : PE X (.Call (.Name x p) (e :: es) [] pos) (tCB r t) :=
  pe_callTy hc hg hm hv ha hn hdb (star_cons (all_cons1 hs).1) (star_any (all_cons1 hs).2)
theorem few1 {env : Env} {cpos : Pos} (h : noStar e = true) : ((backTo cpos (starEach [e] env)).all (fun x => !x.1) && (backToKw cpos (keywordEach [] env)).all (fun x => x.1.isSome)
      && decide (([e] : List Expr).length + ([] : List Keyword).length + (if ([] : List Keyword).isEmpty then 0 else 1) < 30)) = true := by
  rw [star_cons h]; rfl
theorem pe_append {to : TE} {apos cpos : Pos} (ho : PE X o to) (ha : PA X [e] t) (hs : noStar e = true := by rfl) (hbase : attributeBase o "append" X.env (eval o X.env) = eval o X.env := by rfl) (hline : (apos.endLine == cpos.line) = true := by rfl) :
    PE X (.Call (.Attribute o "append" apos) [e] [] cpos) (tBM X.K "list" rAppend to t) :=
  pe_bm PySem.F.plainAttrs_list PySem.F.slot_list_append PySem.F.type_list_append mt_append ho ha hbase (few1 hs) hline (star_cons hs) rfl
end

/-! ### kinds of values, isinstance -/
inductive Nm where | non | bl | int | str | lst | tup | dct
  deriving DecidableEq
noncomputable def Nm.s : Nm → String
  | .non => "NoneType" | .bl => "bool" | .int => "int" | .str => "str" | .lst => "list" | .tup => "tuple" | .dct => "dict"
noncomputable def isN (n m : Nm) : Bool := decide (n = m) || (decide (n = .bl) && decide (m = .int))
noncomputable def bT (T U : String) : Option Bool := if (Value.type T == Value.type U) = true then some true else if PySem.W.kitMeta U = true then (fastBuiltinMro T).map (·.contains (Value.type U)) else none
theorem kitOne_bT (K : PySem.W.Frag) (T U : String) : PySem.W.kitOne K (.type T) (.type U) = bT T U := rfl
theorem bT_all (n m : Nm) : bT n.s m.s = some (isN n m) := by
  cases n <;> cases m <;> decide +kernel
noncomputable abbrev KindIs (K : PySem.W.Frag) (H : Hp) (v : V) (n : Nm) : Prop := TyOf K H v (.type (Nm.s n))
noncomputable def rIsi (K : PySem.W.Frag) (m : Nm) : List V → Hp → VK → Prop := fun xs H Q => ∃ x n, xs = [x, .ty (Nm.s m)] ∧ KindIs K H x n ∧ Q (.bl (isN n m)) H
theorem call_isinst {X : Cx} (m : Nm) : CallR X (.builtin "isinstance") (rIsi X.K m) := by
  intro pins s σ H xs us Q I r h
  obtain ⟨x, n, rfl, ty, q⟩ := h
  obtain ⟨u, u', rfl, ru, ru'⟩ := vals2 r
  cases ru'
  exact isinst_ok I ru ty ((kitOne_bT _ _ _).trans (bT_all n m)) fun tk => ⟨.bl (isN n m), H, I.tok tk, rfl, q⟩
theorem nm_ne (m : Nm) : (Str.ofString (Nm.s m)) ≠ "__name__" := by cases m <;> decide +kernel
theorem nm_db (m : Nm) : ((Str.ofString (Nm.s m)) == ("__debug__" : Str)) = false := by cases m <;> decide +kernel
theorem boot_nm (m : Nm) (h : m ≠ .non) : bootBuiltins (Str.ofString (Nm.s m)) = some (.type (Nm.s m)) := by
  cases m
  · exact absurd rfl h
  · exact boot_bool
  · exact boot_int
  · exact boot_str
  · exact boot_list
  · exact boot_tuple
  · exact boot_dict
theorem pe_isi {X : Cx} (m : Nm) {e : Expr} {te : TE} {p p2 pos : Pos} (hg : Gl X "isinstance") (hm : X.mg "isinstance" = none) (hgT : Gl X (Str.ofString (Nm.s m))) (hmT : X.mg (Str.ofString (Nm.s m)) = none) (ha : PE X e te) (h0 : m ≠ .non := by decide) (hs : noStar e = true := by rfl) :
    PE X (.Call (.Name "isinstance" p) [e, .Name (Str.ofString (Nm.s m)) p2] [] pos) (tCB (rIsi X.K m) (tCons te (tCons (tC (.ty (Nm.s m))) tNil))) :=
  pe_cB (call_isinst m) hg hm boot_isinstance (pa_c ha (pa_c (pe_bltn hgT hmT (boot_nm m h0) rfl (nm_ne m) (nm_db m)) pa_nil) hs) (by rw [List.all_cons, hs]; rfl)

/-! ### operations -/
section
variable {X : Cx} {a b c : Expr} {ta tb tc : TE} {pos : Pos}
theorem op_mulB : OpR X (binaryOp .Mult) (rI IntMulOk fun i j => .int (i * j)) := opI fun _ _ _ _ _ _ _ hc q => mul_int q hc
end
theorem mulOk_small {i j : Int} (h : j.natAbs < 2 ^ 64) : IntMulOk i j := IntMulOk.of_right (intBits_le_64 (by omega) (by omega))
theorem mulOk_left {i j : Int} (h : i.natAbs < 2 ^ 64) : IntMulOk i j := IntMulOk.of_left (intBits_le_64 (by omega) (by omega))

/-! ### defs -/
structure DefOk (P : Program) (w : World) (K : PySem.W.Frag) (mg : Str → Option Value) (base : Heap) (k : Nat) (x : Str) (ps : List Str) (dvs : List V) (sp : Sp) : Prop where
  ex : ∃ (f : Addr) (fd : FuncData) (ds : List Value), FnOk P w K mg base CX0 k f fd ps sp ∧ Binds K fd ps ds ∧ Vals dvs ds ∧ PySem.W.keepIn K (.ref f) = true ∧ mg x = some (.ref f)
theorem pe_callD {X : Cx} {k j : Nat} {x : Str} {ps : List Str} {dvs : List V} {sp : Sp} {p pos : Pos} {e : Expr} {es : List Expr} {t : TA}
    (D : DefOk X.prog X.w X.K X.mg X.base k x ps dvs sp) (hr : Room j X.A) (hj : k ≤ j) (hg : Gl X x) (ha : PA X (e :: es) t) (hs : (e :: es).all noStar = true := by rfl)
    (hdb : (x == ("__debug__" : Str)) = false := by decide) :
    PE X (.Call (.Name x p) (e :: es) [] pos) (tCall sp dvs E0 t) := by
  obtain ⟨f, fd, ds, F, b, hd, kp, m⟩ := D.ex
  exact pe_call F (hr.mono hj) hg m kp b hd pass0 ha hdb (star_cons (all_cons1 hs).1) (star_any (all_cons1 hs).2)
section
variable {P : Program} {w : World} {K : PySem.W.Frag} {mg : Str → Option Value} {base : Heap}
end
theorem same_new {H : Hp} {p : Addr} (h : H p = none) (o : HO) : Same H (upd H p o) := fun b u q => by rw [upd_ne (ne_of_none q h)]; exact q
end L2


set_option Elab.async false
set_option linter.all false
set_option maxRecDepth 100000
/-! texts written by f-strings -/
namespace L2
open PySem PySem.Spec PyProof.Rows
end L2


set_option Elab.async false
set_option linter.all false
set_option maxRecDepth 100000
/-! THE RULES, their judgements shut: nothing is unfolded where a term of rules is elaborated -/
namespace L2
open PySem PySem.Spec PyProof.Rows
structure QE (X : Cx) (e : Expr) (t : TE) : Prop where h : PE X e t
structure QT (X : Cx) (e : Expr) (t : TT) : Prop where h : PT X e t
structure QW (X : Cx) (e : Expr) (t : TT) : Prop where h : PW X e t
structure QA (X : Cx) (es : List Expr) (t : TA) : Prop where h : PA X es t
structure QS (X : Cx) (st : Stmt) (t : TS) : Prop where h : PS X st t
structure QSs (X : Cx) (st : List Stmt) (t : TS) : Prop where h : PSs X st t
structure QO (X : Cx) (e : Option Expr) (t : TO) : Prop where h : PO X e t
structure QI (X : Cx) (tg iter : Expr) (wi : TI) : Prop where h : PI X tg iter wi
structure QG (X : Cx) (tg : Expr) (t : TG) : Prop where h : PG X tg t
/-- no comprehension -/
noncomputable def noComp : Expr → Bool
  | .ListComp _ _ _ _ => false
  | .SetComp _ _ _ _ => false
  | .DictComp _ _ _ _ _ => false
  | _ => true
theorem swaps_no {e : Expr} {tg : Option Expr} {l : Nat} {env : Env} (h : noComp e = true) : swapsWith e tg l env = pure false := by
  cases e <;> first | rfl | cases h
namespace R
section
variable {X : Cx} {a b c e o : Expr} {es rest : List Expr} {ta tb tc te : TE} {tA tB' : TT} {t : TA} {pos p : Pos}
theorem pv (i : Nat) {x : Str} (hN : X.N[i]? = some x := by rfl) (hv : Vis X.env.scope x := by first | exact Or.inl rfl | exact Or.inr (Or.inl rfl) | exact Or.inr (Or.inr rfl)) (hd : (x == ("__debug__" : Str)) = false := by decide)
    (hcd : (x == ("__classdict__" : Str)) = false := by decide) : QE X (.Name x pos) (tVar i) := ⟨pe_var hN hv hd hcd⟩
theorem pe_int {i : Int} {j : Nat} : QE X (.Constant (.int i) j pos) (tC (.int i)) := ⟨L2.pe_int⟩
theorem pe_bl {k : Bool} {j : Nat} : QE X (.Constant (.bool k) j pos) (tC (.bl k)) := ⟨L2.pe_bl⟩
theorem pe_non {j : Nat} : QE X (.Constant .none j pos) (tC .non) := ⟨L2.pe_non⟩
theorem pe_str {x : Str} {j : Nat} : QE X (.Constant (.str x) j pos) (tC (.str x)) := ⟨L2.pe_str⟩
theorem pe_op {op : Operator} {r : R2} (ho : OpR X (binaryOp op) r) (ha : QE X a ta) (hb : QE X b tb) : QE X (.BinOp a op b pos) (tOp r ta tb) := ⟨L2.pe_op ho ha.h hb.h⟩
theorem pe_not (ha : QE X a ta) : QE X (.UnaryOp .Not a pos) (tNotV ta) := ⟨L2.pe_not ha.h⟩
theorem pe_one {op : BoolOp} (h : QE X a ta) : QE X (.BoolOp op [a] pos) ta := ⟨L2.pe_one h.h⟩
theorem pe_and (ha : QE X a ta) (hb : QE X (.BoolOp .And (b :: rest) pos) tb) : QE X (.BoolOp .And (a :: b :: rest) pos) (tAndV ta tb) := ⟨L2.pe_and ha.h hb.h⟩
theorem pe_cmpR {op : CmpOp} {r : R2} (ho : OpR X (compareOp op) r) (ha : QE X a ta) (hb : QE X b tb) (hm : behindInMarks op b = false) : QE X (.Compare a [op] [b] pos) (tOp r ta tb) := ⟨L2.pe_cmpR ho ha.h hb.h hm⟩
theorem pe_ifExp (hc : QT X c tA) (ha : QE X a ta) (hb : QE X b tb) : QE X (.IfExp c a b pos) (tIf tA ta tb) := ⟨L2.pe_ifExp hc.h ha.h hb.h⟩
theorem po_none : QO X none tNoPart := ⟨L2.po_none⟩
theorem po_some (h : QE X e te) : QO X (some e) (tPart te) := ⟨L2.po_some h.h⟩
theorem pe_slice {lo hi : Option Expr} {tl th : TO} {p2 : Pos} {r : V → Option Int → Option Int → Hp → VK → Prop} (hr : SlR X r) (he : QE X e te) (hl : QO X lo tl) (hu : QO X hi th) : QE X (.Subscript e (.Slice lo hi none p2) pos) (tSl r te tl th) := ⟨L2.pe_slice hr he.h hl.h hu.h⟩
theorem pe_ix {r : R2} (hr : IxR X r) (ha : QE X a ta) (hb : QE X b tb) (hs : PlainIx b) : QE X (.Subscript a b pos) (tOp r ta tb) := ⟨L2.pe_ix hr ha.h hb.h hs⟩
theorem pa_nil : QA X [] tNil := ⟨L2.pa_nil⟩
theorem pa_c (ha : QE X e te) (hr : QA X es t) (hs : noStar e = true := by rfl) : QA X (e :: es) (tCons te t) := ⟨L2.pa_c ha.h hr.h hs⟩
theorem pe_lst (h : QA X es t) : QE X (.List es pos) (tLst t) := ⟨L2.pe_lst h.h⟩
theorem pe_tup {x1 : Nat} (h : QA X es t) : QE X (.Tuple es x1 pos) (tTup t) := ⟨L2.pe_tup h.h⟩
theorem pe_dnewK : QE X (.Dict [] [] pos) tDNewK := ⟨L2.pe_dnewK⟩
theorem pe_callD {k j : Nat} {x : Str} {ps : List Str} {dvs : List V} {sp : Sp} (D : DefOk X.prog X.w X.K X.mg X.base k x ps dvs sp) (hr : Room j X.A) (hj : k ≤ j) (hg : Gl X x) (ha : QA X (e :: es) t) (hs : (e :: es).all noStar = true := by rfl)
    (hdb : (x == ("__debug__" : Str)) = false := by decide) : QE X (.Call (.Name x p) (e :: es) [] pos) (tCall sp dvs E0 t) := ⟨L2.pe_callD D hr hj hg ha.h hs hdb⟩
theorem pe_isi (m : Nm) {p2 : Pos} (hg : Gl X "isinstance") (hm : X.mg "isinstance" = none) (hgT : Gl X (Str.ofString (Nm.s m))) (hmT : X.mg (Str.ofString (Nm.s m)) = none) (ha : QE X e te) (h0 : m ≠ .non := by decide) (hs : noStar e = true := by rfl) :
    QE X (.Call (.Name "isinstance" p) [e, .Name (Str.ofString (Nm.s m)) p2] [] pos) (tCB (rIsi X.K m) (tCons te (tCons (tC (.ty (Nm.s m))) tNil))) := ⟨L2.pe_isi m hg hm hgT hmT ha.h h0 hs⟩
theorem pe_cB {x : Str} {id : String} {r : List V → Hp → VK → Prop} (hc : CallR X (.builtin id) r) (hg : Gl X x) (hm : X.mg x = none) (hv : bootBuiltins x = some (.builtin id)) (ha : QA X (e :: es) t) (hs : (e :: es).all noStar = true := by rfl)
    (hn : x ≠ "__name__" := by decide) (hdb : (x == ("__debug__" : Str)) = false := by decide) : QE X (.Call (.Name x p) (e :: es) [] pos) (tCB r t) := ⟨L2.pe_cB hc hg hm hv ha.h hs hn hdb⟩
theorem pe_cTy {x : Str} {T : String} {r : List V → Hp → VK → Prop} (hc : CallR X (.type T) r) (hg : Gl X x) (hm : X.mg x = none) (hv : bootBuiltins x = some (.type T)) (ha : QA X (e :: es) t) (hs : (e :: es).all noStar = true := by rfl)
    (hn : x ≠ "__name__" := by decide) (hdb : (x == ("__debug__" : Str)) = false := by decide) : QE X (.Call (.Name x p) (e :: es) [] pos) (tCB r t) := ⟨L2.pe_cTy hc hg hm hv ha.h hs hn hdb⟩
theorem pe_append {to : TE} {apos cpos : Pos} (ho : QE X o to) (ha : QA X [e] t) (hs : noStar e = true := by rfl) (hbase : attributeBase o "append" X.env (eval o X.env) = eval o X.env := by rfl) (hline : (apos.endLine == cpos.line) = true := by rfl) :
    QE X (.Call (.Attribute o "append" apos) [e] [] cpos) (tBM X.K "list" rAppend to t) := ⟨L2.pe_append ho.h ha.h hs hbase hline⟩
theorem pt_cmpR {op : CmpOp} {r : R2} (ho : OpR X (compareOp op) r) (ha : QE X a ta) (hb : QE X b tb) (hm : behindInMarks op b = false) : QT X (.Compare a [op] [b] pos) (tTest (tOp r ta tb)) := ⟨L2.pt_cmpR ho ha.h hb.h hm⟩
theorem pw_or1 (ha : QT X a tA) : QW X (.BoolOp .Or [a] pos) tA := ⟨L2.pw_or1 ha.h⟩
theorem pw_or (ha : QT X a tA) (hb : QW X (.BoolOp .Or (b :: rest) pos) tB') : QW X (.BoolOp .Or (a :: b :: rest) pos) (tOr tA tB') := ⟨L2.pw_or ha.h hb.h⟩
theorem pt (h : QW X e tA) : QT X e tA := ⟨PW.pt h.h⟩
theorem pt_not (ha : QT X a tA) : QT X (.UnaryOp .Not a pos) (tNot tA) := ⟨L2.pt_not ha.h⟩
theorem pt_val (h : QE X e te) (he : ∀ whole, isTrue e X.env whole = (do let v ← whole; standAt e.pos; holding [v] (truthy v)) := by intro _; rfl) : QT X e (tB te) := ⟨L2.pt_val h.h he⟩
end
section
variable {X : Cx} {c e : Expr} {te : TE} {tc : TT} {st : Stmt} {sts body orelse : List Stmt} {t u tb : TS} {pos : Pos}
theorem ps_ret (he : QE X e te) : QS X (.Return (some e) pos) (tRet te) := ⟨L2.ps_ret he.h⟩
theorem ps_never : QS X st tNever := ⟨L2.ps_never⟩
theorem ps_expr (he : QE X e te) (hs : noComp e = true := by rfl) : QS X (.Expr e pos) (tDrop te) := ⟨L2.ps_expr he.h (swaps_no hs)⟩
theorem ps_set {i : Nat} {x : Str} {pos' : Pos} (hN : X.N.Nodup) (hi : X.N[i]? = some x) (hx : Loc X.env.scope x) (he : QE X e te) (hs : noComp e = true := by rfl) (hf : X.fn x = true ∨ X.env.scope.names.lookup x = some .local := by first | exact .inl rfl | exact .inr rfl | assumption) :
    QS X (.Assign [.Name x pos'] e pos) (tAsg te (gName i)) := ⟨L2.ps_set hN hi hx he.h (swaps_no hs) hf⟩
theorem ps_if (hc : QT X c tc) (ha : QSs X body t) (hb : QSs X orelse u) : QS X (.If c body orelse pos) (tIfS tc t u) := ⟨L2.ps_if hc.h ha.h hb.h⟩
theorem ps_for {tg iter : Expr} {wi : TI} {g : TG} (hp : PassesOwn (model X.prog X.w) X.A X.env X.xe) (hc : X.calm = true) (hi : QI X tg iter wi) (hg : QG X tg g) (hb : QSs X body tb)
    (hs : ∀ x, foldedSetIterable iter X.env x = pure x := by intro _; rfl) : QS X (.For tg iter body [] pos) (tFor wi g tb) := ⟨L2.ps_for hp hc hi.h hg.h hb.h hs⟩
theorem pi_list {tg : Expr} (hl : QE X e te) : QI X tg e (iList X.K te) := ⟨L2.pi_list hl.h⟩
theorem pi_range1 {tg a : Expr} {ta : TA} {p : Pos} (hg : Gl X "range") (hm : X.mg "range" = none) (ha : QA X [a] ta) (hs : noStar a = true := by rfl) : QI X tg (.Call (.Name "range" p) [a] [] pos) (iRng1 ta) := ⟨L2.pi_range1 hg hm ha.h (star_cons hs)⟩
theorem pg_name {i : Nat} {x : Str} (hN : X.N.Nodup) (hi : X.N[i]? = some x) (hx : Loc X.env.scope x) (hf : X.fn x = true ∨ X.env.scope.names.lookup x = some .local := by first | exact .inl rfl | exact .inr rfl | assumption) : QG X (.Name x pos) (gName i) := ⟨L2.pg_name hN hi hx hf⟩
theorem pss_nil : QSs X [] tNext := ⟨L2.pss_nil⟩
theorem pss_one (h1 : QS X st t) : QSs X [st] t := ⟨L2.pss_one h1.h⟩
theorem pss_cons (h1 : QS X st t) (h2 : QSs X sts u) : QSs X (st :: sts) (tSeq t u) := ⟨L2.pss_cons h1.h h2.h⟩
end
end R
section
variable {P : Program} {w : World} {K : PySem.W.Frag} {mg : Str → Option Value} {base : Heap}
theorem Fun.okQ {x qual : Str} {st : Stmt} {f : Addr} {fd : FuncData} {N ps : List Str} {k : Nat} {sp : Sp} (F : Fun K x qual st f fd) (S : FnScope N ps (defScope st)) (len : ∀ vs H Q E, sp vs H Q E → vs.length = ps.length)
    (hbody : ∀ (cdv : Value) (A : Around) (outer : List Env) (s : Shared) (H : Hp) (vs : List V) (Q : VK) (E : XK), Room k (A.deeper (envOfC qual (defScope st) s.heap.objs.size f cdv)) → sp vs H Q E →
      ∃ t, QSs (cxOf CX0 P w K mg base N qual (defScope st) f cdv A outer s H E).nox (defBody st) t ∧ t { nx := fun _ H' => Q .non H', rt := Q } (start N vs) H) : FnOk P w K mg base CX0 (k + 1) f fd ps sp :=
  F.ok S len fun cdv A outer s H vs Q E hr h => let ⟨t, q, r⟩ := hbody cdv A outer s H vs Q E hr h; ⟨t, q.h, r⟩
theorem Fun.def_okQ {x qual : Str} {st : Stmt} {f : Addr} {fd : FuncData} {N ps : List Str} {k : Nat} {sp : Sp} (F : Fun K x qual st f fd) (m : mg x = some (.ref f)) (b : Binds K fd ps []) (S : FnScope N ps (defScope st)) (len : ∀ vs H Q E, sp vs H Q E → vs.length = ps.length)
    (hbody : ∀ (cdv : Value) (A : Around) (outer : List Env) (s : Shared) (H : Hp) (vs : List V) (Q : VK) (E : XK), Room k (A.deeper (envOfC qual (defScope st) s.heap.objs.size f cdv)) → sp vs H Q E →
      ∃ t, QSs (cxOf CX0 P w K mg base N qual (defScope st) f cdv A outer s H E).nox (defBody st) t ∧ t { nx := fun _ H' => Q .non H', rt := Q } (start N vs) H) : DefOk P w K mg base (k + 1) x ps [] sp :=
  ⟨f, fd, [], F.okQ S len hbody, b, .nil, F.kp, m⟩
end
end L2


set_option Elab.async false
set_option linter.all false
set_option maxRecDepth 100000
/-! y = [elt for x in iter] -/
namespace L2
open PySem PySem.Spec PyProof.Rows
section
variable {prog : Program} {w : World} {A : Around} {R : Result → Shared → Prop} {s : Shared}
end
/-- the block of a comprehension: its own frame's dict at C, the cells of the names that it takes from around it -/
noncomputable def cxComp (X : Cx) (scope : Scope) (cl : List (Str × Addr)) (Nc : List Str) (C : Addr) (s₂ : Shared) (H2 : Hp) (fp : List Addr) : Cx where
  prog := X.prog
  w := X.w
  K := X.K
  mg := X.mg
  base := X.base
  A := X.A
  N := Nc
  s₀ := s₂
  H₀ := H2
  env := compEnvC scope cl C X.env
  outer := X.stack
  stack := X.stack
  ex := fp
  fn := fun _ => false
  calm := true
  pn := []
  xe := fun _ _ => False
noncomputable def inner (σ : St) (fr : List Nat) : St := fr.map fun j => (σ[j]?).join
end L2


set_option Elab.async false
set_option linter.all false
set_option maxRecDepth 100000
/-! list(reversed(xs)); two lists of the same things -/
namespace L2
open PySem PySem.Spec PyProof.Rows
section
variable {prog : Program} {w : World} {A : Around} {s : Shared} {R : Result → Shared → Prop}
variable {I : Addr} {fp wr : List Addr} {G : Array GenState → Array GenState → Prop} {n : Nat} {P : Nat → Value → Prop} {St : Nat → Shared → Prop}
end
section
variable {prog : Program} {w : World} {A : Around} {E : Value → Shared → Prop} {s : Shared}
variable {I : Addr} {fp wr : List Addr} {G : Array GenState → Array GenState → Prop} {n : Nat} {P : Nat → Value → Prop} {St : Nat → Shared → Prop}
end
namespace R
variable {X : Cx}
end R
end L2
namespace L2
open PySem PySem.Spec PyProof.Rows
end L2
namespace L2
open PySem PySem.Spec PyProof.Rows
end L2


set_option Elab.async false
set_option linter.all false
set_option maxRecDepth 100000
/-! raise, try, except, isinstance: exceptions of own classes -/
namespace L2
open PySem PySem.Spec PyProof.Rows PySem.W

/-! ### an exception of an own class on its way -/
theorem ObjOk.there {P : Program} {w : World} {H : Hp} {h : Heap} {a : Addr} {o : HO} (x : ObjOk P w H h a o) : ∃ u, h.get? a = some u := by
  cases o with
  | lst xs => obtain ⟨_, _, _, _, e⟩ := x; exact ⟨_, e⟩
  | tup xs => obtain ⟨_, _, _, o, e, _⟩ := x; exact ⟨_, e⟩
  | dK kvs => obtain ⟨_, _, _, _, o, _, _, e, _⟩ := x; exact ⟨_, e⟩
  | dT kvs => obtain ⟨_, _, _, _, o, _, _, e, _⟩ := x; exact ⟨_, e⟩
  | set S n => obtain ⟨o, _, _, _, e, _⟩ := x; exact ⟨_, e⟩
  | ins C dx fs => obtain ⟨_, _, _, e, _⟩ := x; exact ⟨_, e⟩
  | own y => obtain ⟨_, e⟩ := x; exact ⟨_, e⟩
  | xd fs => obtain ⟨_, ⟨_, _, _, e, _⟩, _⟩ := x; exact ⟨_, e⟩
  | rng lo hi => obtain ⟨_, _, _, e⟩ := x; exact ⟨_, e⟩
  | frz ob u => obtain ⟨e, _⟩ := x; exact ⟨_, e⟩
  | tbl ps => exact ⟨_, (show h.get? a = some _ from x)⟩
  | met f y => exact ⟨_, (show h.get? a = some _ from x)⟩
  | ext φ => obtain ⟨_, ⟨_, e⟩, _⟩ := x; exact ⟨_, e⟩
theorem HOk.none_of {P : Program} {w : World} {H : Hp} {h : Heap} {a : Addr} (x : HOk P w H h) (e : h.get? a = none) : H a = none := by
  cases q : H a with
  | none => rfl
  | some o => obtain ⟨u, z⟩ := (x a o q).there; rw [e] at z; cases z
/-- the frames are hidden -/
theorem HOk.hide {P : Program} {w : World} {H : Hp} {h : Heap} {l : List Addr} (x : HOk P w H h) (hl : ∀ b ∈ l, H b = none) : HOk P w H (hideAll h l) := fun a o e =>
  (x a o e).stay (fun b u hb q => hideAll_get _ q fun z => by
    rcases hb with r | r
    · subst r; rw [hl b z] at e; cases e
    · rw [hl b z] at r; cases r) (fun _ q => q) fun _ _ q => q

structure Fly (P : Program) (w : World) (outer : List Env) (H : Hp) (s : Shared) (H' : Hp) (e C t : Addr) (B : Heap) (s' : Shared) : Prop where
  os : s'.os = s.os
  bare : AllBare s'.gens
  un : ∀ h', B.StaysIn h' → s'.heap.UpToSlots h' → Un (frs outer) [] H H' s.heap h'
  hok : HOk P w H' B
  fly : Heap.FlyingW B outer e (.ref C) (.ref t) s'.heap
  new : H' e = none
  fresh : s.heap.get? e = none
noncomputable def CXE (P : Program) (w : World) : CXT := fun outer H s E e s' => ∃ H' a C t B, e = .ref a ∧ Fly P w outer H s H' a C t B s' ∧ E (.ref a) (some C) H'

/-- raise C(..), C an own class without __init__ -/
noncomputable def tRaise (C : Addr) (E : XK) (ta : TA) : TS := fun _ σ H => ta σ H fun vs H1 => vs.length ≤ sizeLine ∧ ∀ a, H1 a = none → E (.ref a) (some C) H1
theorem ps_raise {X : Cx} {x : Str} {C : Addr} {bmB : List Value} {B newId initId : String} {E : XK} {e : Expr} {es : List Expr} {ta : TA} {np cpos pos : Pos} (F : ExcBaseFacts B newId initId bmB) (O : OwnCls x C bmB newId X.mg X.base)
    (hbase : bmB.contains (.type "BaseException") = true) (hc : X.calm = true) (hg : Gl X x) (ha : PA X (e :: es) ta) (hst : X.stack = X.env :: X.outer) (hf : X.env.frame = some X.env.locals) (hex : X.ex = [])
    (hxe : ∀ v s', wpAny (model X.prog X.w) X.A (leaving X.env v) (fun _ s'' => CXE X.prog X.w X.outer X.H₀ X.s₀ E v s'') (fun v' s'' => CXE X.prog X.w X.outer X.H₀ X.s₀ E v' s'') s' → X.xe v s')
    (hs : (e :: es).all noStar = true := by rfl) (hdb : (x == ("__debug__" : Str)) = false := by decide) :
    PS X (.Raise (some (.Call (.Name x np) (e :: es) [] cpos)) none pos) (tRaise C E ta) := by
  intro pins s σ H D I h
  obtain ⟨bm, N, nm, qn, bs, hdct, sn, sub, ab, col, dd, k0, k1, k2, k3, k5, mN, hC, hN, hni, TL⟩ := O.obj
  refine wpAny_Raise_call_subT (nm := nm) (q := qn) (N := N) (bs := bs) (bm := bm) (hdct := hdct) (sn := sn) (sub := sub) (ab := ab) (col := col) (dd := dd) (k0 := k0) (k1 := k1) (k2 := k2) (k3 := k3) (k5 := k5) F (TL.hasType hbase) (I.ok.hd hc) (star_any hs) hni (ld_glob I hg O.bound ⟨rfl, ?_⟩ hdb)
  have ha' := ha cpos pins s σ H _ I h
  rw [star_cons (env := X.env) (all_cons1 hs).1] at ha' ⊢
  refine Calls.evalArgs_plain ?_
  refine thn ha' fun us s2 ⟨vs, H1, I1, r, hz, q⟩ => ⟨rfl, by show us.length ≤ _; rw [← r.length]; exact hz, I1.bk _ _ hC, hN.keeps I1.bk, TL.keeps I1.bk, fun h' a hx => hxe _ _ ?_⟩
  have hin : ∀ env ∈ (X.env :: X.outer), ∀ b, env.frame = some b → b ∈ frs X.stack := fun env he b hb => by rw [hst]; exact List.mem_filterMap.mpr ⟨env, he, hb⟩
  have fl := I1.stack
  rw [hst] at fl
  have hneL : ∀ b o, X.s₀.heap.get? b = some o → b ∉ X.fs → b ∉ frs X.stack := fun b o q hb z => by
    rcases List.mem_cons.mp (I1.stkSub b z) with r | r
    · exact absurd (Heap.lt_size q) (by rw [r]; exact Nat.not_lt.mpr I1.ok.above)
    · exact hb r
  have hexn : ∀ b : Addr, b ∉ X.ex := fun b z => by rw [hex] at z; cases z
  have hfr : ∀ b, s2.heap.get? b = none → X.s₀.heap.get? b = none := fun b q => by
    cases z : X.s₀.heap.get? b with
    | none => rfl
    | some o => obtain ⟨o', e1⟩ := I1.base.there b o z (hexn b); rw [q] at e1; cases e1
  refine wpAny_leaves_madeW (base := hideAll s2.heap (frs X.stack)) (h := s2.heap) (by rw [← hst]; exact I1.ok.frames) hf (fun b o q => of_hideAll _ q) (funFrames_hide fl hin) hx fun h2 t x1 _ _ x4 => ?_
  have up : s2.heap.UpToSlots h2 := (Heap.UpToSlots.of_keeps hx.keeps).trans x4
  refine ⟨H1, a, C, t, hideAll s2.heap (frs X.stack), rfl, ⟨I1.os, I1.bare, fun h3 k3 u3 => ?_, I1.hok.hide I1.stkFree, x1, I1.hok.none_of hx.new, hfr a hx.new⟩, q a (I1.hok.none_of hx.new)⟩
  have sl : ∀ b o, X.s₀.heap.get? b = some o → X.H₀ b = none → b ∈ X.fs → ∃ sl, h3.get? b = some { o with slots := sl } := fun b o q n hb => by
    obtain ⟨s1, e1⟩ := I1.base.slot b o q n hb (hexn b)
    obtain ⟨_, o', e2, nf⟩ := I1.funs.mem hb
    rw [e1] at e2; cases e2
    obtain ⟨s3, e3⟩ := (up.trans u3) b _ e1 nf
    exact ⟨s3, e3⟩
  refine ⟨fun b o q n hb _ => k3 b o (hideAll_get _ (I1.base.keep b o q n hb (hexn b)) (hneL b o q hb)), fun b o q n hb _ => sl b o q n hb, fun b o q n _ => I1.base.free b o q n (hexn b), fun b o q _ => ?_, I1.base.tups, I1.base.frzs, I1.base.tbls⟩
  by_cases hb : b ∈ X.fs
  · obtain ⟨s3, e3⟩ := sl b o q (I1.ok.frf b hb) hb
    exact ⟨_, e3⟩
  · obtain ⟨o', e1⟩ := I1.base.there b o q (hexn b)
    exact ⟨_, k3 b o' (hideAll_get _ e1 (hneL b o q hb))⟩
section
open Builtin Builtin.ObjectAttr Builtin.Getset_descriptor
variable {prog : Program} {w : World} {A : Around} {E : Value → Shared → Prop} {h : Heap} {g : Array GenState} {d : Drawn} {t : Nat} {os : OsState} {a C : Addr} {o : Obj} {K : Frag}
theorem exc_check_ga {M : Model} {nameV : Value} {Q : Unit → Shared → Prop} (X : K.In h) (hm : mroIn K C (.type "BaseException") = some true)
    (hx : h.get? a = some o) (hc : o.cls = .ref C) (hq : Q () ⟨h, g, d, t, os⟩) : wpAny M A (checkBuiltinCall "BaseException.__getattribute__" ⟨[.ref a, nameV], []⟩) Q E ⟨h, g, d, t, os⟩ := by
  have hk : builtinKind "BaseException.__getattribute__" = some .slot := by decide +kernel
  have hsplit : splitId "BaseException.__getattribute__" = some ("BaseException", "__getattribute__") := by decide +kernel
  have L := looks_mroIn (M := M) X hm
  have ha := F.args_bexc_ga (.ref a) nameV
  simp only [checkBuiltinCall, hk, hsplit]
  refine wpAny_bind ?_
  · unfold isInstance
    repeat (first | (with_reducible refine wpAny_loadPart_at hx ?_; rw [hc]) | (with_reducible refine L.at ?_) | wp_step)
    exact hq

theorem exc_class_get {tp : Value} {R : Result → Shared → Prop} (X : K.In h) (hx : h.get? a = some o) (hc : o.cls = .ref C) (hm : mroIn K C (.type "object") = some true)
    (hq : R (.ok (.ret (.ref C))) ⟨h, g, d, t, os⟩) : codeAny (model prog w) A (.call (.builtin "getset_descriptor.__get__") ⟨[.builtin "object.__class__", .ref a, tp], []⟩) R ⟨h, g, d, t, os⟩ := by
  have L0 : Looks (model prog w) h (typeOf (.ref a)) (.ref C) := hc ▸ (Looks.ld hx).andThen .now
  have L1 := looks_mroIn (M := model prog w) X hm
  refine codeAny_call_builtin KF.slot_gs.plain KF.entry_gs (KF.slot_gs.check _ _ _ _ _ _ _ _ KF.type_class (KF.args_gs _ _ _) ?_)
  unfold Builtin.«getset_descriptor.__get__» descrGet
  rw [dga_obj]
  refine wpAny_bind (wpAny_pure ?_)
  unfold descrGetter descrCheckInstance descrNameAndClass isInstance
  simp only [KF.owner_class]
  repeat lk
  refine ⟨Code.quiet_builtin _ (by decide +kernel), codeAny_builtin KF.entry_class ?_⟩
  unfold Builtin.«object.__class__» shownTypeOf
  repeat lk
  exact hq

theorem exc_entry {tk : Tok} {Q : Fin → Shared → Prop} (X : K.In h) (hx : h.get? a = some o) (hc : o.cls = .ref C) (hm : mroIn K C (.type "object") = some true) (ha : findIn K (.ref C) "__class__" = some (some (.builtin "object.__class__")))
    (hq : Q (.done (.ret (.ref C))) ⟨h, g, d, t, os⟩) :
    wpAny (model prog w) A (Builtin.«object.__getattribute__» ⟨[.ref a, .str "__class__" tk], []⟩) Q E ⟨h, g, d, t, os⟩ := by
  have hT5 : (⟨h, g, d, t, os⟩ : Shared).TypeIs (.builtin "object.__class__") "getset_descriptor" := KF.type_class
  have f5 := KF.type_class
  have f6 := F.slot_gs_get.lookup
  have f7 := F.slot_gs_set.lookup
  have L := looks_findIn (M := model prog w) X ha
  repeat (any_goals (first | assumption | (with_reducible refine wpAny_loadPart_at hx ?_; rw [hc]) | with_reducible refine L.at ?_ | wp_step))
  refine exc_class_get X hx hc hm ?_
  repeat (any_goals (first | assumption | wp_step))
theorem exc_by {tk : Tok} {Q : Value → Shared → Prop} (X : K.In h) (hx : h.get? a = some o) (hc : o.cls = .ref C) (hm : mroIn K C (.type "object") = some true) (hb : mroIn K C (.type "BaseException") = some true)
    (ha : findIn K (.ref C) "__class__" = some (some (.builtin "object.__class__"))) (hga : findIn K (.ref C) "__getattribute__" = some (some (.builtin "BaseException.__getattribute__"))) (hgt : findIn K (.ref C) "__getattr__" = some none)
    (hq : Q (.ref C) ⟨h, g, d, t, os⟩) : wpAny (model prog w) A (getAttrBy (.ref a) (.str "__class__" tk) false false) Q E ⟨h, g, d, t, os⟩ := by
  have FB := F.attr_ValueError
  have f3 := FB.ga.bind (.ref a)
  have hx0 : (false && onTheHeap (Value.builtin "BaseException.__getattribute__")) = false := rfl
  have hx2 : (Value.builtin "BaseException.__getattribute__" == Value.builtin "object.__getattribute__") = false := by decide +kernel
  have hx1 : (onTheHeap (Value.ref C) && Value.builtin "BaseException.__getattribute__" == Value.builtin "object.__getattribute__") = false := by rw [hx2]; rfl
  have L1 := looks_findIn (M := model prog w) X hga
  have L2 := looks_findIn (M := model prog w) X hgt
  repeat (any_goals (first | assumption | (with_reducible refine wpAny_loadPart_at hx ?_; rw [hc]) | with_reducible refine L1.at ?_ | with_reducible refine L2.at ?_ | wp_step))
  refine codeAny_call_builtin FB.ga.plain F.entry_bexc_ga (exc_check_ga X hb hx hc (exc_entry X hx hc hm ha ?_))
  repeat (any_goals (first | assumption | wp_step))
theorem exc_ca {Q : Option Value → Shared → Prop} (X : K.In h) (hx : h.get? a = some o) (hc : o.cls = .ref C) (hm : mroIn K C (.type "object") = some true) (hb : mroIn K C (.type "BaseException") = some true)
    (ha : findIn K (.ref C) "__class__" = some (some (.builtin "object.__class__"))) (hga : findIn K (.ref C) "__getattribute__" = some (some (.builtin "BaseException.__getattribute__"))) (hgt : findIn K (.ref C) "__getattr__" = some none)
    (hq : Q (some (.ref C)) ⟨h, g, d, t + 1, os⟩) : wpAny (model prog w) A (getAttr? (.ref a) "__class__") Q E ⟨h, g, d, t, os⟩ := by
  unfold getAttr? getAttrBy?
  refine wpAny_bind (wpAny_mkText (wpAny_bind (wpAny_attempt ?_)))
  exact exc_by X hx hc hm hb ha hga hgt (wpAny_pure hq)
/-- what of the text's class of exceptions isinstance asks -/
structure ExK (K : Frag) (C : Addr) : Prop where
  obj : mroIn K C (.type "object") = some true
  exc : mroIn K C (.type "BaseException") = some true
  att : findIn K (.ref C) "__class__" = some (some (.builtin "object.__class__"))
  ga : findIn K (.ref C) "__getattribute__" = some (some (.builtin "BaseException.__getattribute__"))
  gt : findIn K (.ref C) "__getattr__" = some none
theorem ExK.cls {K : Frag} {C : Addr} (Z : ExK K C) : (clsIn K C).isSome = true := by
  have e := Z.obj
  unfold mroIn at e
  cases h : clsIn K C with
  | none => rw [h] at e; cases e
  | some c => rfl
noncomputable def ExcIs (a C : Addr) (h : Heap) : Prop := ∃ o, h.get? a = some o ∧ o.cls = .ref C
theorem kitx_exc (Z : ExK K C) : KitX K (.ref a) (.ref C) (ExcIs a C) where
  ty := fun _ _ _ ⟨_, h1, h2⟩ => h2 ▸ (Looks.ld h1).andThen .now
  it := fun _ _ X _ => by
    obtain ⟨cdD, hcD⟩ := Option.isSome_iff_exists.mp Z.cls
    unfold clsIn at hcD
    split at hcD
    · rename_i c' d' cd' sl' ho
      intro A' Q' E' s' k q
      unfold isType loadHead
      exact wpAny_bind (wpAny_loadPart (k _ _ (X _ _ ho)) (wpAny_pure q))
    · cases hcD
  ne := fun h tp dd its n sl X htp => by
    obtain ⟨cdD, hcD⟩ := Option.isSome_iff_exists.mp Z.cls
    refine Bool.eq_false_iff.mpr fun q => ?_
    have e : C = tp := Value.ref.inj (beq_iff_eq.mp q)
    subst e
    unfold clsIn at hcD
    split at hcD
    · rename_i c' d' cd' sl' ho
      have z := (X _ _ ho).symm.trans htp
      cases z
    · cases hcD
  ca := fun {_ _ _ _ _ s} X ⟨_, h1, h2⟩ k => by
    obtain ⟨h, g, d, t, os⟩ := s
    exact exc_ca X h1 h2 Z.obj Z.exc Z.att Z.ga Z.gt k
end

/-! ### isinstance of an exception -/
noncomputable abbrev excO (a C : Addr) : HO := .ext (ExcIs a C)
theorem excO_ok {P : Program} {w : World} {H : Hp} {h : Heap} {a C : Addr} (x : ExcIs a C h) : ObjOk P w H h a (excO a C) := by
  obtain ⟨o, h1, h2⟩ := x
  exact ⟨⟨o, h1, h2⟩, ⟨o, h1⟩, fun _ _ ⟨o, e, c⟩ k => ⟨o, k o e, c⟩⟩
noncomputable def rIsO (K : Frag) (D : Addr) : List V → Hp → VK → Prop := fun xs H Q => ∃ a C b, xs = [.ref a, .ref D] ∧ H a = some (excO a C) ∧ ExK K C ∧ kitOne K (.ref C) (.ref D) = some b ∧ Q (.bl b) H
theorem call_isO {X : Cx} (D : Addr) : CallR X (.builtin "isinstance") (rIsO X.K D) := by
  intro pins s σ H xs us Q I r h
  obtain ⟨a, C, b, rfl, ea, Z, e, q⟩ := h
  obtain ⟨u, u', rfl, ru, ru'⟩ := vals2 r
  cases ru; cases ru'
  have y : ObjOk X.prog X.w H s.heap a (excO a C) := I.hok a _ ea
  exact kia_one (kitx_exc Z) I.kIn y.1 e (fun z => nomatch z) fun tk => ⟨.bl b, H, I.tok tk, rfl, q⟩
theorem pe_isiC {X : Cx} {x : Str} {D : Addr} {e : Expr} {te : TE} {p p2 pos : Pos} (hg : Gl X "isinstance") (hm : X.mg "isinstance" = none) (hgT : Gl X x) (hmT : X.mg x = some (.ref D)) (ha : PE X e te) (hs : noStar e = true := by rfl) (hdb : (x == ("__debug__" : Str)) = false := by decide) :
    PE X (.Call (.Name "isinstance" p) [e, .Name x p2] [] pos) (tCB (rIsO X.K D) (tCons te (tCons (tC (.ref D)) tNil))) :=
  pe_cB (call_isO D) hg hm boot_isinstance (pa_c ha (pa_c (pe_glob hgT hmT rfl hdb) pa_nil) hs) (by rw [List.all_cons, hs]; rfl)
noncomputable def rIsT (K : Frag) (T : String) : List V → Hp → VK → Prop := fun xs H Q => ∃ a C b, xs = [.ref a, .ty T] ∧ H a = some (excO a C) ∧ ExK K C ∧ kitOne K (.ref C) (.type T) = some b ∧ Q (.bl b) H
theorem call_isT {X : Cx} (T : String) : CallR X (.builtin "isinstance") (rIsT X.K T) := by
  intro pins s σ H xs us Q I r h
  obtain ⟨a, C, b, rfl, ea, Z, e, q⟩ := h
  obtain ⟨u, u', rfl, ru, ru'⟩ := vals2 r
  cases ru; cases ru'
  have y : ObjOk X.prog X.w H s.heap a (excO a C) := I.hok a _ ea
  exact kia_one (kitx_exc Z) I.kIn y.1 e (fun z => nomatch z) fun tk => ⟨.bl b, H, I.tok tk, rfl, q⟩
theorem pe_isiT {X : Cx} {x : Str} {T : String} {e : Expr} {te : TE} {p p2 pos : Pos} (hg : Gl X "isinstance") (hm : X.mg "isinstance" = none) (hgT : Gl X x) (hmT : X.mg x = none) (hv : bootBuiltins x = some (.type T)) (ha : PE X e te) (hs : noStar e = true := by rfl)
    (hn : x ≠ "__name__" := by decide) (hdb : (x == ("__debug__" : Str)) = false := by decide) :
    PE X (.Call (.Name "isinstance" p) [e, .Name x p2] [] pos) (tCB (rIsT X.K T) (tCons te (tCons (tC (.ty T)) tNil))) :=
  pe_cB (call_isT T) hg hm boot_isinstance (pa_c ha (pa_c (pe_bltn hgT hmT hv rfl hn hdb) pa_nil) hs) (by rw [List.all_cons, hs]; rfl)

/-! ### calls where an exception is handled -/
structure RoomH (k : Nat) (A : Around) : Prop where
  dp : A.depth + 3 * k + 5 < recursionLimit
  un : A.units + 16 * k + 200 < cLine
noncomputable abbrev unh (A : Around) : Around := { A with handled := none }
theorem RoomH.room {k : Nat} {A : Around} (r : RoomH k A) : Room k (unh A) := ⟨rfl, r.dp, r.un⟩
structure FnOkH (P : Program) (w : World) (K : PySem.W.Frag) (mg : Str → Option Value) (base : Heap) (k : Nat) (f : Addr) (fd : FuncData) (ps : List Str) (sp : Sp) : Prop where
  len : ∀ vs H Q E, sp vs H Q E → vs.length = ps.length
  run : ∀ (A : Around) (outer : List Env) (s : Shared) (H : Hp) (args : Args) (us : List Value) (vs : List V) (Q : VK) (E : XK), RoomH k A → Env0 P w K mg base A outer s H → BindsTo s fd args (ps.zip us) → Vals vs us → sp vs H Q E →
    codeAny (model P w) A (.call (.ref f) args) (CR CX0 outer P w H s Q E) s
noncomputable abbrev cxH (P : Program) (w : World) (K : PySem.W.Frag) (mg : Str → Option Value) (base : Heap) (N : List Str) (qual : Str) (scope : Scope) (f : Addr) (cd : Value) (A : Around) (outer : List Env) (s : Shared) (H : Hp) : Cx :=
  { cxOf CX0 P w K mg base N qual scope f cd A outer s H E0 with calm := false, xe := fun _ _ => False }
theorem fnh_of {P : Program} {w : World} {K : PySem.W.Frag} {mg : Str → Option Value} {base : Heap} {k : Nat} {f : Addr} {name qual : Str} {params : Arguments} {body : List Stmt} {scope : Scope} {dV kV doc pm cdv ct oc : Value} {an od : Option Addr}
    {osl : Array (Option Value)} {N ps : List Str} {sp : Sp} (lk : K.lookup f = some ⟨oc, od, .func (PySem.W.fnOf name qual params body scope dV kV doc pm an cdv ct), osl⟩) (hcd : PySem.W.codeIn K cdv qual = true) (S : FnScope N ps scope)
    (len : ∀ vs H Q E, sp vs H Q E → vs.length = ps.length)
    (hbody : ∀ (A : Around) (outer : List Env) (s : Shared) (H : Hp) (vs : List V) (Q : VK) (E : XK), RoomH k (A.deeper (envOfC qual scope s.heap.objs.size f cdv)) → sp vs H Q E →
      ∃ t, PSs (cxH P w K mg base N qual scope f cdv A outer s H) body t ∧ t { nx := fun _ H' => Q .non H', rt := Q } (start N vs) H) :
    FnOkH P w K mg base (k + 1) f (PySem.W.fnOf name qual params body scope dV kV doc pm an cdv ct) ps sp := by
  refine ⟨len, fun A outer s H args us vs Q E hr e0 hb r hsp => ?_⟩
  have hl := len _ _ _ _ hsp
  have KX : K.In s.heap := e0.mod.kin.keeps fun b o e => (e0.bs b o e).1
  have lim : s.heap.NoLimit := e0.mod.nolimit.keeps fun b o e => (e0.bs b o e).1
  have hkind : ∀ y ∈ ps.zip us, scope.names.lookup y.1 = some .local ∨ (scope.names.lookup y.1 = some .cell ∧ ((cellsFrom (s.heap.objs.size + 1) scope.names []).lookup y.1).isSome = true) := fun ⟨n, v⟩ hy => by
    rcases S.par n (List.of_mem_zip hy).1 with q | q
    · exact .inl q
    · exact .inr ⟨q, PySem.W.cellsFrom_some _ _ _ (.inl q)⟩
  refine codeAny_call_function hr.room.depth (KX _ _ lk) rfl S.co S.gen rfl (PySem.W.codeRec_of KX hcd) (hb _ _ _ _ ?_)
  refine wpAny_newFunctionEnv_cells S.kind hkind fun env he s1 x => ?_
  subst he
  refine ⟨lim.keeps x.toInCall.keep, codeAny_func ?_⟩
  obtain ⟨t, ht, hq⟩ := hbody A outer s H vs Q E ⟨(hr.room.deeper (envOfC qual scope s.heap.objs.size f cdv)).dp, (hr.room.deeper (envOfC qual scope s.heap.objs.size f cdv)).un⟩ hsp
  have e1 : Env0 P w K mg base (unh A) outer s H := ⟨e0.frames, e0.mod, e0.bs, e0.bsz, e0.funs, e0.frf, e0.hok, e0.bare⟩
  have I0 : Inv (cxOf CX0 P w K mg base N qual scope f cdv (unh A) outer s H E) [] (start N vs) H s1 := inv_start S rfl e1 hl r x
  have I : Inv (cxH P w K mg base N qual scope f cdv A outer s H) [] (start N vs) H s1 :=
    ⟨⟨I0.ok.mod, I0.ok.kind, I0.ok.glob, I0.ok.blt, I0.ok.above, I0.ok.inj, I0.ok.has, I0.ok.cab, fun z => (nomatch z), Around.frames_deeper e0.frames, I0.ok.stk, I0.ok.exf, I0.ok.bs, I0.ok.bsz, I0.ok.noex, I0.ok.exfs, I0.ok.funs, I0.ok.frf⟩,
      I0.os, I0.bare, I0.base, I0.loc, I0.cell, I0.free, I0.freeC, I0.pin, I0.hok, I0.len⟩
  refine wpAny_mono (ht [] s1 (start N vs) H _ I hq) (fun fl s' hs => ?_) fun e s' hs => hs.elim
  have fin : ∀ {σ' : St} {H' : Hp} {v : V} {u : Value}, Inv (cxH P w K mg base N qual scope f cdv A outer s H) [] σ' H' s' → RelV v u → Q v H' → CE outer P w H s Q u s' :=
    fun {σ' H' v u} J rv q => ⟨v, H', J.os, J.bare, J.base, J.hok, rv, q⟩
  cases fl with
  | ret u =>
    obtain ⟨v, σ', H', J, rv, q⟩ := hs
    exact fin J rv q
  | next =>
    obtain ⟨σ', H', J, q⟩ := hs
    exact fin (v := V.non) (u := Value.none) J rfl q
  | brk =>
    obtain ⟨_, _, _, q⟩ := hs
    exact False.elim q
  | cont =>
    obtain ⟨_, _, _, q⟩ := hs
    exact False.elim q
theorem pe_callH {X : Cx} {k : Nat} {f : Addr} {fd : FuncData} {ps : List Str} {sp : Sp} {x : Str} {p pos : Pos} {e : Expr} {es : List Expr} {t : TA} (F : FnOkH X.prog X.w X.K X.mg X.base k f fd ps sp) (hr : RoomH k X.A) (hg : Gl X x) (hm : X.mg x = some (.ref f))
    (hk : PySem.W.keepIn X.K (.ref f) = true) (hb : Binds X.K fd ps []) (ha : PA X (e :: es) t) (hs : (e :: es).all noStar = true := by rfl) (hdb : (x == ("__debug__" : Str)) = false := by decide) :
    PE X (.Call (.Name x p) (e :: es) [] pos) (tCall sp [] E0 t) := by
  intro pins s σ H Q I h
  refine wpAny_Call_Name_kw (ld_glob I hg hm ?_ hdb)
  refine PySem.W.callWith_K (h₀ := X.base) I.ok.mod.kin hk (thn (ha pos pins s σ H _ I h) fun us s1 ⟨vs, H1, I1, r, q⟩ => ⟨I1.kIn, ?_⟩) (star_cons (all_cons1 hs).1) (star_any (all_cons1 hs).2)
  have q' : sp vs H1 Q E0 := by
    have q2 : sp (vs ++ []) H1 Q E0 := q
    rw [List.append_nil] at q2; exact q2
  have hl : us.length = ps.length := by rw [← r.length]; exact F.len _ _ _ _ q'
  refine wpAny_call (codeAny_mono (F.run X.A X.stack s1 H1 ⟨us, []⟩ us vs Q E0 hr I1.env0 (by have := hb s1 us I1.kIn (by rw [List.append_nil]; exact hl); rw [List.append_nil] at this; exact this) r q') fun r s' hq => ?_)
  cases r with
  | error e => exact hq.elim
  | ok fl =>
    cases fl with
    | ret u => exact I1.after hq
    | next => exact False.elim hq
    | brk => exact False.elim hq
    | cont => exact False.elim hq
/-! ### except D as n: D an own class; the suite returns -/
section
variable {M : Model} {A : Around} {E : Value → Shared → Prop} {h : Heap} {g : Array GenState} {d : Drawn} {t : Nat} {os : OsState} {a C D : Addr} {o oD : Obj} {K : Frag} {dD : Option Addr} {cD : ClassData} {sD : Array (Option Value)}
theorem exc_matches {Q : Bool → Shared → Prop} (X : K.In h) (he : h.get? a = some o) (hc : o.cls = .ref C) (hD : K.lookup D = some ⟨.type "type", dD, .cls cD, sD⟩) (hb : mroIn K D (.type "BaseException") = some true) (hs : mroIn K C (.ref D) = some true)
    (hq : Q true ⟨h, g, d, t, os⟩) : wpAny M A (excMatches (.ref a) (.ref D)) Q E ⟨h, g, d, t, os⟩ := by
  have f := tc_notTuple
  have L1 := looks_mroIn (M := M) X hb
  have L2 := looks_mroIn (M := M) X hs
  have hD' := X _ _ hD
  unfold excMatches
  repeat (first | (with_reducible refine wpAny_loadPart_at he ?_; rw [hc]) | with_reducible refine wpAny_loadPart_at hD' ?_ | with_reducible refine L1.at ?_ | with_reducible refine L2.at ?_ | wp_step)
  exact hq
end
/-- a class that an except clause may name -/
structure ExD (K : Frag) (D : Addr) : Prop where
  ex : ∃ dD cD sD, K.lookup D = some ⟨.type "type", dD, .cls cD, sD⟩
  exc : mroIn K D (.type "BaseException") = some true
noncomputable abbrev Cx.handling (X : Cx) (e : Value) : Cx := { X with A := X.A.mark (some e), calm := false, xe := fun _ _ => False }
theorem Inv.handling {X : Cx} {pins : List (Addr × Obj)} {σ : St} {H : Hp} {s : Shared} (I : Inv X pins σ H s) (e : Value) : Inv (X.handling e) pins σ H s :=
  ⟨⟨I.ok.mod, I.ok.kind, I.ok.glob, I.ok.blt, I.ok.above, I.ok.inj, I.ok.has, I.ok.cab, fun z => (nomatch z), I.ok.frames, I.ok.stk, I.ok.exf, I.ok.bs, I.ok.bsz, I.ok.noex, I.ok.exfs, I.ok.funs, I.ok.frf⟩,
    I.os, I.bare, I.base, I.loc, I.cell, I.free, I.freeC, I.pin, I.hok, I.len⟩
/-- the names are forgotten -/
theorem Inv.forget {X : Cx} {e : Value} {pins : List (Addr × Obj)} {σ : St} {H : Hp} {s : Shared} {h' : Heap} {m' : Str → Option Value} {t' : Nat} (ok : X.Ok) (J : Inv (X.handling e) pins σ H s) (ns : h'.Ns X.env.locals m') (sb : Heap.SameBut X.env.locals s.heap h') :
    Inv X pins (List.replicate X.N.length none) H { s with heap := h', toks := t' } := by
  have neL : ∀ b o, X.s₀.heap.get? b = some o → b ≠ X.env.locals := fun b o e => Nat.ne_of_lt (Nat.lt_of_lt_of_le (Heap.lt_size e) ok.above)
  have k : ∀ b o, b ≠ X.env.locals → s.heap.get? b = some o → h'.get? b = some o := fun b o hb q => (sb.2 b hb).trans q
  have hb0 : Un X.fs X.ex X.H₀ H X.s₀.heap s.heap := J.base
  refine ⟨ok, J.os, J.bare, ⟨fun b o q n hb hx => k b o (neL b o q) (hb0.keep b o q n hb hx), fun b o q n hb hx => ?_, hb0.free, fun b o q hx => ?_, hb0.tups, hb0.frzs, hb0.tbls⟩, ⟨m', ns, fun i x v _ z _ => ?_⟩, fun x c z => ?_, J.free, J.freeC, fun p hp => ?_, fun a o z => ?_, List.length_replicate⟩
  · obtain ⟨sl, e1⟩ := hb0.slot b o q n hb hx
    exact ⟨sl, k b _ (neL b o q) e1⟩
  · obtain ⟨o', e1⟩ := hb0.there b o q hx
    exact ⟨o', k b _ (neL b o q) e1⟩
  · rw [List.getElem?_replicate] at z
    split at z <;> cases z
  · obtain ⟨v, o, e1, e2⟩ := J.cell x c z
    exact ⟨v, o, k c o (J.cne x c z) e1, e2⟩
  · obtain ⟨p1, p2, p3, p4, p5⟩ := J.pin p hp
    exact ⟨k _ _ p3 p1, p2, p3, p4, p5⟩
  · refine (J.hok a o z).stay (fun b u hb q => k b u (fun y => ?_) q) (fun _ q => q) fun _ _ q => q
    have fr : H X.env.locals = none := J.free
    rcases hb with r | r
    · subst r; rw [y, fr] at z; cases z
    · rw [y, fr] at r; cases r

noncomputable def tTry (K : Frag) (D : Addr) (sp : Sp) (i : Nat) (ta : TA) (th : Value → TS) : TS := fun De σ H => ta σ H fun vs H1 => sp vs H1 (fun _ H2 => De.nx σ H2)
  fun v oc H2 => ∃ a C, v = .ref a ∧ oc = some C ∧ mroIn K C (.ref D) = some true ∧ th (.ref a) { nx := fun _ _ => False, rt := De.rt } (σ.set i (some (.ref a))) (upd H2 a (excO a C))
theorem ps_try {X : Cx} {k : Nat} {f D : Addr} {fd : FuncData} {ps : List Str} {sp : Sp} {x y n : Str} {i : Nat} {p cpos epos np hpos pos : Pos} {e : Expr} {es : List Expr} {ta : TA} {b₀ : Stmt} {suite : List Stmt} {th : Value → TS}
    (F : FnOk X.prog X.w X.K X.mg X.base (CXE X.prog X.w) k f fd ps sp) (hr : Room k X.A) (hg : Gl X x) (hm : X.mg x = some (.ref f)) (hk : PySem.W.keepIn X.K (.ref f) = true) (hb : Binds X.K fd ps [])
    (hgD : Gl X y) (hmD : X.mg y = some (.ref D)) (ZD : ExD X.K D) (hN : X.N.Nodup) (hi : X.N[i]? = some n) (hl : X.env.kindOf n = some .local)
    (hst : X.stack = X.env :: X.outer) (hf : X.env.frame = some X.env.locals) (hex : X.ex = [])
    (ha : PA X.nox (e :: es) ta) (hs : ∀ v, PSs (X.handling v) (b₀ :: suite) (th v)) (hstar : (e :: es).all noStar = true := by rfl) (hdb : (x == ("__debug__" : Str)) = false := by decide) (hdy : (y == ("__debug__" : Str)) = false := by decide) :
    PS X (.Try [.Expr (.Call (.Name x p) (e :: es) [] cpos) epos] [.ExceptHandler (some (.Name y np)) (some n) (b₀ :: suite) hpos] [] [] pos) (tTry X.K D sp i ta th) := by
  intro pins s σ H De I h
  refine wpAny_Try_except ?_
  refine wpAny_execs_cons (wpAny_Expr_any ?_ I.quiet (swaps_no rfl))
  refine wpAny_Call_Name_kw (ld_glob I hg hm ?_ hdb)
  refine PySem.W.callWith_K (h₀ := X.base) I.ok.mod.kin hk (wpAny_mono (ha cpos pins s σ H _ (I.wish _) h) (fun us s1 ⟨vs, H1, I1', r, q⟩ => ⟨I1'.unwish.kIn, ?_⟩) fun _ _ z => z.elim) (star_cons (all_cons1 hstar).1) (star_any (all_cons1 hstar).2)
  have I1 := I1'.unwish
  have hl0 : us.length = ps.length := by rw [← r.length]; exact F.len _ _ _ _ q
  refine wpAny_call (codeAny_mono (F.run X.A X.stack s1 H1 ⟨us, []⟩ us vs _ _ hr I1.env0 (by have := hb s1 us I1.kIn (by rw [List.append_nil]; exact hl0); rw [List.append_nil] at this; exact this) r q) fun r s' hq => ?_)
  cases r with
  | ok fl =>
    cases fl with
    | ret u =>
      obtain ⟨v, H', I2, rv, q2⟩ := I1.after hq
      exact wpAny_execs_nil (wpAny_execs_nil ⟨σ, H', I2, q2⟩)
    | next => exact False.elim hq
    | brk => exact False.elim hq
    | cont => exact False.elim hq
  | error ev =>
    obtain ⟨H2, a, C, t, B, rfl, fl, a', C', ea, ec, hmro, hth⟩ := hq
    cases ea; cases ec
    obtain ⟨hp', g', d', t', os'⟩ := s'
    have fl1 := fl.fly
    rw [hst] at fl1
    refine wpAny_looks_onW (by rw [← hst]; exact I1.ok.frames) hf fl1 fun h₄ held₄ sm₄ => ?_
    refine wpAny_landsW held₄ fun h₅ fly₅ sm₅ => ?_
    have I5 : Inv X pins σ H2 ⟨h₅, g', d', t', os'⟩ := I1.call' (ch := []) fl.os (fl.un h₅ fly₅.1 (sm₄.trans sm₅)) (fl.hok.kept fly₅.1) fl.bare (fun _ z => nomatch z)
    refine wpAny_handleBy_cons (codeAny_handlers_test (ld_glob (X := X.handling (.ref a)) (I5.handling _) hgD hmD ?_ hdy)) (by intro q; cases q)
    obtain ⟨ob, hob, hobc⟩ := fly₅.there
    obtain ⟨dD, cD, sD, lD⟩ := ZD.ex
    refine exc_matches I5.kIn hob hobc lD ZD.exc hmro (codeAny_handlers_suite_as ?_)
    refine lands_againW fly₅ fun h₆ fly₆ sm₆ => ?_
    have U6 := fl.un h₆ fly₆.1 ((sm₄.trans sm₅).trans sm₆)
    have hok6 : HOk X.prog X.w H2 h₆ := fl.hok.kept fly₆.1
    obtain ⟨oe, heo, hec⟩ := fly₆.there
    have nea : ∀ b o, s1.heap.get? b = some o → b ≠ a := fun b o q z => by subst z; rw [fl.fresh] at q; cases q
    have U7 : Un (frs X.stack) [] H1 (upd H2 a (excO a C)) s1.heap h₆ := ⟨U6.keep, U6.slot, fun b o q n hx => by rw [upd_ne (nea b o q)]; exact U6.free b o q n hx, U6.there,
      fun b xs q => by rw [upd_ne (ne_of_none (U6.tups b xs q) fl.new)]; exact U6.tups b xs q, fun b o u q => by rw [upd_ne (ne_of_none (U6.frzs b o u q) fl.new)]; exact U6.frzs b o u q,
      fun b ps q => by obtain ⟨m, e1⟩ := U6.tbls b ps q; exact ⟨m, by rw [upd_ne (ne_of_none e1 fl.new)]; exact e1⟩⟩
    have hok7 : HOk X.prog X.w (upd H2 a (excO a C)) h₆ := fun b u q => by
      by_cases hb : b = a
      · subst hb; rw [upd_same] at q; cases q; exact excO_ok ⟨oe, heo, hec⟩
      · rw [upd_ne hb] at q
        exact (hok6 b u q).stay (fun c v _ z => z) (fun c z => by rw [upd_ne (ne_of_none z fl.new)]; exact z) fun c xs z => by rw [upd_ne (ne_of_none z fl.new)]; exact z
    have I6 : Inv X pins σ (upd H2 a (excO a C)) ⟨h₆, g', d', t', os'⟩ := I1.call' (ch := []) fl.os U7 hok7 fl.bare (fun _ z => nomatch z)
    refine store_ok (X := X.handling (.ref a)) (v := V.ref a) (I6.handling (.ref a)) hN hi (Or.inl hl) rfl (fun s7 I7 => ?_) (.inr hl)
    refine wpAny_mono (hs (.ref a) pins s7 _ _ _ I7 hth) (fun f8 s8 q => ?_) fun _ _ z => z.elim
    cases f8 with
    | ret u =>
      obtain ⟨v, σ', H', J, rv, q⟩ := q
      obtain ⟨m, hn, _⟩ := id J.loc
      exact wpAny_nameGoes hl hn (by rw [I.ok.kind]; rfl) fun h9 m9 ns9 sb9 => ⟨v, _, H', J.forget I.ok ns9 sb9, rv, q⟩
    | next => obtain ⟨_, _, _, q⟩ := q; exact q.elim
    | brk => obtain ⟨_, _, _, q⟩ := q; exact q.elim
    | cont => obtain ⟨_, _, _, q⟩ := q; exact q.elim

/-! ### the text's own class, by the written part -/
theorem own_obj {K : Frag} {h : Heap} {x : Str} {C : Addr} {mg : Str → Option Value} {bmB : List Value} {newId : String} (X : K.In h) (m : mg x = some (.ref C)) (q : excIn K C bmB newId = true) : OwnCls x C bmB newId mg h := by
  constructor
  · exact m
  unfold excIn at q
  split at q
  case h_2 => exact absurd q (by decide)
  rename_i dx kd ss lk
  split at q
  case h_2 => exact absurd q (by decide)
  rename_i C2 bm z0 z1 z2 z3 nn z5 e1 e2
  rw [Bool.and_eq_true, Bool.and_eq_true, Bool.and_eq_true, Bool.and_eq_true, Bool.and_eq_true, beq_iff_eq, beq_iff_eq, beq_iff_eq, Bool.not_eq_true'] at q
  obtain ⟨⟨⟨⟨⟨q1, q2⟩, q3⟩, q4⟩, q5⟩, q6⟩ := q
  subst q1; subst q2
  obtain ⟨f1, f2, f3, f4, f5, f6, f7, f8, f9, f10, f11⟩ := kd
  simp only at e1 q3 q5 q6
  subst e1; subst q3
  obtain ⟨sl⟩ := ss
  simp only at e2
  subst e2
  exact ⟨_, _, _, _, _, _, _, _, _, _, _, _, _, _, _, _, _, X _ _ lk, .of_isNs (isNs_of_in X q5), nsMap_none_of_in X q5 q6, tail_of_in X q4⟩

/-! ### defs that raise, defs that are called in a handler -/
structure DefE (P : Program) (w : World) (K : PySem.W.Frag) (mg : Str → Option Value) (base : Heap) (k : Nat) (x : Str) (ps : List Str) (sp : Sp) : Prop where
  ex : ∃ (f : Addr) (fd : FuncData), FnOk P w K mg base (CXE P w) k f fd ps sp ∧ Binds K fd ps [] ∧ PySem.W.keepIn K (.ref f) = true ∧ mg x = some (.ref f)
structure DefH (P : Program) (w : World) (K : PySem.W.Frag) (mg : Str → Option Value) (base : Heap) (k : Nat) (x : Str) (ps : List Str) (sp : Sp) : Prop where
  ex : ∃ (f : Addr) (fd : FuncData), FnOkH P w K mg base k f fd ps sp ∧ Binds K fd ps [] ∧ PySem.W.keepIn K (.ref f) = true ∧ mg x = some (.ref f)
section
variable {P : Program} {w : World} {K : PySem.W.Frag} {mg : Str → Option Value} {base : Heap}
theorem Fun.def_H {x qual : Str} {st : Stmt} {f : Addr} {fd : FuncData} {N ps : List Str} {k : Nat} {sp : Sp} (F : Fun K x qual st f fd) (m : mg x = some (.ref f)) (b : Binds K fd ps []) (S : FnScope N ps (defScope st)) (len : ∀ vs H Q E, sp vs H Q E → vs.length = ps.length)
    (hbody : ∀ (cdv : Value) (A : Around) (outer : List Env) (s : Shared) (H : Hp) (vs : List V) (Q : VK) (E : XK), RoomH k (A.deeper (envOfC qual (defScope st) s.heap.objs.size f cdv)) → sp vs H Q E →
      ∃ t, QSs (cxH P w K mg base N qual (defScope st) f cdv A outer s H) (defBody st) t ∧ t { nx := fun _ H' => Q .non H', rt := Q } (start N vs) H) : DefH P w K mg base (k + 1) x ps sp := by
  refine ⟨f, fd, ?_, b, F.kp, m⟩
  obtain ⟨oc, od, kV, doc, pm, an, cdv, ct, osl, rfl, lk, hcd⟩ := F.ex
  refine fnh_of lk hcd S len fun A outer s H vs Q E hr hsp => ?_
  obtain ⟨t, h, q⟩ := hbody cdv A outer s H vs Q E hr hsp
  exact ⟨t, h.h, q⟩
end
theorem markH {j k : Nat} {A : Around} {v : Option Value} (r : Room j A) (h : k ≤ j) : RoomH k (A.mark v) := ⟨(r.mono h).dp, (r.mono h).un⟩
namespace R
section
variable {X : Cx} {e : Expr} {es : List Expr} {te : TE} {t : TA} {pos p : Pos}
theorem pe_isiC {x : Str} {D : Addr} {p2 : Pos} (hg : Gl X "isinstance") (hm : X.mg "isinstance" = none) (hgT : Gl X x) (hmT : X.mg x = some (.ref D)) (ha : QE X e te) (hs : noStar e = true := by rfl) (hdb : (x == ("__debug__" : Str)) = false := by decide) :
    QE X (.Call (.Name "isinstance" p) [e, .Name x p2] [] pos) (tCB (rIsO X.K D) (tCons te (tCons (tC (.ref D)) tNil))) := ⟨L2.pe_isiC hg hm hgT hmT ha.h hs hdb⟩
theorem pe_isiT {x : Str} {T : String} {p2 : Pos} (hg : Gl X "isinstance") (hm : X.mg "isinstance" = none) (hgT : Gl X x) (hmT : X.mg x = none) (hv : bootBuiltins x = some (.type T)) (ha : QE X e te) (hs : noStar e = true := by rfl)
    (hn : x ≠ "__name__" := by decide) (hdb : (x == ("__debug__" : Str)) = false := by decide) :
    QE X (.Call (.Name "isinstance" p) [e, .Name x p2] [] pos) (tCB (rIsT X.K T) (tCons te (tCons (tC (.ty T)) tNil))) := ⟨L2.pe_isiT hg hm hgT hmT hv ha.h hs hn hdb⟩
theorem pe_callH {k : Nat} {x : Str} {ps : List Str} {sp : Sp} (D : DefH X.prog X.w X.K X.mg X.base k x ps sp) (hr : RoomH k X.A) (hg : Gl X x) (ha : QA X (e :: es) t) (hs : (e :: es).all noStar = true := by rfl) (hdb : (x == ("__debug__" : Str)) = false := by decide) :
    QE X (.Call (.Name x p) (e :: es) [] pos) (tCall sp [] E0 t) := by
  obtain ⟨f, fd, F, b, kp, m⟩ := D.ex
  exact ⟨L2.pe_callH F hr hg m kp b ha.h hs hdb⟩
theorem ps_raise {x : Str} {C : Addr} {bmB : List Value} {B newId initId : String} {E : XK} {np cpos : Pos} (F : ExcBaseFacts B newId initId bmB) (O : OwnCls x C bmB newId X.mg X.base)
    (hbase : bmB.contains (.type "BaseException") = true) (hc : X.calm = true) (hg : Gl X x) (ha : QA X (e :: es) t) (hst : X.stack = X.env :: X.outer) (hf : X.env.frame = some X.env.locals) (hex : X.ex = [])
    (hxe : ∀ v s', wpAny (model X.prog X.w) X.A (leaving X.env v) (fun _ s'' => CXE X.prog X.w X.outer X.H₀ X.s₀ E v s'') (fun v' s'' => CXE X.prog X.w X.outer X.H₀ X.s₀ E v' s'') s' → X.xe v s')
    (hs : (e :: es).all noStar = true := by rfl) (hdb : (x == ("__debug__" : Str)) = false := by decide) :
    QS X (.Raise (some (.Call (.Name x np) (e :: es) [] cpos)) none pos) (tRaise C E t) := ⟨L2.ps_raise F O hbase hc hg ha.h hst hf hex hxe hs hdb⟩
theorem ps_try {k j : Nat} {D : Addr} {ps : List Str} {sp : Sp} {x y n : Str} {i : Nat} {cpos epos np hpos : Pos} {b₀ : Stmt} {suite : List Stmt} {th : Value → TS}
    (DE : DefE X.prog X.w X.K X.mg X.base k x ps sp) (hr : Room j X.A) (hj : k ≤ j) (hg : Gl X x) (hgD : Gl X y) (hmD : X.mg y = some (.ref D)) (ZD : ExD X.K D) (hN : X.N.Nodup) (hi : X.N[i]? = some n) (hl : X.env.kindOf n = some .local)
    (hst : X.stack = X.env :: X.outer) (hf : X.env.frame = some X.env.locals) (hex : X.ex = [])
    (ha : QA X.nox (e :: es) t) (hs : ∀ v, QSs (X.handling v) (b₀ :: suite) (th v)) (hstar : (e :: es).all noStar = true := by rfl) (hdb : (x == ("__debug__" : Str)) = false := by decide) (hdy : (y == ("__debug__" : Str)) = false := by decide) :
    QS X (.Try [.Expr (.Call (.Name x p) (e :: es) [] cpos) epos] [.ExceptHandler (some (.Name y np)) (some n) (b₀ :: suite) hpos] [] [] pos) (tTry X.K D sp i t th) := by
  obtain ⟨f, fd, F, b, kp, m⟩ := DE.ex
  exact ⟨L2.ps_try F (hr.mono hj) hg m kp b hgD hmD ZD hN hi hl hst hf hex ha.h (fun v => (hs v).h) hstar hdb hdy⟩
end
end R
end L2


set_option Elab.async false
set_option linter.all false
set_option maxRecDepth 100000
/-! an exception that passes through a def; raises in loops -/
namespace L2
open PySem PySem.Spec PyProof.Rows PySem.W
/-- a callee's exception leaves this def, too -/
theorem passE {X : Cx} {E : XK} (hst : X.stack = X.env :: X.outer) (hf : X.env.frame = some X.env.locals) (hex : X.ex = [])
    (hxe : ∀ v s', wpAny (model X.prog X.w) X.A (leaving X.env v) (fun _ s'' => CXE X.prog X.w X.outer X.H₀ X.s₀ E v s'') (fun v' s'' => CXE X.prog X.w X.outer X.H₀ X.s₀ E v' s'') s' → X.xe v s') : Passes (CXE X.prog X.w) X E := by
  intro pins σ H s v s' I hq
  obtain ⟨H', a, C, t, B, rfl, fl, q⟩ := hq
  refine hxe _ _ ?_
  have fl1 := fl.fly
  rw [hst] at fl1
  have hexn : ∀ b : Addr, b ∉ X.ex := fun b z => by rw [hex] at z; cases z
  have hneL : ∀ b o, X.s₀.heap.get? b = some o → b ∉ X.fs → b ∉ frs X.stack := fun b o q hb z => by
    rcases List.mem_cons.mp (I.stkSub b z) with r | r
    · exact absurd (Heap.lt_size q) (by rw [r]; exact Nat.not_lt.mpr I.ok.above)
    · exact hb r
  refine wpAny_leaves_onW (by rw [← hst]; exact I.ok.frames) hf fl1 fun h2 x1 x2 => ⟨H', a, C, t, B, rfl, ⟨fl.os.trans I.os, fl.bare, fun h3 k3 u3 => ?_, fl.hok, x1, fl.new, ?_⟩, q⟩
  · have U := fl.un h3 k3 (x2.trans u3)
    have no : ∀ b : Addr, b ∉ ([] : List Addr) := fun _ z => nomatch z
    refine ⟨fun b o q n hb _ => U.keep b o (I.base.keep b o q n hb (hexn b)) (I.base.free b o q n (hexn b)) (hneL b o q hb) (no b), fun b o q n hb _ => ?_, fun b o q n _ => ?_, fun b o q _ => ?_,
      fun b xs q => U.tups b xs (I.base.tups b xs q), fun b o u q => U.frzs b o u (I.base.frzs b o u q), fun b ps q => ?_⟩
    · obtain ⟨s1, e1⟩ := I.base.slot b o q n hb (hexn b)
      obtain ⟨s3, e3⟩ := U.any e1 (I.base.free b o q n (hexn b)) (no b)
      exact ⟨s3, e3⟩
    · obtain ⟨o', e1⟩ := I.base.there b o q (hexn b)
      exact U.free b o' e1 (I.base.free b o q n (hexn b)) (no b)
    · obtain ⟨o', e1⟩ := I.base.there b o q (hexn b)
      exact U.there b o' e1 (no b)
    · obtain ⟨m1, e1⟩ := I.base.tbls b ps q
      obtain ⟨m2, e2⟩ := U.tbls b _ e1
      exact ⟨m1 ++ m2, by rw [e2, Array.append_assoc]⟩
  · cases z : X.s₀.heap.get? a with
    | none => rfl
    | some o =>
      obtain ⟨o', e1⟩ := I.base.there a o z (hexn a)
      rw [fl.fresh] at e1; cases e1
section
variable {P : Program} {w : World} {K : PySem.W.Frag} {mg : Str → Option Value} {base : Heap}
theorem Fun.def_E {x qual : Str} {st : Stmt} {f : Addr} {fd : FuncData} {N ps : List Str} {k : Nat} {sp : Sp} (F : Fun K x qual st f fd) (m : mg x = some (.ref f)) (b : Binds K fd ps []) (S : FnScope N ps (defScope st)) (len : ∀ vs H Q E, sp vs H Q E → vs.length = ps.length)
    (hbody : ∀ (cdv : Value) (A : Around) (outer : List Env) (s : Shared) (H : Hp) (vs : List V) (Q : VK) (E : XK), Room k (A.deeper (envOfC qual (defScope st) s.heap.objs.size f cdv)) → sp vs H Q E →
      ∃ t, QSs (cxOf (CXE P w) P w K mg base N qual (defScope st) f cdv A outer s H E) (defBody st) t ∧ t { nx := fun _ H' => Q .non H', rt := Q } (start N vs) H) : DefE P w K mg base (k + 1) x ps sp := by
  refine ⟨f, fd, ?_, b, F.kp, m⟩
  obtain ⟨oc, od, kV, doc, pm, an, cdv, ct, osl, rfl, lk, hcd⟩ := F.ex
  refine fn_of lk hcd S len fun A outer s H vs Q E hr hsp => ?_
  obtain ⟨t, h, q⟩ := hbody cdv A outer s H vs Q E hr hsp
  exact ⟨t, h.h, q⟩
/-- a loop's wish in a def that may raise -/
theorem passes_for {N : List Str} {qual : Str} {scope : Scope} {f : Addr} {cd : Value} {A : Around} {outer : List Env} {s : Shared} {H : Hp} {E : XK} :
    PassesOwn (model P w) (cxOf (CXE P w) P w K mg base N qual scope f cd A outer s H E).A (cxOf (CXE P w) P w K mg base N qual scope f cd A outer s H E).env (cxOf (CXE P w) P w K mg base N qual scope f cd A outer s H E).xe :=
  PassesOwn.leaving
end
namespace R
/-- a call of a def that may raise, in a def that may raise: what it raises goes on -/
theorem pe_callE {X : Cx} {k j : Nat} {x : Str} {ps : List Str} {sp : Sp} {E : XK} {e : Expr} {es : List Expr} {t : TA} {pos p : Pos} (DE : DefE X.prog X.w X.K X.mg X.base k x ps sp) (hr : Room j X.A) (hj : k ≤ j) (hg : Gl X x) (ha : QA X (e :: es) t)
    (hst : X.stack = X.env :: X.outer) (hf : X.env.frame = some X.env.locals) (hex : X.ex = [])
    (hxe : ∀ v s', wpAny (model X.prog X.w) X.A (leaving X.env v) (fun _ s'' => CXE X.prog X.w X.outer X.H₀ X.s₀ E v s'') (fun v' s'' => CXE X.prog X.w X.outer X.H₀ X.s₀ E v' s'') s' → X.xe v s')
    (hs : (e :: es).all noStar = true := by rfl) (hdb : (x == ("__debug__" : Str)) = false := by decide) : QE X (.Call (.Name x p) (e :: es) [] pos) (tCall sp [] E t) := by
  obtain ⟨f, fd, F, b, kp, m⟩ := DE.ex
  exact ⟨L2.pe_call F (hr.mono hj) hg m kp b .nil (passE hst hf hex hxe) ha.h hdb (star_cons (all_cons1 hs).1) (star_any (all_cons1 hs).2)⟩
end R
end L2


set_option Elab.async false
set_option linter.all false
set_option maxRecDepth 100000
/-! [elt for target in iter if test], anywhere -/
namespace L2
open PySem PySem.Spec PyProof.Rows
/-! ### the cells that a comprehension takes from around it -/
noncomputable def clOf (cells : List (Str × Addr)) : List (Str × NameKind) → List (Str × Addr) → List (Str × Addr)
  | [], acc => acc
  | (n, k) :: r, acc => if (k == .free) = true then clOf cells r ((n, (cells.lookup n).getD 0) :: acc) else clOf cells r acc
theorem clOf_run {env : Env} : ∀ (names : List (Str × NameKind)) (acc : List (Str × Addr)), (∀ y ∈ names, y.2 = .free → ∃ c, env.cells.lookup y.1 = some c) →
    (forIn names acc fun (x : Str × NameKind) (r : List (Str × Addr)) => (if (x.2 == .free) = true then do let a ← cellOf env x.1; pure (ForInStep.yield ((x.1, a) :: r)) else pure (ForInStep.yield r) : Sem (ForInStep (List (Str × Addr))))) = (pure (clOf env.cells names acc) : Sem _)
  | [], acc, _ => rfl
  | (n, k) :: r, acc, h => by
    have ih := fun acc => clOf_run (env := env) r acc fun y hy => h y (List.mem_cons_of_mem _ hy)
    rw [List.forIn_cons]
    cases hk : (k == NameKind.free) with
    | false =>
      have e1 : clOf env.cells ((n, k) :: r) acc = clOf env.cells r acc := by
        show (if (k == NameKind.free) = true then _ else _) = _
        rw [hk]; rfl
      rw [e1, ← ih acc]
      rfl
    | true =>
      have hk' : k = .free := by simpa using hk
      obtain ⟨c, hc⟩ := h (n, k) List.mem_cons_self hk'
      have e1 : clOf env.cells ((n, k) :: r) acc = clOf env.cells r ((n, c) :: acc) := by
        show (if (k == NameKind.free) = true then clOf env.cells r ((n, (env.cells.lookup n).getD 0) :: acc) else _) = _
        rw [hk, show env.cells.lookup n = some c from hc]; rfl
      rw [e1, ← ih]
      have e2 : cellOf env n = pure c := by
        unfold cellOf
        rw [show env.cells.lookup n = some c from hc]
      rw [show cellOf env (n, k).fst = pure c from e2]; rfl
theorem closure_of {scope : Scope} {env : Env} (h : ∀ y ∈ scope.names, y.2 = .free → ∃ c, env.cells.lookup y.1 = some c) : closureFor scope env = pure (clOf env.cells scope.names []) := by
  have q := clOf_run (env := env) scope.names [] h
  have e : closureFor scope env = Bind.bind (forIn scope.names [] fun (x : Str × NameKind) (r : List (Str × Addr)) => (if (x.2 == .free) = true then do let a ← cellOf env x.1; pure (ForInStep.yield ((x.1, a) :: r)) else pure (ForInStep.yield r) : Sem (ForInStep (List (Str × Addr))))) (fun r => pure r) := rfl
  rw [e, q]; rfl
theorem clOf_acc {cells : List (Str × Addr)} {z : Str} : ∀ (names : List (Str × NameKind)) (acc : List (Str × Addr)), (acc.lookup z).isSome = true → ((clOf cells names acc).lookup z).isSome = true
  | [], _, h => h
  | (n, k) :: r, acc, h => by
    unfold clOf
    split
    · refine clOf_acc r _ ?_
      rw [List.lookup_cons]
      cases (z == n)
      · exact h
      · rfl
    · exact clOf_acc r _ h
theorem clOf_has {cells : List (Str × Addr)} {z : Str} : ∀ (names : List (Str × NameKind)) (acc : List (Str × Addr)), (z, NameKind.free) ∈ names → ((clOf cells names acc).lookup z).isSome = true
  | [], _, h => nomatch h
  | (n, k) :: r, acc, h => by
    unfold clOf
    rcases List.mem_cons.mp h with e | h
    · cases e
      rw [if_pos (by rfl)]
      refine clOf_acc r _ ?_
      rw [List.lookup_cons, show (z == z) = true from by simp]; rfl
    · split
      · exact clOf_has r _ h
      · exact clOf_has r _ h
theorem clOf_sub {cells : List (Str × Addr)} {z : Str} {c : Addr} : ∀ (names : List (Str × NameKind)) (acc : List (Str × Addr)), (∀ y ∈ names, y.2 = .free → ∃ c, cells.lookup y.1 = some c) → (∀ z c, acc.lookup z = some c → cells.lookup z = some c) →
    (clOf cells names acc).lookup z = some c → cells.lookup z = some c
  | [], _, _, h, e => h _ _ e
  | (n, k) :: r, acc, hn, h, e => by
    unfold clOf at e
    split at e
    · rename_i hk
      have hk' : k = .free := by simpa using hk
      obtain ⟨c', hc⟩ := hn (n, k) List.mem_cons_self hk'
      refine clOf_sub r _ (fun y hy => hn y (List.mem_cons_of_mem _ hy)) (fun z1 c1 e9 => ?_) e
      rw [show cells.lookup n = some c' from hc] at e9
      rw [List.lookup_cons] at e9
      cases hz : (z1 == n) with
      | false => rw [hz] at e9; exact h _ _ e9
      | true =>
        rw [hz] at e9
        have hz' : z1 = n := by simpa using hz
        rw [hz', show cells.lookup n = some c' from hc]
        exact e9
    · exact clOf_sub r _ (fun y hy => hn y (List.mem_cons_of_mem _ hy)) h e
structure CompOk2 (X : Cx) (scope : Scope) (cl : List (Str × Addr)) (xs ns : List Str) (fr : List Nat) : Prop where
  clos : closureFor scope X.env = pure cl
  sub : ∀ z c, cl.lookup z = some c → X.env.cells.lookup z = some c
  kind : scope.kind = .function
  nocell : ∀ y ∈ scope.names, y.2 ≠ .cell
  names : ∀ y ∈ scope.names, y.2 = .local → scope.names.lookup y.1 = some .local
  has : ∀ z, ((relabel scope X.env).names.lookup z = some .cell ∨ (relabel scope X.env).names.lookup z = some .free) → ∃ c, cl.lookup z = some c
  out : ∀ (j : Nat) (z : Str), ns[j]? = some z → ∃ i, fr[j]? = some i ∧ X.N[i]? = some z ∧ X.env.scope.names.lookup z = some .cell ∧ (relabel scope X.env).names.lookup z = some .cell
  len : fr.length = ns.length
/-- what can be looked at: the scope around, the comprehension's, the names -/
noncomputable def compB (sc cs : List (Str × NameKind)) (N ns : List Str) (fr : List Nat) : Bool :=
  cs.all (fun y => y.2 != .cell) && cs.all (fun y => y.2 != .local || cs.lookup y.1 == some .local) && cs.all (fun y => y.2 != .free || sc.lookup y.1 == some .cell)
    && (fr.length == ns.length) && (List.range ns.length).all (fun j => match ns[j]?, fr[j]? with
      | some z, some i => N[i]? == some z && sc.lookup z == some .cell && cs.lookup z == some .free
      | _, _ => false)
theorem lookup_relabel_free {env : Env} (hk : env.scope.kind = .function) : ∀ {names : List (Str × NameKind)} {x : Str}, names.lookup x = some .free → env.kindOf x = some .cell →
    (names.map fun (n, k) => if (k == NameKind.free && env.scope.kind == .function && env.kindOf n == some .cell) then (n, NameKind.cell) else (n, k)).lookup x = some .cell
  | [], _, h, _ => by simp at h
  | (n, k) :: r, x, h, hc => by
    have ih := @lookup_relabel_free env hk r x
    show List.lookup x ((if (k == NameKind.free && env.scope.kind == .function && env.kindOf n == some .cell) = true then (n, NameKind.cell) else (n, k)) :: _) = _
    cases hx : x == n with
    | true =>
      have e : x = n := by simpa using hx
      simp only [List.lookup_cons, hx] at h
      cases h
      subst e
      rw [if_pos (by rw [hk, hc]; decide)]
      simp only [List.lookup_cons, hx]
    | false =>
      simp only [List.lookup_cons, hx] at h
      by_cases hc' : (k == NameKind.free && env.scope.kind == .function && env.kindOf n == some .cell) = true
      · rw [if_pos hc']; simp only [List.lookup_cons, hx]; exact ih h hc
      · rw [if_neg hc']; simp only [List.lookup_cons, hx]; exact ih h hc
theorem relabel_mem {env : Env} : ∀ {names : List (Str × NameKind)} {x : Str} {k : NameKind},
    (names.map fun (n, k) => if (k == NameKind.free && env.scope.kind == .function && env.kindOf n == some .cell) then (n, NameKind.cell) else (n, k)).lookup x = some k → (∀ y ∈ names, y.2 ≠ .cell) → (k = .cell ∨ k = .free) → (x, NameKind.free) ∈ names
  | [], _, _, h, _, _ => by simp at h
  | (n, k0) :: r, x, k, h, hn, hk => by
    have ih := @relabel_mem env r x k
    have h' : List.lookup x ((if (k0 == NameKind.free && env.scope.kind == .function && env.kindOf n == some .cell) = true then (n, NameKind.cell) else (n, k0)) :: r.map fun (n, k) => if (k == NameKind.free && env.scope.kind == .function && env.kindOf n == some .cell) then (n, NameKind.cell) else (n, k)) = some k := h
    cases hx : x == n with
    | false =>
      refine List.mem_cons_of_mem _ (ih ?_ (fun y hy => hn y (List.mem_cons_of_mem _ hy)) hk)
      by_cases hc' : (k0 == NameKind.free && env.scope.kind == .function && env.kindOf n == some .cell) = true
      · rw [if_pos hc'] at h'; simpa only [List.lookup_cons, hx] using h'
      · rw [if_neg hc'] at h'; simpa only [List.lookup_cons, hx] using h'
    | true =>
      have e : x = n := by simpa using hx
      subst e
      by_cases hc' : (k0 == NameKind.free && env.scope.kind == .function && env.kindOf x == some .cell) = true
      · have : k0 = .free := by
          rw [Bool.and_eq_true, Bool.and_eq_true] at hc'
          simpa using hc'.1.1
        rw [this]; exact List.mem_cons_self
      · rw [if_neg hc'] at h'
        simp only [List.lookup_cons, hx] at h'
        have : k0 = k := Option.some.inj h'
        subst this
        rcases hk with e | e
        · exact absurd e (hn (x, k0) List.mem_cons_self)
        · rw [e]; exact List.mem_cons_self
theorem CompOk2.of {X : Cx} {scope sc : Scope} {N xs ns : List Str} {fr : List Nat} (hsc : X.env.scope = sc) (hN : X.N = N) (hcl : ∃ n, X.env.cells = cellsFrom n X.env.scope.names []) (hk : X.env.scope.kind = .function) (kind : scope.kind = .function)
    (h : compB sc.names scope.names N ns fr = true) : CompOk2 X scope (clOf X.env.cells scope.names []) xs ns fr := by
  subst hsc hN
  unfold compB at h
  rw [Bool.and_eq_true, Bool.and_eq_true, Bool.and_eq_true, Bool.and_eq_true] at h
  obtain ⟨⟨⟨⟨h1, h2⟩, h3⟩, h4⟩, h5⟩ := h
  have n1 : ∀ y ∈ scope.names, y.2 ≠ .cell := fun y hy e => by
    have := List.all_eq_true.mp h1 y hy
    rw [e] at this; cases this
  have n2 : ∀ y ∈ scope.names, y.2 = .local → scope.names.lookup y.1 = some .local := fun y hy e => by
    have := List.all_eq_true.mp h2 y hy
    rw [e] at this
    simpa using this
  have n3 : ∀ y ∈ scope.names, y.2 = .free → X.env.scope.names.lookup y.1 = some .cell := fun y hy e => by
    have := List.all_eq_true.mp h3 y hy
    rw [e] at this
    simpa using this
  have n4 : ∀ y ∈ scope.names, y.2 = .free → ∃ c, X.env.cells.lookup y.1 = some c := fun y hy e => by
    obtain ⟨n, hn⟩ := hcl
    rw [hn]
    exact cell_has (n3 y hy e)
  refine ⟨closure_of n4, fun z c e => clOf_sub _ [] n4 (fun z c e => by cases e) e, kind, n1, n2, fun z hz => ?_, fun j z e => ?_, by simpa using h4⟩
  · refine Option.isSome_iff_exists.mp (clOf_has _ [] ?_)
    rcases hz with q | q
    · exact relabel_mem q n1 (.inl rfl)
    · exact relabel_mem q n1 (.inr rfl)
  · have hj : j < ns.length := (List.getElem?_eq_some_iff.mp e).1
    have := List.all_eq_true.mp h5 j (List.mem_range.mpr hj)
    rw [e] at this
    have h4' : fr.length = ns.length := by simpa using h4
    have hj' : j < fr.length := by rw [h4']; exact hj
    rw [List.getElem?_eq_getElem hj'] at this
    have this' : (X.N[fr[j]]? == some z && X.env.scope.names.lookup z == some .cell && scope.names.lookup z == some .free) = true := this
    rw [Bool.and_eq_true, Bool.and_eq_true] at this'
    obtain ⟨⟨a1, a2⟩, a3⟩ := this'
    have a2' : X.env.scope.names.lookup z = some .cell := by simpa using a2
    exact ⟨fr[j], List.getElem?_eq_getElem hj', by simpa using a1, a2', lookup_relabel_free hk (by simpa using a3) a2'⟩
/-! ### the tests of a comprehension -/
noncomputable def PF (X : Cx) (ifs : List Expr) (t : TT) : Prop :=
  ∀ (pins : List (Addr × Obj)) (s : Shared) (σ : St) (H : Hp) (Q : Bool → Hp → Prop), Inv X pins σ H s → t σ H Q →
    wpAny (model X.prog X.w) X.A (forIn ifs true fun c r => if r = true then do let ok ← isTrue c X.env (eval c X.env); pure (ForInStep.yield ok) else pure (ForInStep.yield r)) (TP X pins σ Q) X.xe s
noncomputable def fNil : TT := fun _ H Q => Q true H
theorem pf_nil {X : Cx} : PF X [] fNil := fun pins s σ H Q I h => wpAny_tests_nil ⟨H, I, h⟩
theorem pf_one {X : Cx} {c : Expr} {t : TT} (h : PT X c t) : PF X [c] t := fun pins s σ H Q I hw => wpAny_tests_one (h pins s σ H Q I hw)
section
variable {prog : Program} {w : World} {A : Around} {R : Result → Shared → Prop} {s : Shared}
theorem comp_loop2 {elt target iter : Expr} {ifs : List Expr} {scope : Scope} {pos : Pos} {it acc : Value} {env : Env} (I : Nat → Shared → Prop)
    (turn : ∀ n s, I n s → wpAny (model prog w) A (pyNext it) (fun r s₁ => match r with
      | none => R (.ok .next) s₁
      | some v => wpAny (model prog w) A (letOwnedTupleGo target it v) (fun _ s₁' => wpAny (model prog w) A (assign target env v) (fun _ s₂ =>
          wpAny (model prog w) A (forIn ifs true fun c r => if r = true then do let ok ← isTrue c env (eval c env); pure (ForInStep.yield ok) else pure (ForInStep.yield r)) (fun ok s₂' => if ok = true then wpAny (model prog w) A (eval elt env) (fun x s₃ =>
            wpAny (model prog w) A (call (.builtin "list.append") [acc, x]) (fun _ s₄ => ∃ m, m < n ∧ I m s₄) (notedBy (model prog w) A env fun e s' => R (.error e) s') s₃) (notedBy (model prog w) A env fun e s' => R (.error e) s') s₂'
            else ∃ m, m < n ∧ I m s₂') (notedBy (model prog w) A env fun e s' => R (.error e) s') s₂)
          (notedBy (model prog w) A env fun e s' => R (.error e) s') s₁') (notedBy (model prog w) A env fun e s' => R (.error e) s') s₁) (notedBy (model prog w) A env fun e s' => R (.error e) s') s)
    (n : Nat) (h : I n s) : codeAny (model prog w) A (.compLoop (.ListComp elt [⟨target, iter, ifs, 0⟩] scope pos) 0 it acc env) R s := by
  refine codeAny_loop rfl I (fun n s hI => ?_) n h
  show wpAny _ A ((compTurn (.ListComp elt [⟨target, iter, ifs, 0⟩] scope pos) 0 it acc env).onRaise (fun x => do noteFrame x env; theTreesLotGoes x)) _ _ s
  refine wpAny_noted ?_
  rw [compTurn_list]
  refine wpAny_bind (wpAny_standAt (wpAny_bind (wpAny_mono (turn n s hI) (fun r s₁ h₁ => ?_) fun _ _ h' => h')))
  cases r with
  | none => exact wpAny_pure h₁
  | some v =>
    refine wpAny_bind (wpAny_mono h₁ (fun _ s₀ h₀' => ?_) fun _ _ h' => h')
    refine wpAny_bind (wpAny_mono h₀' (fun _ s₂ h₂ => ?_) fun _ _ h' => h')
    refine wpAny_bind (wpAny_mono h₂ (fun okb s₃ h₃ => ?_) fun _ _ h' => h')
    cases okb with
    | false => exact wpAny_pure ⟨rfl, h₃⟩
    | true => exact wpAny_bind (wpAny_bind (wpAny_mono h₃ (fun x s₄ h₄ => wpAny_bind (wpAny_mono h₄ (fun _ s₅ h₅ => wpAny_pure (wpAny_pure ⟨rfl, h₅⟩)) fun _ _ h' => h')) fun _ _ h' => h'))
end
/-- the end of a comprehension's reading: J the iterator; Pv k: behind k turns -/
noncomputable def CompGoal (J : It) (nx : Nat) (g : TG) (fr : List Nat) (tt : TT) (te : TE) (σ : St) (Q : VK) (H1 : Hp) (l : Addr) : Prop :=
  ∃ W : Nat → Nat → Hp → Prop, (∃ m, W 0 m (upd H1 l (.lst []))) ∧ ∀ k m H, W k m H →
    (J.stop k H ∧ Q (.ref l) H) ∨ (J.go k H ∧ ∀ v H', J.yld k H v H' → ∀ os : St, os.length = nx → g v (os ++ inner σ fr) H' fun σ2 H2 => (∃ os' : St, os'.length = nx ∧ σ2 = os' ++ inner σ fr) ∧ tt σ2 H2 fun b H3 =>
      if b = true then te σ2 H3 fun y H4 => ∃ zs m', H4 l = some (.lst zs) ∧ zs.length < sizeLine ∧ m' < m ∧ W (k + 1) m' (upd H4 l (.lst (zs ++ [y]))) else ∃ m', m' < m ∧ W (k + 1) m' H3)
/-- nx: how many names the target has; fr: where the names that it takes from around stand there -/
noncomputable def tCompE (wi : TI) (nx : Nat) (fr : List Nat) (g : TG) (tt : TT) (te : TE) : TE := fun σ H Q => wi σ H fun J H1 => ∀ l, H1 l = none → CompGoal J nx g fr tt te σ Q H1 l
theorem comp_all {X : Cx} {pins : List (Addr × Obj)} {σ : St} {H : Hp} {s : Shared} {tg iter elt : Expr} {ifs : List Expr} {scope : Scope} {pos pos' : Pos} {cl : List (Str × Addr)} {xs ns : List Str} {fr : List Nat} {wi : TI} {g : TG} {tt : TT} {te : TE}
    {use : Option (Value → Sem Unit)} {Qv : Value → Shared → Prop} {R : VK}
    (hc : X.calm = true) (ok : CompOk2 X scope cl xs ns fr) (hI : PI X tg iter wi) (hg : ∀ C s₂ H2 fp, PG (cxComp X scope cl (xs ++ ns) C s₂ H2 fp) tg g) (hf : ∀ C s₂ H2 fp, PF (cxComp X scope cl (xs ++ ns) C s₂ H2 fp) ifs tt)
    (he : ∀ C s₂ H2 fp, PE (cxComp X scope cl (xs ++ ns) C s₂ H2 fp) elt te) (hs : ∀ x, foldedSetIterable iter X.env x = pure x)
    (I : Inv X pins σ H s) (h : tCompE wi xs.length fr g tt te σ H R)
    (fin : ∀ (C l : Addr) (m : Str → Option Value) (s4 : Shared) (Hk : Hp), Inv X pins σ Hk s4 → s4.heap.Ns C m → Hk C = none → C ≠ X.env.locals → (∀ z c, X.env.cells.lookup z = some c → c ≠ C) → X.s₀.heap.objs.size ≤ C → (∀ p ∈ X.pn ++ pins, p.1 ≠ C) →
      R (.ref l) Hk → compPost (model X.prog X.w) X.A X.xe use Qv (.ref l) C (.ok .next) s4) :
    wpAny (model X.prog X.w) X.A (comprehension (.ListComp elt [⟨tg, iter, ifs, 0⟩] scope pos) scope X.env pos' (newList []) false (eval iter X.env) use) Qv X.xe s := by
  refine wpAny_comprehension_free (use := use) rfl hs ok.clos ok.kind ok.names ?_
  refine thn (hI pins s σ H _ I h) fun v s1 h1 => thn h1 fun itv s2 h2 => ?_
  obtain ⟨it, fp, tn, J, H2, rfl, I2, T, st2, f2, rd⟩ := h2
  refine wpAny_newObj_type (wpAny_newFunctionEnv ok.nocell (by intro y hy; simp at hy) (fun h₁ hns₁ hsb₁ => ?_) ok.kind)
  dsimp only at hns₁ hsb₁ ⊢
  generalize hG : s2.heap.push { cls := .type "list", dict := none, data := .seq ([] : List Value).toArray } = G at hns₁ hsb₁ ⊢
  have hC : G.objs.size = s2.heap.objs.size + 1 := by rw [← hG, Heap.size_push]
  have below : ∀ b, b < s2.heap.objs.size → b ≠ G.objs.size ∧ b ≠ s2.heap.objs.size := fun b hb => ⟨by rw [hC]; exact Nat.ne_of_lt (Nat.lt_succ_of_lt hb), Nat.ne_of_lt hb⟩
  have old : ∀ b o, s2.heap.get? b = some o → h₁.get? b = some o := fun b o e => hsb₁.extBut b o (below b (Heap.lt_size e)).1 (Heap.get?_push_of_some _ (hG ▸ Heap.get?_push_of_some _ e))
  have hacc : h₁.get? s2.heap.objs.size = some { cls := .type "list", data := .seq ([] : List Value).toArray } :=
    hsb₁.extBut _ _ (by rw [hC]; exact Nat.ne_of_lt (Nat.lt_succ_self _)) (Heap.get?_push_of_some _ (hG ▸ Heap.get?_push_size _ rfl))
  have lfree : H2 s2.heap.objs.size = none := I2.hok.fresh (Nat.le_refl _)
  have fplt : ∀ b ∈ fp, b < s2.heap.objs.size := fun b hb => by
    obtain ⟨o, e, _⟩ := T.obj 0 _ st2 b hb
    exact Heap.lt_size e
  have stk : ∀ b ∈ frs X.stack, b ∈ X.env.locals :: X.fs := I2.stkSub
  have clc : ∀ z c, cl.lookup z = some c → c < s2.heap.objs.size := fun z c e => by
    obtain ⟨v, q⟩ := I2.cell z c (ok.sub z c e)
    exact q.lt
  have okC : (cxComp X scope cl (xs ++ ns) G.objs.size s2 H2 fp).Ok := by
    refine ⟨I2.ok.mod, ok.kind, I2.ok.glob, I2.ok.blt, ?_, fun a b c h1 h2 => I2.ok.inj a b c (ok.sub a c h1) (ok.sub b c h2), fun z hz => ok.has z hz, fun z c hf => ?_, fun _ => I2.ok.hd hc, I2.ok.frames, .inl rfl, fun b hb => ⟨(below b (fplt b hb)).1, fun z c e => ?_⟩, I2.bs, Nat.le_trans I2.ok.bsz I2.sz, fun b o e hb => ?_, fun b hb => ?_, I2.stack, I2.stkFree⟩
    · show s2.heap.objs.size ≤ G.objs.size
      rw [hC]; exact Nat.le_succ _
    · exact absurd (show false = true from hf) Bool.false_ne_true
    · exact (f2 b hb).2.2.2.2.1 z c (ok.sub z c e)
    · rcases (f2 b hb).2.2.2.1 with z | z
      · exact I2.ok.noex b o e z
      · exact absurd (Nat.lt_of_lt_of_le (Heap.lt_size e) (Nat.le_trans I2.ok.bsz z)) (Nat.lt_irrefl _)
    · intro z
      rcases List.mem_cons.mp (stk b z) with q | q
      · exact (f2 b hb).2.1 q
      · exact (f2 b hb).2.2.1 q
  have fpC : ∀ {H' : Hp}, (∀ b ∈ fp, H' b = none) → ∀ b ∈ fp, FpOk (cxComp X scope cl (xs ++ ns) G.objs.size s2 H2 fp) [] H' b := fun hn b hb =>
    ⟨hn b hb, (below b (fplt b hb)).1, okC.exfs b hb, .inl hb, fun z c e => (f2 b hb).2.2.2.2.1 z c (ok.sub z c e), fun p hp => absurd (show p ∈ ([] : List (Addr × Obj)) from hp) (by simp)⟩
  have I4 : Inv (cxComp X scope cl (xs ++ ns) G.objs.size s2 H2 fp) [] (List.replicate xs.length none ++ inner σ fr) (upd H2 s2.heap.objs.size (.lst [])) { s2 with heap := h₁, toks := s2.toks + ([] : List (Str × Value)).length } := by
    refine ⟨okC, rfl, I2.bare, Un.laid old (Nat.le_refl _) lfree, ⟨_, hns₁, fun j z u e1 e2 e3 => ?_⟩, fun z c e => ?_, ?_, fun z c e => ?_, fun p hp => absurd (show p ∈ ([] : List (Addr × Obj)) from hp) (by simp), I2.hok.laid old (Nat.le_refl _) ⟨Nat.zero_le _, [], 0, .nil, hacc⟩, ?_⟩
    · by_cases hj : j < xs.length
      · rw [List.getElem?_append_left (by rw [List.length_replicate]; exact hj), List.getElem?_replicate, if_pos hj] at e2
        have e2' : (none : Option V) = some u := Option.some.inj e2
        cases e2'
      · have hj' : xs.length ≤ j := Nat.not_lt.mp hj
        rw [List.getElem?_append_right (by rw [List.length_replicate]; exact hj'), List.length_replicate] at e2
        have e1' : ns[j - xs.length]? = some z := by
          have e1'' : (xs ++ ns)[j]? = some z := e1
          rw [List.getElem?_append_right hj'] at e1''; exact e1''
        obtain ⟨i', q1, q2, q3, q4⟩ := ok.out _ z e1'
        have e3' : σ[i']? = some (some u) := by
          unfold inner at e2
          rw [List.getElem?_map, q1] at e2
          have e4 : (σ[i']?).join = some u := Option.some.inj e2
          cases q : σ[i']? with
          | none => rw [q] at e4; cases e4
          | some o => rw [q] at e4; cases o with
            | none => cases e4
            | some o => cases e4; rfl
        obtain ⟨m, hn, hl⟩ := I2.loc
        obtain ⟨val, r, l⟩ := hl i' z u q2 e3' (.inr (.inl q3))
        refine ⟨val, r, .inr ⟨.inl q4, ?_⟩⟩
        obtain ⟨c', hc'⟩ := ok.has z (.inl q4)
        rcases l with ⟨k1, _⟩ | ⟨_, c, hcc, hcell⟩
        · have k1' : X.env.scope.names.lookup z = some .local := k1
          rw [q3] at k1'; cases k1'
        · rw [ok.sub z c' hc'] at hcc
          cases hcc
          obtain ⟨ob, ho, hd⟩ := hcell
          exact ⟨c', hc', ob, old _ _ ho, hd⟩
    · obtain ⟨v', ob, ho, hd⟩ := I2.cell z c (ok.sub z c e)
      exact ⟨v', ob, old _ _ ho, hd⟩
    · show upd H2 s2.heap.objs.size (.lst []) G.objs.size = none
      rw [upd_ne (by rw [hC]; exact Nat.ne_of_gt (Nat.lt_succ_self _))]
      exact I2.hok.fresh (by rw [hC]; exact Nat.le_succ _)
    · rw [upd_ne (Nat.ne_of_lt (clc z c e))]
      exact I2.freeC z c (ok.sub z c e)
    · show (List.replicate xs.length none ++ inner σ fr).length = (xs ++ ns).length
      unfold inner
      rw [List.length_append, List.length_append, List.length_map, ok.len, List.length_replicate]
  obtain ⟨W, ⟨m0, w0⟩, turns⟩ := rd _ lfree
  have loop : codeAny (model X.prog X.w) X.A (.compLoop (.ListComp elt [⟨tg, iter, ifs, 0⟩] scope pos) 0 (.ref it) (.ref s2.heap.objs.size) (compEnvC scope cl G.objs.size X.env))
      (compPost (model X.prog X.w) X.A X.xe use Qv (.ref s2.heap.objs.size) G.objs.size) { s2 with heap := h₁, toks := s2.toks + ([] : List (Str × Value)).length } := by
    refine comp_loop2 (fun n s' => ∃ k Hk σk, Inv (cxComp X scope cl (xs ++ ns) G.objs.size s2 H2 fp) [] σk Hk s' ∧ (∃ os : St, os.length = xs.length ∧ σk = os ++ inner σ fr) ∧ tn k s'.heap ∧ (∀ b ∈ fp, Hk b = none) ∧ W k n Hk) ?_ m0
      ⟨0, _, _, I4, ⟨_, List.length_replicate, rfl⟩, T.keep _ _ _ st2 fun b _ o e => old b o e, fun b hb => by rw [upd_ne (below b (fplt b hb)).2]; exact (f2 b hb).1, w0⟩
    rintro n s3 ⟨k, Hk, σk, I3, ⟨os, hol, hσ⟩, st3, fr3, w3⟩
    subst hσ
    rcases turns k n Hk w3 with ⟨stop, qn⟩ | ⟨go, step⟩
    · refine thn (T.done (cxComp X scope cl (xs ++ ns) G.objs.size s2 H2 fp) rfl rfl rfl rfl k [] s3 _ Hk _ I3 (fpC fr3) st3 stop) fun r s4 zz => ?_
      obtain ⟨hr, I5⟩ := zz
      subst hr
      have J5 : Inv X pins σ Hk s4 := I2.call' I5.os I5.base I5.hok I5.bare fun b hb => ⟨(f2 b hb).2.2.2.1, (f2 b hb).2.1, (f2 b hb).2.2.2.2.1, (f2 b hb).2.2.2.2.2⟩
      obtain ⟨mC, hnC, _⟩ := I5.loc
      have neL : G.objs.size ≠ X.env.locals := Nat.ne_of_gt (Nat.lt_trans I2.lt (by rw [hC]; exact Nat.lt_succ_self _))
      have neCell : ∀ z c, X.env.cells.lookup z = some c → c ≠ G.objs.size := fun z c e q => by
        obtain ⟨v', hcell⟩ := I2.cell z c e
        have := hcell.lt
        rw [q, hC] at this
        exact absurd this (Nat.not_lt.mpr (Nat.le_succ _))
      exact fin G.objs.size s2.heap.objs.size mC s4 Hk J5 hnC I5.free neL neCell (Nat.le_trans I2.sz (by rw [hC]; exact Nat.le_succ _)) (fun p hp q => by
        have := Heap.lt_size (I2.pin p hp).1
        rw [q, hC] at this
        exact absurd this (Nat.not_lt.mpr (Nat.le_succ _))) qn
    · refine thn (T.item (cxComp X scope cl (xs ++ ns) G.objs.size s2 H2 fp) rfl rfl rfl rfl k [] s3 _ Hk _ I3 (fpC fr3) st3 go) fun r s4 zz => ?_
      obtain ⟨u, hr, h4⟩ := zz
      subst hr
      refine thn h4 fun _ s5 zz => ?_
      obtain ⟨val, H5, I5, r5, y5, st5, fr5⟩ := zz
      have I5' := I5.pinned (fpC fr5) (T.obj _ _ st5)
      refine wpAny_mono (hg _ _ _ _ _ s5 _ H5 val u _ I5' r5 (step val H5 y5 os hol)) (fun _ s6 zz => ?_) fun _ _ z => z.elim
      obtain ⟨σ6, H6, I6, ⟨os6, hol6, hσ6⟩, q6⟩ := zz
      subst hσ6
      have back : ∀ {H8 : Hp} {s8 : Shared} {m' : Nat}, Inv (cxComp X scope cl (xs ++ ns) G.objs.size s2 H2 fp) ([] ++ pinsAt fp s5.heap) (os6 ++ inner σ fr) H8 s8 → m' < n → W (k + 1) m' H8 →
          ∃ m, m < n ∧ ∃ k Hk σk, Inv (cxComp X scope cl (xs ++ ns) G.objs.size s2 H2 fp) [] σk Hk s8 ∧ (∃ os : St, os.length = xs.length ∧ σk = os ++ inner σ fr) ∧ tn k s8.heap ∧ (∀ b ∈ fp, Hk b = none) ∧ W k m Hk := fun {H8 s8 m'} I8 hm w8 => by
        refine ⟨m', hm, k + 1, _, _, I8.unpinned, ⟨os6, hol6, rfl⟩, T.keep _ _ _ st5 fun b hb o e => (I8.pin (b, o) (List.mem_append_right _ (List.mem_append_right _ (mem_pinsAt hb e)))).1, fun b hb => ?_, w8⟩
        obtain ⟨ob, e, d⟩ := T.obj _ _ st5 b hb
        exact (I8.pin (b, ob) (List.mem_append_right _ (List.mem_append_right _ (mem_pinsAt hb e)))).2.1
      refine wpAny_mono (hf _ _ _ _ _ s6 _ H6 _ I6 q6) (fun b s6' zz => ?_) fun _ _ z => z.elim
      obtain ⟨H6', I6', q6'⟩ := zz
      cases b with
      | false =>
        rw [if_neg (by decide)] at q6' ⊢
        obtain ⟨m', hm, w7⟩ := q6'
        exact back I6' hm w7
      | true =>
        rw [if_pos rfl] at q6' ⊢
        refine wpAny_mono (he _ _ _ _ _ s6' _ H6' _ I6' q6') (fun yv s7 zz => ?_) fun _ _ z => z.elim
        obtain ⟨yy, H7, I7, r7, zs, m', hz, hl, hm, w7⟩ := zz
        refine wpAny_mono (mt_append (X := cxComp X scope cl (xs ++ ns) G.objs.size s2 H2 fp) _ s7 _ H7 (.ref s2.heap.objs.size) [yy] (.ref s2.heap.objs.size) [yv] (fun _ H8 => H8 = upd H7 s2.heap.objs.size (.lst (zs ++ [yy]))) I7 rfl (.cons r7 .nil) ⟨_, zs, yy, rfl, rfl, hz, hl, rfl⟩) (fun _ s8 zz => ?_) fun _ _ z => z.elim
        obtain ⟨_, H8, I8, _, e8⟩ := zz
        subst e8
        exact back I8 hm w7
  exact codeAny_compStart_list loop (T.self _ 0 _ _ _ (T.keep _ _ _ st2 fun b _ o e => old b o e) loop)
theorem pe_comp {X : Cx} {tg iter elt : Expr} {ifs : List Expr} {scope : Scope} {pos : Pos} {cl : List (Str × Addr)} {xs ns : List Str} {fr : List Nat} {wi : TI} {g : TG} {tt : TT} {te : TE}
    (hc : X.calm = true) (ok : CompOk2 X scope cl xs ns fr) (hI : PI X tg iter wi) (hg : ∀ C s₂ H2 fp, PG (cxComp X scope cl (xs ++ ns) C s₂ H2 fp) tg g) (hf : ∀ C s₂ H2 fp, PF (cxComp X scope cl (xs ++ ns) C s₂ H2 fp) ifs tt)
    (he : ∀ C s₂ H2 fp, PE (cxComp X scope cl (xs ++ ns) C s₂ H2 fp) elt te) (hs : ∀ x, foldedSetIterable iter X.env x = pure x := by intro _; rfl) :
    PE X (.ListComp elt [⟨tg, iter, ifs, 0⟩] scope pos) (tCompE wi xs.length fr g tt te) := by
  intro pins s σ H Q I h
  rw [eval_ListComp]
  refine comp_all (use := none) hc ok hI hg hf he hs I h fun C l m s4 Hk J5 hn hC neL neCell sz hp q => ?_
  exact ⟨m, hn, fun h' sb => ⟨.ref l, Hk, J5.turned (t' := s4.toks) (it := C) (fun b o hb e => sb.extBut b o hb e) hC neL (.inr sz) neCell hp, rfl, q⟩⟩
end L2


set_option Elab.async false
set_option linter.all false
set_option maxRecDepth 100000
/-! sum, all, max of lists; bit_length -/
namespace L2
open PySem PySem.Spec PyProof.Rows
section
variable {X : Cx}
theorem vals_at : ∀ {xs : List V} {us : List Value} {i : Nat} {u : Value}, Vals xs us → us[i]? = some u → ∃ x, xs[i]? = some x ∧ RelV x u
  | [], _, _, _, .nil, e => by simp at e
  | x :: xs, _, 0, u, .cons r rr, e => ⟨x, rfl, by cases e; exact r⟩
  | x :: xs, _, i + 1, u, .cons r rr, e => by
    obtain ⟨y, hy, ry⟩ := vals_at (xs := xs) (i := i) rr (by simpa using e)
    exact ⟨y, by simpa using hy, ry⟩
theorem preSum_take (ns : List Int) : ∀ k, k ≤ ns.length → preSum (fun i => ns.getD i 0) k = (ns.take k).sum
  | 0, _ => rfl
  | k + 1, h => by
    have ih := preSum_take ns k (by omega)
    have hk : k < ns.length := by omega
    show preSum (fun i => ns.getD i 0) k + ns.getD k 0 = _
    rw [ih, List.take_succ, List.getElem?_eq_getElem hk, List.sum_append, List.getD_eq_getElem?_getD, List.getElem?_eq_getElem hk]
    show (ns.take k).sum + ns[k] = (ns.take k).sum + (ns[k] + 0)
    rw [Int.add_zero]
theorem ints_at {ns : List Int} {its : List Value} {i : Nat} {v : Value} (r : Vals (ns.map V.int) its) (e : its.toArray[i]? = some v) : ∃ t, v = .int (ns.getD i 0) t := by
  have e' : its[i]? = some v := by simpa using e
  obtain ⟨x, hx, rx⟩ := vals_at r e'
  rw [List.getElem?_map] at hx
  obtain ⟨n, hn, rfl⟩ := Option.map_eq_some_iff.mp hx
  obtain ⟨t, rfl⟩ := rx
  refine ⟨t, ?_⟩
  rw [List.getD_eq_getElem?_getD, hn]; rfl
theorem call_sumL (hc : X.calm = true) : CallR X (.builtin "sum") (fun xs H Q => ∃ (p : Addr) (ns : List Int), xs = [.ref p] ∧ SqL X.K H p (ns.map V.int) ∧ Q (.int ns.sum) H) := by
  intro pins s σ H xs us Q I r h
  obtain ⟨p, ns, rfl, hq, q⟩ := h
  obtain ⟨u, rfl, rx⟩ := vals1 r
  cases rx
  obtain ⟨its, r', pl, hz⟩ := I.list hq
  have hl := r'.length
  rw [List.length_map] at hl
  have hlt : p < s.heap.objs.size := by obtain ⟨_, e, _⟩ := pl.isList; exact Heap.lt_size e
  refine call_sum_walkG (wpAny_pyIter_list pl.isList ?_)
  refine ⟨_, _, _, _, _, _, fun i => ns.getD i 0, rfl, Walks.list (A := X.A.in1) (I.ok.hd hc) _ p (Nat.ne_of_lt hlt) its.toArray, ⟨⟨_, Heap.get?_push_size _ rfl, rfl, rfl⟩, pl.isList.push _⟩, ?_, fun i v e => ints_at r' e, fun h' tk t' hk => ?_⟩
  · intro b hb
    show b < (s.heap.push _).objs.size
    rw [Heap.size_push]
    rcases List.mem_cons.mp hb with rfl | hb
    · exact Nat.lt_succ_self _
    · rw [List.mem_singleton.mp hb]; exact Nat.lt_succ_of_lt hlt
  · refine ⟨.int ns.sum, H, I.kept (old_kept hk), ⟨t', ?_⟩, q⟩
    rw [List.size_toArray, ← hl, preSum_take ns _ (Nat.le_refl _), List.take_length]
/-- the greatest of some numbers -/
noncomputable def IsMax (ns : List Int) (m : Int) : Prop := m ∈ ns ∧ ∀ x ∈ ns, x ≤ m
theorem argBest_le (bt : Nat → Nat → Bool) : ∀ k, argBest bt k ≤ k
  | 0 => Nat.le_refl _
  | k + 1 => by
    unfold argBest
    split
    · exact Nat.le_refl _
    · exact Nat.le_succ_of_le (argBest_le bt k)
theorem argBest_max (val : Nat → Int) : ∀ k j, j ≤ k → val j ≤ val (argBest (fun i j => decide (val i > val j)) k)
  | 0, j, h => by
    have : j = 0 := by omega
    subst this; exact Int.le_refl _
  | k + 1, j, h => by
    have ih := argBest_max val k
    unfold argBest
    by_cases hj : j = k + 1
    · subst hj
      split
      · exact Int.le_refl _
      · rename_i hb
        have hb' : ¬ val (k + 1) > val (argBest (fun i j => decide (val i > val j)) k) := by simpa using hb
        omega
    · have hjk := ih j (by omega)
      split
      · rename_i hb
        have hb' : val (k + 1) > val (argBest (fun i j => decide (val i > val j)) k) := by simpa using hb
        omega
      · exact hjk
theorem best_isMax {ns : List Int} (h : 0 < ns.length) : IsMax ns (ns.getD (argBest (fun i j => decide (ns.getD i 0 > ns.getD j 0)) (ns.length - 1)) 0) := by
  have hle := argBest_le (fun i j => decide (ns.getD i 0 > ns.getD j 0)) (ns.length - 1)
  have hlt : argBest (fun i j => decide (ns.getD i 0 > ns.getD j 0)) (ns.length - 1) < ns.length := by omega
  refine ⟨?_, fun x hx => ?_⟩
  · rw [List.getD_eq_getElem?_getD, List.getElem?_eq_getElem hlt]
    exact List.getElem_mem hlt
  · obtain ⟨i, hi, rfl⟩ := List.mem_iff_getElem.mp hx
    have := argBest_max (fun i => ns.getD i 0) (ns.length - 1) i (by omega)
    have e : ns.getD i 0 = ns[i] := by rw [List.getD_eq_getElem?_getD, List.getElem?_eq_getElem hi]; rfl
    rw [e] at this
    exact this
theorem call_maxL (hc : X.calm = true) : CallR X (.builtin "max") (fun xs H Q => ∃ (p : Addr) (ns : List Int), xs = [.ref p] ∧ SqL X.K H p (ns.map V.int) ∧ 0 < ns.length ∧ ∀ m, IsMax ns m → Q (.int m) H) := by
  intro pins s σ H xs us Q I r h
  obtain ⟨p, ns, rfl, hq, h0, q⟩ := h
  obtain ⟨u, rfl, rx⟩ := vals1 r
  cases rx
  obtain ⟨its, r', pl, hz⟩ := I.list hq
  have hl := r'.length
  rw [List.length_map] at hl
  have hlt : p < s.heap.objs.size := by obtain ⟨_, e, _⟩ := pl.isList; exact Heap.lt_size e
  refine call_max_walk (wpAny_pyIter_list pl.isList ?_)
  refine ⟨_, _, _, _, _, _, _, rfl, Walks.list (A := X.A.in1) (I.ok.hd hc) _ p (Nat.ne_of_lt hlt) its.toArray, ⟨⟨_, Heap.get?_push_size _ rfl, rfl, rfl⟩, pl.isList.push _⟩, ?_, ?_, CmpOf.ints_gt (fun i => ns.getD i 0) (fun i v e => ints_at r' e), fun v h' tk hv hk => ?_⟩
  · intro b hb
    show b < (s.heap.push _).objs.size
    rw [Heap.size_push]
    rcases List.mem_cons.mp hb with rfl | hb
    · exact Nat.lt_succ_self _
    · rw [List.mem_singleton.mp hb]; exact Nat.lt_succ_of_lt hlt
  · rw [List.size_toArray, ← hl]; exact h0
  · obtain ⟨t, rfl⟩ := ints_at r' hv
    refine ⟨.int _, H, I.kept (old_kept hk), ⟨t, rfl⟩, q _ ?_⟩
    rw [List.size_toArray, ← hl]
    exact best_isMax h0
theorem mt_bits : MtR X "int.bit_length" (fun x xs H Q => ∃ i, x = .int i ∧ xs = [] ∧ Q (.int (Builtin.Int.intBits i)) H) := by
  intro pins s σ H x xs v us Q I rx r h
  obtain ⟨i, rfl, rfl, q⟩ := h
  obtain ⟨t, rfl⟩ := rx
  cases r
  exact call_int_bit_length ⟨.int (Builtin.Int.intBits i), H, I.tok _, ⟨_, rfl⟩, q⟩
noncomputable def tBits (to : TE) : TE := fun σ H Q => to σ H fun x H1 => ∃ i, x = .int i ∧ Q (.int (Builtin.Int.intBits i)) H1
theorem pe_bits {o : Expr} {to : TE} {apos cpos : Pos} (ho : PE X o to) (hbase : attributeBase o "bit_length" X.env (eval o X.env) = eval o X.env := by rfl) (hline : (apos.endLine == cpos.line) = true := by rfl) :
    PE X (.Call (.Attribute o "bit_length" apos) [] [] cpos) (tBits to) := by
  intro pins s σ H Q I h
  refine wpAny_Call_method0_late hbase hline (thn (ho pins s σ H _ I h) fun v s1 zz => ?_)
  obtain ⟨x, H1, I1, r1, i, e, q1⟩ := zz
  subst e
  obtain ⟨h1, h2⟩ := tyV_is I1 r1 (show tyV X.K "int" (.int i) H1 from rfl)
  exact ⟨"int", "int.bit_length", PySem.F.plainAttrs_int, PySem.F.slot_int_bit_length, PySem.F.type_int_bit_length, h1, h2, Calls.callWith_builtin rfl (PySem.evalArgs_none (mt_bits pins s1 σ H1 (.int i) [] v [] Q I1 r1 .nil ⟨i, rfl, rfl, q1⟩))⟩
end
/-! ### shut -/
structure QC (X : Cx) (ifs : List Expr) (t : TT) : Prop where h : PF X ifs t
structure QGs (X : Cx) (ts : List Expr) (t : TGs) : Prop where h : PGs X ts t
namespace R
section
variable {X : Cx} {e o : Expr} {te to : TE} {pos : Pos}
theorem pf_nil : QC X [] fNil := ⟨L2.pf_nil⟩
theorem pf_one {c : Expr} {t : TT} (h : QT X c t) : QC X [c] t := ⟨L2.pf_one h.h⟩
theorem pe_bits {apos cpos : Pos} (ho : QE X o to) (hbase : attributeBase o "bit_length" X.env (eval o X.env) = eval o X.env := by rfl) (hline : (apos.endLine == cpos.line) = true := by rfl) :
    QE X (.Call (.Attribute o "bit_length" apos) [] [] cpos) (tBits to) := ⟨L2.pe_bits ho.h hbase hline⟩
theorem ixL (K : PySem.W.Frag) (h : X.K = K := by rfl) : IxR X (rIxL K) := by subst h; exact ix_list
theorem pgs_nil : QGs X [] gNil := ⟨L2.pgs_nil⟩
theorem pgs_cons {es : List Expr} {t : TG} {u : TGs} (h1 : QG X e t) (h2 : QGs X es u) (hs : (assignEach (e :: es) X.env).map (·.2) = assign e X.env :: (assignEach es X.env).map (·.2) := by rfl) : QGs X (e :: es) (gCons t u) := ⟨L2.pgs_cons h1.h h2.h hs⟩
theorem pg_tup {es : List Expr} {k : Nat} {t : TGs} (K : PySem.W.Frag) (n : Nat) (hc : X.calm = true) (h : QGs X es t) (hK : X.K = K := by rfl) (hn : (assignEach es X.env).length = n := by rfl) (hst : (assignEach es X.env).findIdx? (·.1) = none := by rfl) : QG X (.Tuple es k pos) (gTup K n t) := by
  subst hK; exact ⟨L2.pg_tup hc h.h hn hst⟩
theorem pg_setL {i : Expr} {ti : TE} (ho : QE X o to) (hi : QE X i ti)
    (ha : ∀ v, assign (.Subscript o i pos) X.env v = (do
      let ov ← holding [v] (eval o X.env)
      let iv ← holding [v, ov] (eval i X.env)
      standAt pos
      holding [v, ov, iv] (setItem ov iv v)
      release [v, ov, iv] []) := by intro _; rfl) : QG X (.Subscript o i pos) (gSub to ti rSetL) := ⟨L2.pg_sub ho.h hi.h set_list ha⟩
theorem ps_asg {tg : Expr} {g : TG} (he : QE X e te) (hg : QG X tg g) (hs : swapsWithSole [tg] e pos.line X.env = pure false := by rfl) (hw : swappedStores [tg] e X.env = pure none := by rfl)
    (h1 : (assignEach [tg] X.env).map (·.2) = [assign tg X.env] := by rfl) : QS X (.Assign [tg] e pos) (tAsg te g) := ⟨L2.ps_asg he.h hg.h hs hw h1⟩
/-- sc, N: the def's scope and names; xs: the target's names; ns: those that are taken from around, at fr there -/
theorem pe_comp {tg iter elt : Expr} {ifs : List Expr} {scope : Scope} {wi : TI} {g : TG} {tt : TT} (sc : Scope) (N xs ns : List Str) (fr : List Nat) 
    (hc : X.calm = true) (hsc : X.env.scope = sc) (hN : X.N = N) (hcl : ∃ n, X.env.cells = cellsFrom n X.env.scope.names []) (hk : X.env.scope.kind = .function) (kind : scope.kind = .function) (hB : compB sc.names scope.names N ns fr = true)
    (hI : QI X tg iter wi) (hg : ∀ C s₂ H2 fp, QG (cxComp X scope (clOf X.env.cells scope.names []) (xs ++ ns) C s₂ H2 fp) tg g) (hf : ∀ C s₂ H2 fp, QC (cxComp X scope (clOf X.env.cells scope.names []) (xs ++ ns) C s₂ H2 fp) ifs tt)
    (he : ∀ C s₂ H2 fp, QE (cxComp X scope (clOf X.env.cells scope.names []) (xs ++ ns) C s₂ H2 fp) elt te) (hs : ∀ x, foldedSetIterable iter X.env x = pure x := by intro _; rfl) :
    QE X (.ListComp elt [⟨tg, iter, ifs, 0⟩] scope pos) (tCompE wi xs.length fr g tt te) :=
  ⟨L2.pe_comp hc (CompOk2.of hsc hN hcl hk kind hB) hI.h (fun C s H f => (hg C s H f).h) (fun C s H f => (hf C s H f).h) (fun C s H f => (he C s H f).h) hs⟩
end
end R
/-! ### the forms of a comprehension that one uses: one name, walked over a list that stays or over a range -/
section
variable {K : PySem.W.Frag} {fr : List Nat} {tt : TT} {te : TE} {σ : St} {Q : VK} {H1 : Hp} {l : Addr}
/-- one turn with the name bound to v -/
noncomputable def Turn1 (fr : List Nat) (tt : TT) (te : TE) (σ : St) (l : Addr) (v : V) (H : Hp) (N : Hp → Prop) : Prop :=
  ∀ (K1 : V → Hp → Prop) (K0 : Hp → Prop), (∀ y H4 zs, H4 l = some (.lst zs) → zs.length < sizeLine → N (upd H4 l (.lst (zs ++ [y]))) → K1 y H4) → (∀ H3, N H3 → K0 H3) →
    tt (some v :: inner σ fr) H fun b H3 => if b = true then te (some v :: inner σ fr) H3 K1 else K0 H3
theorem comp_by1 {J : It} (n : Nat) (Pv : Nat → Hp → Prop) (h0 : Pv 0 (upd H1 l (.lst []))) (hgo : ∀ k H, k < n → Pv k H → J.go k H) (hstop : ∀ H, Pv n H → J.stop n H)
    (hs : ∀ k H v H', k < n → Pv k H → J.yld k H v H' → Turn1 fr tt te σ l v H' (Pv (k + 1))) (hd : ∀ H, Pv n H → Q (.ref l) H) : CompGoal J 1 (gName 0) fr tt te σ Q H1 l := by
  refine ⟨fun k m H => m = n - k ∧ k ≤ n ∧ Pv k H, ⟨n, by simp, Nat.zero_le _, h0⟩, ?_⟩
  rintro k m H ⟨rfl, hk, p⟩
  by_cases hlt : k < n
  · refine .inr ⟨hgo k H hlt p, fun v H' hy os ho => ?_⟩
    obtain ⟨o, rfl⟩ := List.length_eq_one_iff.mp ho
    exact ⟨⟨[some v], rfl, rfl⟩, hs k H v H' hlt p hy _ _ (fun y H4 zs h1 h2 h3 => ⟨zs, n - (k + 1), h1, h2, by omega, rfl, hlt, h3⟩) fun H3 h3 => ⟨n - (k + 1), by omega, rfl, hlt, h3⟩⟩
  · have e : k = n := by omega
    subst e
    exact .inl ⟨hstop H p, hd H p⟩
theorem comp_rng1 {lo : Int} {n : Nat} (Pv : Nat → Hp → Prop) (h0 : Pv 0 (upd H1 l (.lst [])))
    (hs : ∀ k H, k < n → Pv k H → Turn1 fr tt te σ l (.int (lo + k)) H (Pv (k + 1))) (hd : ∀ H, Pv n H → Q (.ref l) H) : CompGoal (Itr lo n) 1 (gName 0) fr tt te σ Q H1 l :=
  comp_by1 n Pv h0 (fun _ _ h _ => h) (fun _ _ => Nat.le_refl _) (fun k H v H' hk p hy => by obtain ⟨rfl, rfl⟩ := hy; exact hs k _ hk p) hd
theorem comp_lst1 {a : Addr} {xs : List V} (Pv : Nat → Hp → Prop) (h0 : Pv 0 (upd H1 l (.lst []))) (hl : ∀ k H, k ≤ xs.length → Pv k H → SqL K H a xs)
    (hs : ∀ k x H, xs[k]? = some x → Pv k H → Turn1 fr tt te σ l x H (Pv (k + 1))) (hd : ∀ H, Pv xs.length H → Q (.ref l) H) : CompGoal (Itl K a) 1 (gName 0) fr tt te σ Q H1 l :=
  comp_by1 xs.length Pv h0 (fun k H h p => ⟨xs, xs[k], hl k H (Nat.le_of_lt h) p, by simp [h]⟩) (fun H p => ⟨xs, hl _ H (Nat.le_refl _) p, Nat.le_refl _⟩)
    (fun k H v H' hk p hy => by obtain ⟨rfl, y⟩ := hy; exact hs k v _ (y xs (hl k _ (Nat.le_of_lt hk) p)) p) hd
/-- two names, bound to the two parts of tuples -/
noncomputable def Turn2 (fr : List Nat) (tt : TT) (te : TE) (σ : St) (l : Addr) (v u : V) (H : Hp) (N : Hp → Prop) : Prop :=
  ∀ (K1 : V → Hp → Prop) (K0 : Hp → Prop), (∀ y H4 zs, H4 l = some (.lst zs) → zs.length < sizeLine → N (upd H4 l (.lst (zs ++ [y]))) → K1 y H4) → (∀ H3, N H3 → K0 H3) →
    tt (some v :: some u :: inner σ fr) H fun b H3 => if b = true then te (some v :: some u :: inner σ fr) H3 K1 else K0 H3
theorem comp_by2 {J : It} (n : Nat) (Pv : Nat → Hp → Prop) (h0 : Pv 0 (upd H1 l (.lst []))) (hgo : ∀ k H, k < n → Pv k H → J.go k H) (hstop : ∀ H, Pv n H → J.stop n H)
    (hs : ∀ k H v H', k < n → Pv k H → J.yld k H v H' → ∃ p x y, v = .ref p ∧ SqT K H' p [x, y] ∧ Turn2 fr tt te σ l x y H' (Pv (k + 1))) (hd : ∀ H, Pv n H → Q (.ref l) H) : CompGoal J 2 (gTup K 2 (gCons (gName 0) (gCons (gName 1) gNil))) fr tt te σ Q H1 l := by
  refine ⟨fun k m H => m = n - k ∧ k ≤ n ∧ Pv k H, ⟨n, by simp, Nat.zero_le _, h0⟩, ?_⟩
  rintro k m H ⟨rfl, hk, p⟩
  by_cases hlt : k < n
  · refine .inr ⟨hgo k H hlt p, fun v H' hy os ho => ?_⟩
    obtain ⟨o, o', rfl⟩ : ∃ a b, os = [a, b] := by
      cases os with
      | nil => cases ho
      | cons a t =>
        obtain ⟨b, rfl⟩ := List.length_eq_one_iff.mp (Nat.succ.inj ho)
        exact ⟨a, b, rfl⟩
    obtain ⟨p', x, y, rfl, hq, ht⟩ := hs k H v H' hlt p hy
    exact ⟨p', [x, y], rfl, hq, rfl, x, [y], rfl, y, [], rfl, rfl, ⟨[some x, some y], rfl, rfl⟩, ht _ _ (fun y H4 zs h1 h2 h3 => ⟨zs, n - (k + 1), h1, h2, by omega, rfl, hlt, h3⟩) fun H3 h3 => ⟨n - (k + 1), by omega, rfl, hlt, h3⟩⟩
  · have e : k = n := by omega
    subst e
    exact .inl ⟨hstop H p, hd H p⟩
end
end L2


set_option Elab.async false
set_option linter.all false
set_option maxRecDepth 100000
/-! bundles: whole numbers below 64, as Nat -/
namespace L2
open PySem PySem.Spec PyProof.Rows
theorem Same.upd {H H' : Hp} {l : Addr} (s : Same H H') (h : H l = none) (o : HO) : Same H (upd H' l o) := fun b u q => by rw [upd_ne (ne_of_none q h)]; exact s b u q
/-! ### bits -/
theorem and_nat (a b : Nat) : Builtin.bitAnd (a : Int) b = ((a &&& b : Nat) : Int) := by
  unfold Builtin.bitAnd
  rw [show decide ((0 : Int) ≤ (a : Int)) = true from by simp, show decide ((0 : Int) ≤ (b : Int)) = true from by simp]
  show (((a : Int).toNat &&& (b : Int).toNat : Nat) : Int) = _
  rw [Int.toNat_natCast, Int.toNat_natCast]
theorem or_nat (a b : Nat) : Builtin.bitOr (a : Int) b = ((a ||| b : Nat) : Int) := by
  unfold Builtin.bitOr Builtin.bitAnd
  have h1 : decide ((0 : Int) ≤ Builtin.bitNot (a : Int)) = false := by unfold Builtin.bitNot; simp; omega
  have h2 : decide ((0 : Int) ≤ Builtin.bitNot (b : Int)) = false := by unfold Builtin.bitNot; simp; omega
  rw [h1, h2]
  show Builtin.bitNot (Builtin.bitNot (((Builtin.bitNot (Builtin.bitNot (a : Int))).toNat ||| (Builtin.bitNot (Builtin.bitNot (b : Int))).toNat : Nat) : Int)) = _
  have e : ∀ x : Int, Builtin.bitNot (Builtin.bitNot x) = x := fun x => by unfold Builtin.bitNot; omega
  rw [e, e, e, Int.toNat_natCast, Int.toNat_natCast]
theorem shl_nat (k : Nat) : (1 : Int) * 2 ^ (k : Int).toNat = ((2 ^ k : Nat) : Int) := by
  rw [Int.toNat_natCast, Int.one_mul, Int.natCast_pow]; rfl
theorem bits_nat (b : Nat) : Builtin.Int.intBits (b : Int) = if b = 0 then 0 else b.log2 + 1 := by
  unfold Builtin.Int.intBits
  by_cases h : b = 0
  · subst h; rfl
  · rw [if_neg h, if_neg (by simpa using h), Int.natAbs_natCast]
theorem bits64 {b : Nat} (h : b < 64) : Builtin.Int.intBits (b : Int) ≤ 6 := by
  rw [bits_nat]
  split
  · omega
  · rename_i h0
    have := (Nat.log2_lt h0 (k := 6)).mpr h
    omega
/-- the things of a bundle -/
noncomputable def things (b : Nat) : List Nat := (List.range 6).filter b.testBit
theorem things_comp : ∀ b < 64, (List.range (if b = 0 then 0 else b.log2 + 1)).filter (fun k => decide (b &&& 2 ^ k = 2 ^ k)) = things b := by decide +kernel
theorem things_mem {b k : Nat} : k ∈ things b ↔ k < 6 ∧ b.testBit k = true := by
  unfold things
  rw [List.mem_filter, List.mem_range]
theorem things_len (b : Nat) : (things b).length ≤ 6 := by
  have := List.length_filter_le (b.testBit) (List.range 6)
  rw [List.length_range] at this
  exact this
theorem int_eq_nat {a b : Nat} : decide (V.int (a : Int) = V.int (b : Int)) = decide (a = b) := by
  by_cases h : a = b
  · subst h; simp
  · rw [decide_eq_false h, decide_eq_false]
    intro z
    exact h (Int.ofNat.inj (V.int.inj z))
/-! ### comprehensions whose turns only lay new things on the heap -/
section
variable {K : PySem.W.Frag} {fr : List Nat} {tt : TT} {te : TE} {σ : St} {Q : VK} {H1 : Hp} {l : Addr}
theorem comp_rng_map {lo : Int} {n : Nat} (p : Nat → Bool) (f : Nat → V) (hn : n ≤ 100) (hl : H1 l = none)
    (ht : ∀ k H, k < n → Same H1 H → ∀ C, (∀ H', Same H H' → C (p k) H') → tt (some (.int (lo + k)) :: inner σ fr) H C)
    (he : ∀ k H, k < n → p k = true → Same H1 H → ∀ C, (∀ H', Same H H' → C (f k) H') → te (some (.int (lo + k)) :: inner σ fr) H C)
    (hd : ∀ H, Same H1 H → H l = some (.lst (((List.range n).filter p).map f)) → Q (.ref l) H) : CompGoal (Itr lo n) 1 (gName 0) fr tt te σ Q H1 l := by
  refine comp_rng1 (fun k H => Same H1 H ∧ H l = some (.lst (((List.range k).filter p).map f))) ⟨same_new hl _, upd_same⟩ ?_ fun H ⟨s, e⟩ => hd H s e
  rintro k H hk ⟨s, e⟩ K1 K0 h1 h0
  refine ht k H hk s _ fun H' s' => ?_
  have e' : (List.range (k + 1)).filter p = (List.range k).filter p ++ (if p k = true then [k] else []) := by
    rw [List.range_succ, List.filter_append]
    cases hp : p k <;> simp [hp]
  cases hp : p k with
  | false =>
    rw [if_neg (by decide)]
    refine h0 _ ⟨s.trans s', ?_⟩
    rw [e', hp, if_neg (by decide), List.append_nil]
    exact s' _ _ e
  | true =>
    rw [if_pos rfl]
    refine he k H' hk hp (s.trans s') _ fun H'' s'' => ?_
    refine h1 _ _ _ (s'' _ _ (s' _ _ e)) ?_ ⟨((s.trans s').trans s'').upd hl _, ?_⟩
    · rw [List.length_map]
      have := List.length_filter_le p (List.range k)
      rw [List.length_range] at this
      exact small1000 (by omega)
    · rw [upd_same, e', hp, if_pos rfl, List.map_append]; rfl
theorem comp_lst_map {α : Type} {a : Addr} (emb : α → V) (xs : List α) (p : α → Bool) (f : α → V) (hS : SqL K H1 a (xs.map emb)) (hn : xs.length ≤ 100) (hl : H1 l = none)
    (ht : ∀ x ∈ xs, ∀ H, Same H1 H → ∀ C, (∀ H', Same H H' → C (p x) H') → tt (some (emb x) :: inner σ fr) H C)
    (he : ∀ x ∈ xs, p x = true → ∀ H, Same H1 H → ∀ C, (∀ H', Same H H' → C (f x) H') → te (some (emb x) :: inner σ fr) H C)
    (hd : ∀ H, Same H1 H → H l = some (.lst ((xs.filter p).map f)) → Q (.ref l) H) : CompGoal (Itl K a) 1 (gName 0) fr tt te σ Q H1 l := by
  refine comp_lst1 (xs := xs.map emb) (fun k H => Same H1 H ∧ H l = some (.lst (((xs.take k).filter p).map f))) ⟨same_new hl _, upd_same⟩ (fun k H _ ⟨s, _⟩ => s.seq hS) ?_ fun H ⟨s, e⟩ => hd H s (by rw [List.length_map, List.take_length] at e; exact e)
  rintro k v H hv ⟨s, e⟩ K1 K0 h1 h0
  rw [List.getElem?_map] at hv
  obtain ⟨x, hx, rfl⟩ := Option.map_eq_some_iff.mp hv
  have hm : x ∈ xs := List.mem_of_getElem? hx
  refine ht x hm H s _ fun H' s' => ?_
  have e' : (xs.take (k + 1)).filter p = (xs.take k).filter p ++ (if p x = true then [x] else []) := by
    rw [List.take_succ, hx, List.filter_append]
    cases hp : p x <;> simp [hp]
  cases hp : p x with
  | false =>
    rw [if_neg (by decide)]
    refine h0 _ ⟨s.trans s', ?_⟩
    rw [e', hp, if_neg (by decide), List.append_nil]
    exact s' _ _ e
  | true =>
    rw [if_pos rfl]
    refine he x hm hp H' (s.trans s') _ fun H'' s'' => ?_
    refine h1 _ _ _ (s'' _ _ (s' _ _ e)) ?_ ⟨((s.trans s').trans s'').upd hl _, ?_⟩
    · rw [List.length_map]
      have h1 := List.length_filter_le p (xs.take k)
      have h2 := List.length_take_le' k xs
      exact small1000 (by omega)
    · rw [upd_same, e', hp, if_pos rfl, List.map_append]; rfl
end
theorem at_nat {α : Type} {xs : List α} {k : Nat} {x : α} (h : xs[k]? = some x) : atI xs (k : Int) = some x := atI_nat h
end L2
namespace L2
open PySem PySem.Spec PyProof.Rows
/-! ### == and != of two lists of whole numbers -/
noncomputable def rEqI (K : PySem.W.Frag) (neg : Bool) : R2 := fun x y H Q => ∃ (a b : Addr) (ns ms : List Int), x = .ref a ∧ y = .ref b ∧ SqL K H a (ns.map V.int) ∧ SqL K H b (ms.map V.int) ∧ Q (.bl (if neg then !decide (ns = ms) else decide (ns = ms))) H
theorem ints_all {ns ms : List Int} (h : ns.length = ms.length) : ((List.range ns.length).all fun j => ns.getD j 0 == ms.getD j 0) = decide (ns = ms) := by
  rw [Bool.eq_iff_iff, List.all_eq_true, decide_eq_true_iff]
  constructor
  · intro q
    refine List.ext_getElem? fun i => ?_
    by_cases hi : i < ns.length
    · have := q i (List.mem_range.mpr hi)
      have e : ns.getD i 0 = ms.getD i 0 := by simpa using this
      rw [List.getD_eq_getElem?_getD, List.getD_eq_getElem?_getD, List.getElem?_eq_getElem hi, List.getElem?_eq_getElem (by rw [← h]; exact hi)] at e
      rw [List.getElem?_eq_getElem hi, List.getElem?_eq_getElem (by rw [← h]; exact hi)]
      exact congrArg some e
    · rw [List.getElem?_eq_none (by omega), List.getElem?_eq_none (by omega)]
  · intro e j _
    rw [e]; simp
theorem eqAt_ints {A : Around} {s : Shared} {ns ms : List Int} {us vs : List Value} (r1 : Vals (ns.map V.int) us) (r2 : Vals (ms.map V.int) vs) (j : Nat) (h1 : j < us.toArray.size) (h2 : j < vs.toArray.size) : SeqAt.EqAt A s us.toArray[j] vs.toArray[j] (ns.getD j 0 == ms.getD j 0) := by
  obtain ⟨t, e1⟩ := ints_at r1 (Array.getElem?_eq_getElem h1)
  obtain ⟨t', e2⟩ := ints_at r2 (Array.getElem?_eq_getElem h2)
  rw [e1, e2]
  exact SeqAt.EqAt.int_int _ _ _ _
theorem op_eqI {X : Cx} (hu : X.A.units < cLine) : OpR X (compareOp .Eq) (rEqI X.K false) := by
  intro pins s σ H x y v u Q I rx ry h
  obtain ⟨a, b, ns, ms, rfl, rfl, ha, hb, q⟩ := h
  cases rx; cases ry
  obtain ⟨its, r1, p1, _⟩ := I.list ha
  obtain ⟨its2, r2, p2, _⟩ := I.list hb
  have l1 := r1.length
  have l2 := r2.length
  rw [List.length_map] at l1 l2
  by_cases hl : ns.length = ms.length
  · refine SeqAt.eq_listAt p1.isList p2.isList (by rw [List.size_toArray, List.size_toArray]; omega) hu (fun j h1 h2 => eqAt_ints r1 r2 j h1 h2) ?_
    refine ⟨_, H, I, ?_, q⟩
    show Value.bool _ = Value.bool (decide (ns = ms))
    rw [List.size_toArray, ← l1, ints_all hl]
  · refine SeqAt.eq_list_lengthsAt p1.isList p2.isList (by rw [List.size_toArray, List.size_toArray]; simp; omega) hu ?_
    refine ⟨_, H, I, ?_, q⟩
    show Value.bool false = Value.bool (decide (ns = ms))
    rw [decide_eq_false fun e => hl (by rw [e])]
end L2
namespace L2
open PySem PySem.Spec PyProof.Rows
section
variable {X : Cx}
theorem op_andN : OpR X (binaryOp .BitAnd) (fun x y H Q => ∃ a b : Nat, x = .int a ∧ y = .int b ∧ Q (.int ((a &&& b : Nat) : Int)) H) := by
  intro pins s σ H x y v u Q I rx ry ⟨a, b, e1, e2, q⟩
  exact op_and pins s σ H x y v u Q I rx ry ⟨_, _, e1, e2, by show Q (.int (Builtin.bitAnd a b)) H; rw [and_nat]; exact q⟩
theorem op_orN : OpR X (binaryOp .BitOr) (fun x y H Q => ∃ a b : Nat, x = .int a ∧ y = .int b ∧ Q (.int ((a ||| b : Nat) : Int)) H) := by
  intro pins s σ H x y v u Q I rx ry ⟨a, b, e1, e2, q⟩
  exact op_or pins s σ H x y v u Q I rx ry ⟨_, _, e1, e2, by show Q (.int (Builtin.bitOr a b)) H; rw [or_nat]; exact q⟩
theorem op_shlN : OpR X (binaryOp .LShift) (fun x y H Q => ∃ k : Nat, x = .int 1 ∧ y = .int k ∧ k ≤ 1000 ∧ Q (.int ((2 ^ k : Nat) : Int)) H) := by
  intro pins s σ H x y v u Q I rx ry ⟨k, e1, e2, hk, q⟩
  exact op_shl pins s σ H x y v u Q I rx ry ⟨1, k, e1, e2, ⟨by omega, by omega, by decide⟩, by show Q (.int ((1 : Int) * 2 ^ (k : Int).toNat)) H; rw [shl_nat]; exact q⟩
end
end L2
namespace L2
open PySem PySem.Spec PyProof.Rows
/-- the answer by an equation -/
theorem opE {X : Cx} {f : Value → Value → Sem Value} {C : Int → Int → Prop} {g : Int → Int → V} (h : OpR X f (rI C g)) : OpR X f (fun x y H Q => ∃ i j r, x = .int i ∧ y = .int j ∧ C i j ∧ g i j = r ∧ Q r H) := by
  intro pins s σ H x y v u Q I rx ry ⟨i, j, r, e1, e2, hc, e3, q⟩
  subst e3
  exact h pins s σ H x y v u Q I rx ry ⟨i, j, e1, e2, hc, q⟩
theorem opE0 {X : Cx} {f : Value → Value → Sem Value} {g : Int → Int → V} (h : OpR X f (rI0 g)) : OpR X f (fun x y H Q => ∃ i j r, x = .int i ∧ y = .int j ∧ g i j = r ∧ Q r H) := by
  intro pins s σ H x y v u Q I rx ry ⟨i, j, r, e1, e2, e3, q⟩
  subst e3
  exact h pins s σ H x y v u Q I rx ry ⟨i, j, e1, e2, q⟩
end L2


set_option Elab.async false
set_option linter.all false
set_option maxRecDepth 100000
/-! for a, b in zip(xs, ys) -/
namespace L2
open PySem PySem.Spec PyProof.Rows
section
variable {X : Cx} {pins : List (Addr × Obj)} {σ : St} {H : Hp} {s : Shared} {h' : Heap}
theorem Inv.turnedL {t' : Nat} {ch : List Addr} (I : Inv X pins σ H s) (k : ∀ b o, b ∉ ch → s.heap.get? b = some o → h'.get? b = some o) (hf : ∀ b ∈ ch, FpOk X pins H b) : Inv X pins σ H { s with heap := h', toks := t' } := by
  have nit : ∀ b u, H b = some u → b ∉ ch := fun b u e z => by have := (hf b z).1; rw [e] at this; cases this
  refine I.step (g' := s.gens) (d' := s.drawn) (ch := ch) (fun b hb => ?_) (fun b o _ _ hc e _ => k b o hc e) (fun b o _ _ hc e _ => ⟨o.slots, k b o hc e⟩) (fun _ _ _ _ n => n)
    (fun b o hc e => ⟨o, k b o hc e⟩) (fun _ _ e => e) (fun _ _ _ e => e) (fun b ps e => ⟨#[], by rw [e]; simp⟩) (fun m hm => ?_) (fun b u e => ?_) I.bare
  · obtain ⟨f0, f1, f2, f3, f4, f5⟩ := hf b hb
    exact ⟨f3, f1, f4, f5⟩
  · obtain ⟨o, es, ep, ho, r⟩ := hm
    exact ⟨o, es, ep, k _ o (fun z => (hf _ z).2.1 rfl) ho, r⟩
  · refine (I.hok b u e).stay (fun c v hc q => k c v ?_ q) (fun _ q => q) fun _ _ q => q
    rcases hc with z | z
    · rw [z]; exact nit b u e
    · exact nit c _ z
end
noncomputable def Itz (K : PySem.W.Frag) (a b : Addr) : It :=
  ⟨fun i H => ∃ xs x ys y, SqL K H a xs ∧ xs[i]? = some x ∧ SqL K H b ys ∧ ys[i]? = some y,
   fun i H v H' => ∃ p x y, v = .ref p ∧ H p = none ∧ H' = upd H p (.tup [x, y]) ∧ (∀ xs, SqL K H a xs → xs[i]? = some x) ∧ (∀ ys, SqL K H b ys → ys[i]? = some y),
   fun i H => ∃ xs ys, SqL K H a xs ∧ SqL K H b ys ∧ (xs.length ≤ i ∨ ys.length ≤ i)⟩
theorem turn_zip {P : Program} {w : World} {K : PySem.W.Frag} {es : List Expr} {kk : Nat} {pos : Pos} (a b z TI TO i1 i2 : Addr) (D : ZipApart z TI TO i1 i2 a b) :
    Turn P w K (.Tuple es kk pos) (Itz K a b) [z, TI, TO, i1, i2] z (fun i h => IsZip h z TI TO .none ∧ IsPair h TI (.ref i1) (.ref i2) ∧ (∃ u v, IsPair h TO u v) ∧ h.IsListIter i1 a i ∧ h.IsListIter i2 b i) where
  mem := by simp
  obj := fun i h st c hc => by
    obtain ⟨hz, hTI, ⟨u, v, hTO⟩, ⟨o1, e1, c1, d1⟩, ⟨o2, e2, c2, d2⟩⟩ := st
    simp only [List.mem_cons, List.not_mem_nil, or_false] at hc
    rcases hc with rfl | rfl | rfl | rfl | rfl
    · exact ⟨_, hz, fun v x => by cases x⟩
    · exact ⟨_, hTI, fun v x => by cases x⟩
    · exact ⟨_, hTO, fun v x => by cases x⟩
    · exact ⟨_, e1, fun v x => by rw [d1] at x; cases x⟩
    · exact ⟨_, e2, fun v x => by rw [d2] at x; cases x⟩
  keep := fun i h h' st k => by
    obtain ⟨hz, hTI, ⟨u, v, hTO⟩, h1, h2⟩ := st
    exact ⟨k z (by simp) _ hz, k TI (by simp) _ hTI, ⟨u, v, k TO (by simp) _ hTO⟩, h1.at fun o e => k i1 (by simp) o e, h2.at fun o e => k i2 (by simp) o e⟩
  item := by
    intro X hP hw hK hc i pins s σ H E I hf st hg
    subst hP hw hK
    obtain ⟨hz, hTI, ⟨u, v, hTO⟩, h1, h2⟩ := st
    obtain ⟨xs, x, ys, y, hq1, hx, hq2, hy⟩ := hg
    obtain ⟨its, rv, p, hz1⟩ := I.list hq1
    obtain ⟨its2, rv2, p2, hz2⟩ := I.list hq2
    obtain ⟨ux, hux, rux⟩ := rv.get hx
    obtain ⟨uy, huy, ruy⟩ := rv2.get hy
    refine wpAny_pyNext_zip_item D hz hTI hTO h1 h2 p.isList p2.isList (x := ux) (y := uy) (by simpa using hux) (by simpa using huy) fun h' a1 a2 a3 a4 a5 a6 hk => ?_
    have lt : ∀ {c o}, s.heap.get? c = some o → c < s.heap.objs.size := fun e => Heap.lt_size e
    have ltz : ∀ c ∈ [z, TI, TO, i1, i2], c < s.heap.objs.size := by
      intro c hc
      simp only [List.mem_cons, List.not_mem_nil, or_false] at hc
      rcases hc with rfl | rfl | rfl | rfl | rfl
      · exact lt hz
      · exact lt hTI
      · exact lt hTO
      · obtain ⟨_, e, _⟩ := h1; exact lt e
      · obtain ⟨_, e, _⟩ := h2; exact lt e
    -- the tuple is laid, then the iterator's objects turn
    have I1 : Inv X pins σ (upd H s.heap.objs.size (.tup [x, y])) { s with heap := s.heap.push { cls := .type "tuple", data := .seq #[ux, uy] }, toks := s.toks } := by
      refine I.laid (fun c o e => Heap.get?_push_of_some _ e) (Nat.le_refl _) ⟨by show 2 ≤ sizeLine; decide, [ux, uy], .cons rux (.cons ruy .nil), ?_⟩
      exact ⟨_, Heap.get?_push_size _ rfl, rfl, _, rfl⟩
    have hfr : ∀ c ∈ [z, TI, TO, i1, i2], upd H s.heap.objs.size (.tup [x, y]) c = none := fun c hc => by
      rw [upd_ne (Nat.ne_of_lt (ltz c hc))]; exact (hf c hc).1
    have hf1 : ∀ c ∈ [z, TI, TO, i1, i2], FpOk X pins (upd H s.heap.objs.size (.tup [x, y])) c := fun c hc => ⟨hfr c hc, (hf c hc).2⟩
    have kk : ∀ c o, c ∉ [z, TI, TO, i1, i2] → (s.heap.push { cls := .type "tuple", data := .seq #[ux, uy] }).get? c = some o → h'.get? c = some o := fun c o hc e => by
      rcases Heap.get?_push_cases e with ⟨e9, e8⟩ | e'
      · subst e9 e8; exact a5
      · exact hk c o (fun x => hc (by simp [x])) (fun x => hc (by simp [x])) (fun x => hc (by simp [x])) (fun x => hc (by simp [x])) e'
    have I2 : Inv X pins σ (upd H s.heap.objs.size (.tup [x, y])) { s with heap := h' } := by
      have z := Inv.turnedL (t' := s.toks) I1 kk hf1
      exact z
    refine ⟨_, rfl, wpAny_letOwnedTupleGo_zip (s := { s with heap := h' }) a1 fun h'' hz'' hs'' => ?_⟩
    have I3 : Inv X pins σ (upd H s.heap.objs.size (.tup [x, y])) { s with heap := h'' } :=
      by
      have z := Inv.turnedL (h' := h'') (t' := s.toks) (ch := [z]) I2 (fun c o hc e => hs''.extBut c o (fun q => hc (by simp [q])) e) (fun c hc => hf1 c (by simp at hc; simp [hc]))
      exact z
    refine ⟨.ref s.heap.objs.size, _, I3, rfl, ⟨_, x, y, rfl, I.hok.fresh (Nat.le_refl _), rfl, fun zs hzs => by rw [I.list_inj hzs hq1]; exact hx, fun zs hzs => by rw [I.list_inj hzs hq2]; exact hy⟩, ?_, hfr⟩
    have hTI' : IsPair h' TI (.ref i1) (.ref i2) := hk _ _ D.TIz D.TITO D.TIi1 D.TIi2 hTI
    exact ⟨hz'', hs''.extBut _ _ D.TIz hTI', ⟨_, _, hs''.extBut _ _ D.TOz a2⟩, a3.extBut hs''.extBut D.i1z, a4.extBut hs''.extBut D.i2z⟩
  done := by
    intro X hP hw hK hc i pins s σ H E I hf st hg
    subst hP hw hK
    obtain ⟨hz, hTI, ⟨u, v, hTO⟩, h1, h2⟩ := st
    obtain ⟨xs, ys, hq1, hq2, hend⟩ := hg
    obtain ⟨its, rv, p, hz1⟩ := I.list hq1
    obtain ⟨its2, rv2, p2, hz2⟩ := I.list hq2
    have l1 := rv.length
    have l2 := rv2.length
    refine wpAny_pyNext_zip_end (I.ok.hd hc) D hz hTI hTO h1 h2 p.isList p2.isList ?_ fun h' hk => ⟨rfl, ?_⟩
    · rcases hend with q | q
      · exact .inl (by simp; omega)
      · exact .inr (by simp; omega)
    · exact I.turnedL (t' := s.toks) (ch := [z, TI, TO, i1, i2]) (fun c o hc e => hk c o (fun x => hc (by simp [x])) (fun x => hc (by simp [x])) (fun x => hc (by simp [x])) (fun x => hc (by simp [x])) e) hf
  self := fun _ _ _ _ _ st h => wpAny_pyIter_zip st.1 h
noncomputable def iZip (K : PySem.W.Frag) (ta : TA) : TI := fun σ H R => ta σ H fun vs H1 => ∃ a b, vs = [.ref a, .ref b] ∧ (∃ xs, SqL K H1 a xs) ∧ (∃ ys, SqL K H1 b ys) ∧ R (Itz K a b) H1
theorem pi_zip {X : Cx} {es : List Expr} {kk : Nat} {tp : Pos} {a b : Expr} {ta : TA} {p pos : Pos} (hg : Gl X "zip") (hm : X.mg "zip" = none) (ha : PA X [a, b] ta) (hs : noStar a = true) (hs2 : noStar b = true) :
    PI X (.Tuple es kk tp) (.Call (.Name "zip" p) [a, b] [] pos) (iZip X.K ta) := by
  intro pins s σ H R I h
  refine Call_ (ld_blt I hg hm boot_zip (PyProof.Rows.callWith_type1 (thn (ha pos pins s σ H _ I h) fun us s1 zz => ?_) (by rw [star_cons hs, star_cons hs2]) (by rw [star_cons hs2]; rfl)))
  obtain ⟨vs, H1, I1, r1, q1⟩ := zz
  obtain ⟨l1, l2, e, ⟨xs, hq1⟩, ⟨ys, hq2⟩, q⟩ := q1
  subst e
  obtain ⟨u, u', rfl, ru, ru'⟩ := vals2 r1
  cases ru; cases ru'
  obtain ⟨its, rv, p1, _⟩ := I1.list hq1
  obtain ⟨its2, rv2, p2, _⟩ := I1.list hq2
  have lt1 : l1 < s1.heap.objs.size := by obtain ⟨_, e, _⟩ := p1.isList; exact Heap.lt_size e
  have lt2 : l2 < s1.heap.objs.size := by obtain ⟨_, e, _⟩ := p2.isList; exact Heap.lt_size e
  refine call_zip_2 p1.isList p2.isList fun h' hz hTI hTO hi1 hi2 hsz hk => ?_
  refine wpAny_pyIter_zip hz ?_
  refine ⟨s1.heap.objs.size + 4, _, _, _, H1, rfl, I1.kept (t' := s1.toks) hk, turn_zip l1 l2 _ _ _ _ _ (zipApart_new lt1 lt2), ⟨hz, hTI, ⟨_, _, hTO⟩, hi1, hi2⟩, fun c hc => ?_, q⟩
  have hge : s1.heap.objs.size ≤ c := by
    simp only [List.mem_cons, List.not_mem_nil, or_false] at hc
    rcases hc with rfl | rfl | rfl | rfl | rfl
    · exact Nat.le_add_right _ _
    · exact Nat.le_add_right _ _
    · exact Nat.le_add_right _ _
    · exact Nat.le_refl _
    · exact Nat.le_add_right _ _
  exact I1.fpOk hge (I1.hok.fresh hge)
namespace R
theorem pi_zip {X : Cx} {es : List Expr} {kk : Nat} {tp : Pos} {a b : Expr} {ta : TA} {p pos : Pos} (hg : Gl X "zip") (hm : X.mg "zip" = none) (ha : QA X [a, b] ta) (hs : noStar a = true := by rfl) (hs2 : noStar b = true := by rfl) :
    QI X (.Tuple es kk tp) (.Call (.Name "zip" p) [a, b] [] pos) (iZip X.K ta) := ⟨L2.pi_zip hg hm ha.h hs hs2⟩
end R
/-! ### the forms one uses -/
theorem comp_zip2 {K : PySem.W.Frag} {fr : List Nat} {tt : TT} {te : TE} {σ : St} {Q : VK} {H1 : Hp} {l : Addr} {a b : Addr} {xs ys : List V} (hlen : xs.length = ys.length) (Pv : Nat → Hp → Prop) (h0 : Pv 0 (upd H1 l (.lst []))) (hl : ∀ k H, k ≤ xs.length → Pv k H → SqL K H a xs ∧ SqL K H b ys)
    (hs : ∀ k x y p H, xs[k]? = some x → ys[k]? = some y → Pv k H → H p = none → Turn2 fr tt te σ l x y (upd H p (.tup [x, y])) (Pv (k + 1))) (hd : ∀ H, Pv xs.length H → Q (.ref l) H) :
    CompGoal (Itz K a b) 2 (gTup K 2 (gCons (gName 0) (gCons (gName 1) gNil))) fr tt te σ Q H1 l :=
  comp_by2 xs.length Pv h0 (fun k H h p => ⟨xs, xs[k], ys, ys[k], (hl k H (Nat.le_of_lt h) p).1, by simp [h], (hl k H (Nat.le_of_lt h) p).2, by simp [hlen ▸ h]⟩) (fun H p => ⟨xs, ys, (hl _ H (Nat.le_refl _) p).1, (hl _ H (Nat.le_refl _) p).2, .inl (Nat.le_refl _)⟩)
    (fun k H v H' hk p hy => by
      obtain ⟨q, x, y, rfl, hn, rfl, h1, h2⟩ := hy
      exact ⟨q, x, y, rfl, SqT.of upd_same, hs k x y q H (h1 _ (hl k H (Nat.le_of_lt hk) p).1) (h2 _ (hl k H (Nat.le_of_lt hk) p).2) p hn⟩) hd
end L2


set_option Elab.async false
set_option linter.all false
set_option maxRecDepth 100000
/-! max(xs, default=d) -/
namespace L2
open PySem PySem.Spec PyProof.Rows
section
variable {prog : Program} {w : World} {A : Around} {R : Result → Shared → Prop} {I : Addr} {fp wr : List Addr} {n : Nat} {P : Nat → Value → Prop} {St' : Nat → Heap → Prop} {kw : List (Str × Value)}
theorem gv_mx (W : Walks prog w A.in1 I fp wr n P St') (bt : Nat → Nat → Bool) (cmp : CmpOf prog w A.in1 .Gt P bt) {S : Addr} (nf : S ∉ fp) :
    ∀ (k j : Nat) (s : Shared) (vb : Value) (c : Nat), (j + 1) + k = n → St' (j + 1) s.heap → P (argBest bt j) vb → s.heap.get? S = some { cls := .type "list", dict := none, data := .seq #[vb, vb] c, slots := #[] } →
      (∀ v h' tk, P (argBest bt (n - 1)) v → (∀ b o, b ∉ wr → b ≠ S → s.heap.get? b = some o → h'.get? b = some o) → R (.ok (.ret v)) { s with heap := h', toks := tk }) →
      codeAny (model prog w) A (.builtin "max.loop" ⟨[.ref I, .none, .ref S], kw⟩) R s := by
  have nw : S ∉ wr := fun z => nf (W.sub _ z)
  have nm : (toString "max" ++ toString ".loop" : String) = "max.loop" := by decide
  intro k
  induction k with
  | zero =>
    intro j s vb c e0 st pb hS hR
    have e1 : n = j + 1 := by omega
    subst e1
    refine codeAny_builtin F.entry_max_loop ?_; rw [Around.under_plainId F.plain_max_loop _]; show wpAny _ A.in1 (seqItems? (.ref S) >>= _) _ _ s; refine wpAny_bind (wpAny_seqItems hS rfl ?_); show wpAny _ A.in1 (tryCatch (pyNext (.ref I)) _ >>= _) _ _ s
    refine wpAny_bind (wpAny_tryCatch (W.done s _ _ st fun g tk keep => ?_))
    show wpAny _ A.in1 (updateSeq S (fun _ => #[]) >>= _) _ _ _
    refine wpAny_bind (wpAny_updateSeq (keep S _ nw hS) rfl (wpAny_bind (wpAny_letGo (wpAny_pure (hR vb _ tk pb fun b o q1 q2 e => ?_)))))
    exact (Heap.get?_update_other _ _ (Ne.symm q2)).trans (keep b o q1 e)
  | succ k ih =>
    intro j s vb c e0 st pb hS hR
    refine codeAny_builtin F.entry_max_loop ?_; rw [Around.under_plainId F.plain_max_loop _]; show wpAny _ A.in1 (seqItems? (.ref S) >>= _) _ _ s; refine wpAny_bind (wpAny_seqItems hS rfl ?_); show wpAny _ A.in1 (tryCatch (pyNext (.ref I)) _ >>= _) _ _ s
    refine wpAny_bind (wpAny_tryCatch (W.item (j + 1) s _ _ (by omega) st fun v g tk pv st2 keep => ?_))
    have hS2 := keep S _ nw hS
    show wpAny _ A.in1 (tryCatch (holding [v, v] (richCompare .Gt v vb >>= _)) _ >>= _) _ _ _
    refine wpAny_bind (wpAny_tryCatch (wpAny_holding (wpAny_bind (cmp (j + 1) (argBest bt j) v vb _ _ _ pv pb (wpAny_bind (wpAny_holding (wpAny_truthy_bool (wpAny_bind (wpAny_letGo (wpAny_pure ?_)))))))))) 
    have ea : argBest bt (j + 1) = if bt (j + 1) (argBest bt j) = true then j + 1 else argBest bt j := rfl
    by_cases hb : bt (j + 1) (argBest bt j) = true
    · rw [if_pos hb] at ea ⊢
      refine wpAny_bind (wpAny_updateSeq hS2 rfl (wpAny_bind (wpAny_letGo ?_)))
      rw [nm]
      refine wpAny_pure ⟨plainId_quiet F.plain_max_loop _, ih (j + 1) _ v _ (by omega) (W.frame _ _ _ st2 fun b q o e => ?_) (by rw [ea]; exact pv) (Heap.get?_update_self _ hS2 rfl) fun v' g' tk' pv' keep' => ?_⟩
      · exact (Heap.get?_update_other _ _ (fun z : S = b => nf (z ▸ q))).trans e
      · exact hR v' g' tk' pv' fun b o q1 q2 e => keep' b o q1 q2 ((Heap.get?_update_other _ _ (Ne.symm q2)).trans (keep b o q1 e))
    · rw [if_neg hb] at ea ⊢
      refine wpAny_bind (wpAny_letGo ?_)
      rw [nm]
      refine wpAny_pure ⟨plainId_quiet F.plain_max_loop _, ih (j + 1) _ vb c (by omega) st2 (by rw [ea]; exact pb) hS2 fun v' g' tk' pv' keep' => ?_⟩
      exact hR v' g' tk' pv' fun b o q1 q2 e => keep' b o q1 q2 (keep b o q1 e)
theorem gv_mx0 {d : Value} (W : Walks prog w A.in1 I fp wr n P St') (bt : Nat → Nat → Bool) (cmp : CmpOf prog w A.in1 .Gt P bt) {S : Addr} (nf : S ∉ fp) {s : Shared} {c : Nat} (st : St' 0 s.heap) (hS : s.heap.get? S = some { cls := .type "list", dict := none, data := .seq #[] c, slots := #[] })
    (hR : ∀ v h' tk, (n = 0 ∧ v = d ∨ 0 < n ∧ P (argBest bt (n - 1)) v) → (∀ b o, b ∉ wr → b ≠ S → s.heap.get? b = some o → h'.get? b = some o) → R (.ok (.ret v)) { s with heap := h', toks := tk }) :
    codeAny (model prog w) A (.builtin "max.loop" ⟨[.ref I, .none, .ref S], [(Str.ofString "default", d)]⟩) R s := by
  have nw : S ∉ wr := fun z => nf (W.sub _ z)
  have nm : (toString "max" ++ toString ".loop" : String) = "max.loop" := by decide
  refine codeAny_builtin F.entry_max_loop ?_; rw [Around.under_plainId F.plain_max_loop _]; show wpAny _ A.in1 (seqItems? (.ref S) >>= _) _ _ s; refine wpAny_bind (wpAny_seqItems hS rfl ?_); show wpAny _ A.in1 (tryCatch (pyNext (.ref I)) _ >>= _) _ _ s
  rcases Nat.eq_zero_or_pos n with e0 | e0
  · refine wpAny_bind (wpAny_tryCatch (W.done s _ _ (by rw [e0]; exact st) fun g tk keep => ?_))
    refine wpAny_bind (wpAny_rule (wpAny_pure ?_))
    exact hR d g tk (.inl ⟨e0, rfl⟩) fun b o q1 _ e => keep b o q1 e
  · refine wpAny_bind (wpAny_tryCatch (W.item 0 s _ _ e0 st fun v g tk pv st2 keep => ?_))
    have hS2 := keep S _ nw hS
    show wpAny _ A.in1 (updateSeq S (fun _ => #[v, v]) >>= _) _ _ _
    refine wpAny_bind (wpAny_updateSeq hS2 rfl ?_)
    rw [nm]
    refine wpAny_pure ⟨plainId_quiet F.plain_max_loop _, gv_mx W bt cmp nf (n - 1) 0 _ v _ (by omega) (W.frame _ _ _ st2 fun b q o e => ?_) pv (Heap.get?_update_self _ hS2 rfl) fun v' g' tk' pv' keep' => ?_⟩
    · exact (Heap.get?_update_other _ _ (fun z : S = b => nf (z ▸ q))).trans e
    · exact hR v' g' tk' (.inr ⟨e0, pv'⟩) fun b o q1 q2 e => keep' b o q1 q2 ((Heap.get?_update_other _ _ (Ne.symm q2)).trans (keep b o q1 e))
end
theorem gv_max_args (a v : Value) : argsOk "max" ⟨[a], [(Str.ofString "default", v)]⟩ := by unfold argsOk; kernel_rfl
section
variable {X : Cx}
theorem gv_maxD {pins : List (Addr × Obj)} {s : Shared} {σ : St} {H : Hp} {Q : VK} {p : Addr} {ns : List Int} {d : Int} {t : Tok} (hc : X.calm = true) (J : Inv X pins σ H s) (hq : SqL X.K H p (ns.map V.int)) (q0 : ns = [] → Q (.int d) H) (q1 : ∀ m, IsMax ns m → Q (.int m) H) :
    wpAny (model X.prog X.w) X.A (call (.builtin "max") [.ref p] [(Str.ofString "default", .int d t)]) (EP X pins σ Q) X.xe s := by
  obtain ⟨its, r', pl, hz⟩ := J.list hq
  have hl := r'.length
  rw [List.length_map] at hl
  have hlt : p < s.heap.objs.size := by obtain ⟨_, e, _⟩ := pl.isList; exact Heap.lt_size e
  have nm : (toString "max" ++ toString ".loop" : String) = "max.loop" := by decide
  refine kmk_tree PySem.F.kind_max PySem.F.plain_max PySem.F.entry_max (gv_max_args _ _) ?_
  show wpAny _ X.A.in1 (Builtin.Builtins.bindParams "max" ["key", "default"] 0 ⟨[], [(Str.ofString "default", .int d t)]⟩ >>= _) _ _ s
  refine wpAny_bind (wpAny_of_eq (show Builtin.Builtins.bindParams "max" ["key", "default"] 0 ⟨[], [(Str.ofString "default", .int d t)]⟩ = pure [none, some (.int d t)] from rfl) (wpAny_bind (wpAny_pure ?_)))
  refine wpAny_bind (wpAny_pyIter_list pl.isList (wpAny_bind (wpAny_newObj_type ?_)))
  rw [nm]
  have hI : p ≠ s.heap.objs.size := Nat.ne_of_lt hlt
  have hsz : (s.heap.push { cls := .type "list_iterator", data := .fields #[.ref p, .int 0 0] }).objs.size = s.heap.objs.size + 1 := Heap.size_push ..
  refine wpAny_pure ⟨plainId_quiet F.plain_max_loop _, gv_mx0 (Walks.list (A := X.A.in1) (J.ok.hd hc) s.heap.objs.size p hI its.toArray) _ (CmpOf.ints_gt (fun i => ns.getD i 0) (fun i v e => ints_at r' e)) ?_ ?_ (Heap.get?_push_size _ rfl) ?_⟩
  · intro z
    rw [hsz] at z
    rcases List.mem_cons.mp z with z | z
    · exact absurd z (Nat.ne_of_gt (Nat.lt_succ_self _))
    · have z' := List.mem_singleton.mp z
      exact absurd z'.symm (Nat.ne_of_lt (Nat.lt_succ_of_lt hlt))
  · exact ⟨⟨_, Heap.get?_push_of_some _ (Heap.get?_push_size _ rfl), rfl, rfl⟩, (pl.isList.push _).push _⟩
  · intro v g tk hv keep
    have J' : Inv X pins σ H { s with heap := g, toks := tk } := by
      refine J.kept fun b o e => keep b o (fun z => ?_) (fun z => ?_) (Heap.get?_push_of_some _ (Heap.get?_push_of_some _ e))
      · rw [List.mem_singleton.mp z] at e; exact absurd (Heap.lt_size e) (Nat.lt_irrefl _)
      · rw [z, hsz] at e; exact absurd (Nat.lt_of_succ_lt (Heap.lt_size e)) (Nat.lt_irrefl _)
    rcases hv with ⟨e0, rfl⟩ | ⟨e0, hv⟩
    · rw [List.size_toArray] at e0
      exact ⟨.int d, H, J', ⟨t, rfl⟩, q0 (List.length_eq_zero_iff.mp (by omega))⟩
    · obtain ⟨t', rfl⟩ := ints_at r' hv
      rw [List.size_toArray] at e0
      refine ⟨.int _, H, J', ⟨t', rfl⟩, q1 _ ?_⟩
      rw [List.size_toArray, ← hl]
      exact best_isMax (by omega)
noncomputable def tMaxD (K : PySem.W.Frag) (te td : TE) : TE := fun σ H Q => te σ H fun x H1 => td σ H1 fun y H2 => ∃ (p : Addr) (ns : List Int) (d : Int), x = .ref p ∧ y = .int d ∧ SqL K H2 p (ns.map V.int) ∧ (ns = [] → Q (.int d) H2) ∧ ∀ m, IsMax ns m → Q (.int m) H2
theorem pe_maxD {e d : Expr} {te td : TE} {p kpos pos : Pos} (hc : X.calm = true) (hg : Gl X "max") (hm : X.mg "max" = none) (ha : PE X e te) (hd : PE X d td) (hs : noStar e = true) :
    PE X (.Call (.Name "max" p) [e] [⟨some "default", d, kpos⟩] pos) (tMaxD X.K te td) := by
  intro pins s σ H Q I h
  refine wpAny_Call_Name_kw (ld_blt I hg hm boot_max ?_)
  refine callWith_kw (thn ((pa_c ha pa_nil hs) pos pins s σ H (fun vs H1 => match vs with
    | [x] => td σ H1 fun y H2 => ∃ (p : Addr) (ns : List Int) (d : Int), x = .ref p ∧ y = .int d ∧ SqL X.K H2 p (ns.map V.int) ∧ (ns = [] → Q (.int d) H2) ∧ ∀ m, IsMax ns m → Q (.int m) H2
    | _ => False) I h) fun us s1 zz => ?_) (by rw [star_cons hs]; rfl) (by rw [star_cons hs]; rfl) rfl rfl
  obtain ⟨vs, H1, I1, r1, q1⟩ := zz
  match vs, q1 with
  | [x], q1 =>
    obtain ⟨u, rfl, ru⟩ := vals1 r1
    refine kws_cons (thn (hd pins s1 σ H1 _ I1 q1) fun v s2 zz => kws_nil ?_)
    obtain ⟨y, H2, I2, r2, p2, ns, dd, e1, e2, hq, q0, qm⟩ := zz
    subst e1 e2
    cases ru
    obtain ⟨t, rfl⟩ := r2
    exact gv_maxD hc I2 hq q0 qm
end
namespace R
theorem pe_maxD {X : Cx} (K : PySem.W.Frag) {e d : Expr} {te td : TE} {p kpos pos : Pos} (hc : X.calm = true) (hg : Gl X "max") (hm : X.mg "max" = none) (ha : QE X e te) (hd : QE X d td) (hs : noStar e = true := by rfl) (hK : X.K = K := by rfl) :
    QE X (.Call (.Name "max" p) [e] [⟨some "default", d, kpos⟩] pos) (tMaxD K te td) := by subst hK; exact ⟨L2.pe_maxD hc hg hm ha.h hd.h hs⟩
end R
end L2


set_option Elab.async false
set_option linter.all false
set_option maxRecDepth 100000
/-! bundles within bundles; what offers tell -/
namespace L2
/-! ### parts -/
theorem sub_bits {b c : Nat} : b &&& c = c ↔ ∀ k, c.testBit k = true → b.testBit k = true := by
  constructor
  · intro h k hk
    have : (b &&& c).testBit k = true := by rw [h]; exact hk
    rw [Nat.testBit_and, Bool.and_eq_true] at this
    exact this.1
  · intro h
    refine Nat.eq_of_testBit_eq fun k => ?_
    rw [Nat.testBit_and]
    cases hc : c.testBit k with
    | false => rw [Bool.and_false]
    | true => rw [h k hc]; rfl
theorem sub_trans {a b c : Nat} (h1 : a &&& b = b) (h2 : b &&& c = c) : a &&& c = c := by
  rw [sub_bits] at *
  exact fun k hk => h1 k (h2 k hk)
/-! ### worths and offers -/
/-- the greatest number of a list, 0 of none -/
noncomputable def top (ns : List Int) : Int := ns.foldl max 0
theorem top_ge (ns : List Int) : ∀ a : Int, a ≤ ns.foldl max a ∧ ∀ x ∈ ns, x ≤ ns.foldl max a := by
  induction ns with
  | nil => intro a; exact ⟨Int.le_refl _, fun x h => by cases h⟩
  | cons y ns ih =>
    intro a
    obtain ⟨h1, h2⟩ := ih (max a y)
    refine ⟨Int.le_trans (Int.le_max_left a y) h1, fun x hx => ?_⟩
    rcases List.mem_cons.mp hx with e | hx
    · rw [e]; exact Int.le_trans (Int.le_max_right a y) h1
    · exact h2 x hx
theorem top_mem (ns : List Int) : ∀ a : Int, ns.foldl max a = a ∨ ns.foldl max a ∈ ns := by
  induction ns with
  | nil => intro a; exact .inl rfl
  | cons y ns ih =>
    intro a
    show ns.foldl max (max a y) = a ∨ ns.foldl max (max a y) ∈ y :: ns
    rcases ih (max a y) with h | h
    · rw [h]
      rcases Int.le_total a y with q | q
      · rw [Int.max_eq_right q]; exact .inr List.mem_cons_self
      · rw [Int.max_eq_left q]; exact .inl rfl
    · exact .inr (List.mem_cons_of_mem _ h)
theorem top_isMax {ns : List Int} {m : Int} (h0 : ∀ x ∈ ns, 0 ≤ x) (h : IsMax ns m) : m = top ns := by
  have h1 := (top_ge ns 0).2 m h.1
  rcases top_mem ns 0 with e | e
  · have := h0 m h.1
    unfold top; omega
  · have := h.2 _ e
    unfold top; omega
theorem top_nonneg (ns : List Int) : 0 ≤ top ns := (top_ge ns 0).1
end L2


set_option Elab.async false
set_option linter.all false
set_option maxRecDepth 100000
/-! a def with one default value, whatever it is -/
namespace L2
open PySem PySem.Spec PyProof.Rows
section
variable {P : Program} {w : World} {K : PySem.W.Frag} {mg : Str → Option Value} {base : Heap}
end
end L2


set_option Elab.async false
set_option linter.all false
set_option maxRecDepth 100000
/-! tuples of two whole numbers and lists of them: !=, ==; list.clear, pop(i), insert; a < b < c -/
namespace L2
open PySem PySem.Spec PyProof.Rows
section
variable {X : Cx}
end
/-! ### shut -/
namespace R
section
variable {X : Cx} {e e2 o a b c : Expr} {to ta tb tc : TE} {t : TA} {pos apos cpos : Pos}
theorem pe_chain {op op' : CmpOp} {r r' : R2} (h1 : OpR X (compareOp op) r) (h2 : OpR X (compareOp op') r') (ha : QE X a ta) (hb : QE X b tb) (hc : QE X c tc)
    (hm : lastMarks [op, op'] [b, c] = false := by with_unfolding_all rfl) : QE X (.Compare a [op, op'] [b, c] pos) (tChain r r' ta tb tc) := ⟨L2.pe_chain h1 h2 ha.h hb.h hc.h hm⟩
end
end R
end L2


set_option Elab.async false
set_option linter.all false
set_option maxRecDepth 100000
/-! own classes: making, fields, methods chosen by the object's class, isinstance -/
namespace L2
open PySem PySem.Spec PyProof.Rows
noncomputable def clsBody (s : Stmt) : List Stmt := match s with
  | .ClassDef _ _ _ b _ _ _ _ _ _ _ => b
  | _ => []
/-- what is known of an own class: its name in the module, the names that are no attributes of it -/
structure Own (K : PySem.W.Frag) (mg : Str → Option Value) (x : Str) (C : Addr) (nos : List Str) : Prop where
  at_ : mg x = some (.ref C)
  cls : Cls K C
  makes : PySem.W.makesIn K C = true
  kp : PySem.W.keepIn K (.ref C) = true
  no : ∀ f ∈ nos, NoAttr K C f
  t1 : PySem.W.findIn K (.ref C) "__class__" = some (some (.builtin "object.__class__"))
  t2 : PySem.W.specialIn K (.builtin "object.__class__") "__get__" = some (some (.builtin "getset_descriptor.__get__"))
  t3 : PySem.W.takesIn K (.builtin "object.__class__") = some true
  t4 : PySem.W.mroIn K C (.type "object") = some true
theorem Own.ty {K : PySem.W.Frag} {mg : Str → Option Value} {x : Str} {C a dx : Addr} {nos : List Str} {H : Hp} {fs : List (Str × V)} (O : Own K mg x C nos) (e : H a = some (.ins C dx fs)) : TyOf K H (.ref a) (.ref C) := .ins e O.cls O.t1 O.t2 O.t3 O.t4
structure MethD (P : Program) (w : World) (K : PySem.W.Frag) (mg : Str → Option Value) (base : Heap) (k : Nat) (C : Addr) (m : Str) (ps : List Str) (sp : Sp) : Prop where
  ex : ∃ (f : Addr) (fd : FuncData), FnOk P w K mg base CX0 k f fd ps sp ∧ Binds K fd ps [] ∧ Meth K C m f ∧ Cls K C
structure MakeD (P : Program) (w : World) (K : PySem.W.Frag) (mg : Str → Option Value) (base : Heap) (k : Nat) (x : Str) (C : Addr) (ps : List Str) (sp : Sp) : Prop where
  ex : ∃ (f : Addr) (fd : FuncData), FnOk P w K mg base CX0 k f fd ps sp ∧ Binds K fd ps [] ∧ Mk K C f ∧ mg x = some (.ref C)
structure Make0 (K : PySem.W.Frag) (mg : Str → Option Value) (x : Str) (C : Addr) : Prop where
  makes : PySem.W.makesIn K C = true
  init : PySem.W.findIn K (.ref C) "__init__" = some (some (.builtin "object.__init__"))
  kp : PySem.W.keepIn K (.ref C) = true
  at_ : mg x = some (.ref C)
section
variable {X : Cx}
theorem run_make0 {pins : List (Addr × Obj)} {σ : St} {H : Hp} {s : Shared} {Q : VK} {C : Addr} {x : Str} (M : Make0 X.K X.mg x C) (I : Inv X pins σ H s)
    (h : ∀ a dx, H a = none → H dx = none → dx ≠ a → Q (.ref a) (upd (upd H dx (.own a)) a (.ins C dx []))) : wpAny (model X.prog X.w) X.A (call (.ref C) []) (EP X pins σ Q) X.xe s := by
  have hq := h (s.heap.objs.size + 1) s.heap.objs.size (I.hok.fresh (Nat.le_succ _)) (I.hok.fresh (Nat.le_refl _)) (Nat.ne_of_lt (Nat.lt_succ_self _))
  have I2 := Inv.made (C := C) I
  have Y := PySem.W.makes_of (M := model X.prog X.w) I.kIn M.makes
  have up : ∀ b o, s.heap.get? b = some o → ((s.heap.push PySem.W.emptyDict).push (PySem.W.instObj C s.heap.objs.size)).get? b = some o := fun b o e => Heap.get?_push_of_some _ (Heap.get?_push_of_some _ e)
  have hx : ((s.heap.push PySem.W.emptyDict).push (PySem.W.instObj C s.heap.objs.size)).get? (s.heap.objs.size + 1) = some (PySem.W.instObj C s.heap.objs.size) := by
    have z := Heap.get?_push_size (s.heap.push PySem.W.emptyDict) (o := PySem.W.instObj C s.heap.objs.size) rfl
    rwa [Heap.size_push] at z
  have t1 : PySem.W.Looks (model X.prog X.w) ((s.heap.push PySem.W.emptyDict).push (PySem.W.instObj C s.heap.objs.size)) (typeOf (.ref (s.heap.objs.size + 1))) (.ref C) := (PySem.W.Looks.ld hx).andThen .now
  have t2 : PySem.W.Looks (model X.prog X.w) ((s.heap.push PySem.W.emptyDict).push (PySem.W.instObj C s.heap.objs.size)) (isInstance (.ref (s.heap.objs.size + 1)) (.type "object")) true := t1.andThen (Y.top.keeps up)
  refine wpAny_call (make_map0 I.kIn M.makes M.init (fun self => PySem.W.Looks.of_pure (PySem.W.oi_bind self)) ?_)
  refine codeAny_call_builtin PySem.W.oi_plain PySem.W.entry_oi (@PySem.W.check_slot (model X.prog X.w) _ _ _ "object.__init__" "object" "__init__" (.ref (s.heap.objs.size + 1)) [] [] _ PySem.W.oi_kind PySem.W.oi_split t2 (PySem.W.oi_args (.ref (s.heap.objs.size + 1))) ?_)
  rw [PySem.W.oi_run]
  exact wpAny_pure (And.intro rfl ⟨V.ref (s.heap.objs.size + 1), _, I2, rfl, hq⟩)
noncomputable def tMake0 (C : Addr) : TE := fun _ H Q => ∀ a dx, H a = none → H dx = none → dx ≠ a → Q (.ref a) (upd (upd H dx (.own a)) a (.ins C dx []))
theorem pe_mk0 {x : Str} {C : Addr} {p pos : Pos} (M : Make0 X.K X.mg x C) (hg : Gl X x) (hdb : (x == ("__debug__" : Str)) = false := by decide) : PE X (.Call (.Name x p) [] [] pos) (tMake0 C) := by
  intro pins s σ H Q I h
  exact wpAny_Call_Name_kw (ld_glob I hg M.at_ (PySem.W.callWith_K0 I.kIn M.kp (run_make0 M I h)) hdb)
/-- o.m(..): T tells the promise of m by the object's class -/
noncomputable def tMethV (T : Addr → Sp → Prop) (m : Str) (ta : TE) (t : TA) : TE := fun σ H Q => ta σ H fun x H1 => ∃ (a C dx : Addr) (fs : List (Str × V)) (sp : Sp), x = .ref a ∧ H1 a = some (.ins C dx fs) ∧ fs.lookup m = none ∧ T C sp ∧ t σ H1 fun vs H2 => sp (x :: vs) H2 Q E0
theorem pe_methV {T : Addr → Sp → Prop} {m : Str} {o e : Expr} {es : List Expr} {ta : TE} {t : TA} {apos pos : Pos} {j : Nat} {pl : Sem Bool} (he : PE X o ta) (hT : ∀ C sp, T C sp → ∃ ps, MethD X.prog X.w X.K X.mg X.base j C m ps sp) (hr : Room j X.A) (ha : PA X (e :: es) t)
    (hst : starEach (e :: es) X.env = (false, eval e X.env) :: starEach es X.env) (hpl : (backTo pos (starEach es X.env)).any (·.1) = false)
    (ht : eval (.Call (.Attribute o m apos) (e :: es) [] pos) X.env = (do
      let ov ← eval o X.env
      standAt apos.atName
      let (f, first) ← holding [ov] (getMethod ov m pl)
      callWith pos f first (backTo pos (starEach (e :: es) X.env)) (backToKw pos (keywordEach [] X.env)))) :
    PE X (.Call (.Attribute o m apos) (e :: es) [] pos) (tMethV T m ta t) := by
  intro pins s σ H Q I h
  refine PySem.W.methodCall_KW (pl := pl) (thn (he pins s σ H _ I h) fun u s1 zz => ?_) ht
  obtain ⟨x, H1, I1, rx, a, C, dx, fs, sp, ex, ea, l, hC, q⟩ := zz
  subst ex
  obtain rfl : u = Value.ref a := rx
  obtain ⟨ps, D⟩ := hT C sp hC
  obtain ⟨f, fd, F, b, hm, c⟩ := D.ex
  refine getmeth_ok I1 ea c hm l (PySem.W.callWith_K (first := [.ref a]) (h₀ := X.base) I.ok.mod.kin hm.kp (thn (ha pos pins s1 σ H1 _ I1 q) fun us s2 ⟨vs, H2, I2, r, q2⟩ => ⟨I2.kIn, ?_⟩) hst hpl)
  have q3 : sp (V.ref a :: (vs ++ [])) H2 Q E0 := by rw [List.append_nil]; exact q2
  exact run_fn (us := .ref a :: us) (vs := .ref a :: vs) (dvs := []) F hr b .nil pass0 I2 (.cons rfl r) q3
theorem pe_methV0 {T : Addr → Sp → Prop} {m : Str} {o : Expr} {ta : TE} {apos pos : Pos} {j : Nat} {pl : Sem Bool} (he : PE X o ta) (hT : ∀ C sp, T C sp → ∃ ps, MethD X.prog X.w X.K X.mg X.base j C m ps sp) (hr : Room j X.A)
    (ht : eval (.Call (.Attribute o m apos) [] [] pos) X.env = (do
      let ov ← eval o X.env
      standAt apos.atName
      let (f, first) ← holding [ov] (getMethod ov m pl)
      callWith pos f first (backTo pos (starEach [] X.env)) (backToKw pos (keywordEach [] X.env)))) :
    PE X (.Call (.Attribute o m apos) [] [] pos) (tMethV T m ta tNil) := by
  intro pins s σ H Q I h
  refine PySem.W.methodCall_KW (pl := pl) (thn (he pins s σ H _ I h) fun u s1 zz => ?_) ht
  obtain ⟨x, H1, I1, rx, a, C, dx, fs, sp, ex, ea, l, hC, q⟩ := zz
  subst ex
  obtain rfl : u = Value.ref a := rx
  obtain ⟨ps, D⟩ := hT C sp hC
  obtain ⟨f, fd, F, b, hm, c⟩ := D.ex
  refine getmeth_ok I1 ea c hm l (PySem.W.callWith_K0 (first := [.ref a]) I1.kIn hm.kp ?_)
  exact run_fn (us := [.ref a]) (vs := [.ref a]) (dvs := []) F hr b .nil pass0 I1 (.cons rfl .nil) q
noncomputable def rIsOwn (K : PySem.W.Frag) (D : Addr) : List V → Hp → VK → Prop := fun xs H Q => ∃ x t b, xs = [x, .ref D] ∧ TyOf K H x t ∧ PySem.W.kitOne K t (.ref D) = some b ∧ Q (.bl b) H
theorem call_isOwn (D : Addr) : CallR X (.builtin "isinstance") (rIsOwn X.K D) := by
  intro pins s σ H xs us Q I r h
  obtain ⟨x, t, b, rfl, ty, e, q⟩ := h
  obtain ⟨u, u', rfl, ru, ru'⟩ := vals2 r
  cases ru'
  exact isinst_ok I ru ty e fun tk => ⟨.bl b, H, I.tok tk, rfl, q⟩
end
namespace R
section
variable {X : Cx} {e o value : Expr} {es : List Expr} {te to ta tv : TE} {t : TA} {pos p apos pos' : Pos}
theorem pe_fld (K : PySem.W.Frag) {f : Str} (he : QE X e ta) (hb : attributeBase e f X.env (eval e X.env) = eval e X.env := by rfl) (hK : X.K = K := by rfl) : QE X (.Attribute e f pos) (tFld K ta f) := by subst hK; exact ⟨L2.pe_fld he.h hb⟩
theorem ps_fld {f : Str} (ha : QE X o ta) (hv : QE X value tv) (hs : noComp value = true := by rfl) : QS X (.Assign [.Attribute o f pos'] value pos) (sFld X.K ta tv f) := ⟨L2.ps_fld ha.h hv.h (swaps_no hs)⟩
theorem pe_mk0 {x : Str} {C : Addr} (M : Make0 X.K X.mg x C) (hg : Gl X x) (hdb : (x == ("__debug__" : Str)) = false := by decide) : QE X (.Call (.Name x p) [] [] pos) (tMake0 C) := ⟨L2.pe_mk0 M hg hdb⟩
theorem pe_makeD {k j : Nat} {x : Str} {C : Addr} {ps : List Str} {sp : Sp} (D : MakeD X.prog X.w X.K X.mg X.base k x C ps sp) (hr : Room j X.A) (hj : k + 1 ≤ j) (hg : Gl X x) (ha : QA X (e :: es) t) (hs : (e :: es).all noStar = true := by rfl) (hdb : (x == ("__debug__" : Str)) = false := by decide) :
    QE X (.Call (.Name x p) (e :: es) [] pos) (tMake C sp [] E0 t) := by
  obtain ⟨f, fd, F, b, M, m⟩ := D.ex
  exact ⟨L2.pe_make M F (hr.mono hj) hg m b .nil pass0 ha.h hdb (star_cons (all_cons1 hs).1) (star_any (all_cons1 hs).2)⟩
theorem pe_methV {T : Addr → Sp → Prop} {m : Str} {k j : Nat} {pl : Sem Bool} (he : QE X o ta) (hT : ∀ C sp, T C sp → ∃ ps, MethD X.prog X.w X.K X.mg X.base k C m ps sp) (hr : Room j X.A) (hj : k ≤ j) (ha : QA X (e :: es) t) (hs : (e :: es).all noStar = true := by rfl)
    (ht : eval (.Call (.Attribute o m apos) (e :: es) [] pos) X.env = (do
      let ov ← eval o X.env
      standAt apos.atName
      let (f, first) ← holding [ov] (getMethod ov m pl)
      callWith pos f first (backTo pos (starEach (e :: es) X.env)) (backToKw pos (keywordEach [] X.env))) := by rfl) :
    QE X (.Call (.Attribute o m apos) (e :: es) [] pos) (tMethV T m ta t) := ⟨L2.pe_methV (pl := pl) he.h hT (hr.mono hj) ha.h (star_cons (all_cons1 hs).1) (star_any (all_cons1 hs).2) ht⟩
theorem pe_methV0 {T : Addr → Sp → Prop} {m : Str} {k j : Nat} {pl : Sem Bool} (he : QE X o ta) (hT : ∀ C sp, T C sp → ∃ ps, MethD X.prog X.w X.K X.mg X.base k C m ps sp) (hr : Room j X.A) (hj : k ≤ j)
    (ht : eval (.Call (.Attribute o m apos) [] [] pos) X.env = (do
      let ov ← eval o X.env
      standAt apos.atName
      let (f, first) ← holding [ov] (getMethod ov m pl)
      callWith pos f first (backTo pos (starEach [] X.env)) (backToKw pos (keywordEach [] X.env))) := by rfl) :
    QE X (.Call (.Attribute o m apos) [] [] pos) (tMethV T m ta tNil) := ⟨L2.pe_methV0 (pl := pl) he.h hT (hr.mono hj) ht⟩
theorem pe_isOwn {x : Str} {D : Addr} {p2 : Pos} (hg : Gl X "isinstance") (hm : X.mg "isinstance" = none) (hgT : Gl X x) (hmT : X.mg x = some (.ref D)) (ha : QE X e te) (hs : noStar e = true := by rfl) (hdb : (x == ("__debug__" : Str)) = false := by decide) :
    QE X (.Call (.Name "isinstance" p) [e, .Name x p2] [] pos) (tCB (rIsOwn X.K D) (tCons te (tCons (tC (.ref D)) tNil))) :=
  ⟨L2.pe_cB (call_isOwn D) hg hm boot_isinstance (L2.pa_c ha.h (L2.pa_c (L2.pe_glob hgT hmT rfl hdb) L2.pa_nil) hs) (by rw [List.all_cons, hs]; rfl)⟩
end
end R
end L2


set_option Elab.async false
set_option linter.all false
set_option maxRecDepth 100000
/-! trees of bids: depth, tally, what is spoken of -/
namespace L2
open PySem PySem.Spec PyProof.Rows
/-- bids without bids in them -/
inductive Form where
  | none
  | only (b : Nat) (m : Int)
  | some (k l : Nat) (m : Int)
  | most (k c : Nat) (m : Int)
inductive Tr where
  | leaf (f : Form)
  | node (any : Bool) (ts : List Tr)
mutual
noncomputable def depthT : Tr → Nat
  | .leaf _ => 1
  | .node _ ts => 1 + depthL ts
noncomputable def depthL : List Tr → Nat
  | [] => 0
  | t :: ts => max (depthT t) (depthL ts)
end
mutual
noncomputable def tallyT : Tr → Nat
  | .leaf _ => 1
  | .node _ ts => 1 + tallyL ts
noncomputable def tallyL : List Tr → Nat
  | [] => 0
  | t :: ts => tallyT t + tallyL ts
end
theorem depthL_top : ∀ ts : List Tr, ((depthL ts : Nat) : Int) = top (ts.map fun t => ((depthT t : Nat) : Int)) := by
  have key : ∀ (ts : List Tr) (a : Nat), (ts.map fun t => ((depthT t : Nat) : Int)).foldl max (a : Int) = ((max a (depthL ts) : Nat) : Int) := by
    intro ts
    induction ts with
    | nil => intro a; show (a : Int) = _; rw [show depthL [] = 0 from rfl, Nat.max_eq_left (Nat.zero_le _)]
    | cons t ts ih =>
      intro a
      show (ts.map fun t => ((depthT t : Nat) : Int)).foldl max (max (a : Int) ((depthT t : Nat) : Int)) = _
      have e : max (a : Int) ((depthT t : Nat) : Int) = ((max a (depthT t) : Nat) : Int) := by omega
      rw [e, ih]
      show _ = ((max a (max (depthT t) (depthL ts)) : Nat) : Int)
      omega
  intro ts
  have := key ts 0
  rw [Nat.max_eq_right (Nat.zero_le _)] at this
  exact this.symm
theorem tallyL_sum : ∀ ts : List Tr, ((tallyL ts : Nat) : Int) = (ts.map fun t => ((tallyT t : Nat) : Int)).sum
  | [] => rfl
  | t :: ts => by
    show ((tallyT t + tallyL ts : Nat) : Int) = _
    rw [List.map_cons, List.sum_cons, ← tallyL_sum ts]; omega
theorem depth_pos : ∀ t : Tr, 1 ≤ depthT t
  | .leaf _ => Nat.le_refl _
  | .node _ ts => by show 1 ≤ 1 + depthL ts; omega
theorem depth_mem {ts : List Tr} {t : Tr} (h : t ∈ ts) : depthT t ≤ depthL ts := by
  induction ts with
  | nil => cases h
  | cons x ts ih =>
    show depthT t ≤ max (depthT x) (depthL ts)
    rcases List.mem_cons.mp h with e | h
    · subst e; omega
    · have := ih h; omega
theorem depthL_append : ∀ (as bs : List Tr), depthL (as ++ bs) = max (depthL as) (depthL bs)
  | [], bs => by show depthL bs = max 0 (depthL bs); omega
  | a :: as, bs => by show max (depthT a) (depthL (as ++ bs)) = max (max (depthT a) (depthL as)) (depthL bs); rw [depthL_append as bs]; omega
theorem tallyL_append : ∀ (as bs : List Tr), tallyL (as ++ bs) = tallyL as + tallyL bs
  | [], bs => by show tallyL bs = 0 + tallyL bs; omega
  | a :: as, bs => by show tallyT a + tallyL (as ++ bs) = tallyT a + tallyL as + tallyL bs; rw [tallyL_append as bs]; omega
/-! ### lists side by side -/
noncomputable def All2 {α β : Type} (R : α → β → Prop) (xs : List α) (ys : List β) : Prop := xs.length = ys.length ∧ ∀ (i : Nat) (x : α) (y : β), xs[i]? = some x → ys[i]? = some y → R x y
section
variable {α β : Type} {R S : α → β → Prop} {xs xs' : List α} {ys ys' : List β}
theorem All2.nil : All2 R [] [] := ⟨rfl, fun i x y e => by simp at e⟩
theorem All2.imp (h : All2 R xs ys) (f : ∀ x y, y ∈ ys → R x y → S x y) : All2 S xs ys := ⟨h.1, fun i x y e1 e2 => f x y (List.mem_of_getElem? e2) (h.2 i x y e1 e2)⟩
theorem All2.append (h : All2 R xs ys) (g : All2 R xs' ys') : All2 R (xs ++ xs') (ys ++ ys') := by
  refine ⟨by rw [List.length_append, List.length_append, h.1, g.1], fun i x y e1 e2 => ?_⟩
  by_cases hi : i < xs.length
  · rw [List.getElem?_append_left hi] at e1
    rw [List.getElem?_append_left (by rw [← h.1]; exact hi)] at e2
    exact h.2 i x y e1 e2
  · rw [List.getElem?_append_right (by omega)] at e1
    rw [List.getElem?_append_right (by rw [← h.1]; omega), ← h.1] at e2
    exact g.2 _ x y e1 e2
theorem All2.one {x : α} {y : β} (h : R x y) : All2 R [x] [y] := ⟨rfl, fun i a b e1 e2 => by
  match i with
  | 0 => cases e1; cases e2; exact h
  | i + 1 => simp at e1⟩
theorem All2.snoc {x : α} {y : β} (h : All2 R xs ys) (g : R x y) : All2 R (xs ++ [x]) (ys ++ [y]) := h.append (.one g)
theorem All2.take (h : All2 R xs ys) (n : Nat) : All2 R (xs.take n) (ys.take n) := by
  refine ⟨by rw [List.length_take, List.length_take, h.1], fun i x y e1 e2 => ?_⟩
  rw [List.getElem?_take] at e1 e2
  by_cases hi : i < n
  · rw [if_pos hi] at e1 e2
    exact h.2 i x y e1 e2
  · rw [if_neg hi] at e1; cases e1
theorem All2.at {bs : List Addr} {R : Addr → β → Prop} (h : All2 R bs ys) {i : Nat} {v : V} (e : (bs.map V.ref)[i]? = some v) : ∃ b y, v = .ref b ∧ bs[i]? = some b ∧ ys[i]? = some y ∧ R b y := by
  rw [List.getElem?_map] at e
  obtain ⟨b, hb, rfl⟩ := Option.map_eq_some_iff.mp e
  have hi : i < bs.length := (List.getElem?_eq_some_iff.mp hb).1
  have hi' : i < ys.length := by rw [← h.1]; exact hi
  exact ⟨b, ys[i], rfl, hb, List.getElem?_eq_getElem hi', h.2 i b _ hb (List.getElem?_eq_getElem hi')⟩
end
theorem tally_len : ∀ ts : List Tr, ts.length ≤ tallyL ts
  | [] => Nat.le_refl _
  | t :: ts => by
    have h1 : 1 ≤ tallyT t := by cases t with | leaf f => exact Nat.le_refl _ | node a us => show 1 ≤ 1 + tallyL us; omega
    have h2 := tally_len ts
    show ts.length + 1 ≤ tallyT t + tallyL ts
    omega
theorem tally_mem {ts : List Tr} {t : Tr} (h : t ∈ ts) : tallyT t ≤ tallyL ts := by
  induction ts with
  | nil => cases h
  | cons x ts ih =>
    show tallyT t ≤ tallyT x + tallyL ts
    rcases List.mem_cons.mp h with e | h
    · subst e; omega
    · have := ih h; omega
end L2


set_option Elab.async false
set_option linter.all false
set_option maxRecDepth 100000
/-! what bids are worth, as functions of the bundle -/
namespace L2
open PySem PySem.Spec PyProof.Rows
structure AmtOk (m : Int) : Prop where
  lo : 0 ≤ m
  hi : m ≤ 10 ^ 9
noncomputable def FormOk : Form → Prop
  | .none => True
  | .only b m => 1 ≤ b ∧ b ≤ 63 ∧ AmtOk m
  | .some k l m => 1 ≤ k ∧ k ≤ 63 ∧ 1 ≤ l ∧ l ≤ 6 ∧ AmtOk m
  | .most k c m => 1 ≤ k ∧ k ≤ 63 ∧ 1 ≤ c ∧ c ≤ 6 ∧ AmtOk m
/-- what it is worth at a bundle -/
noncomputable def worthF : Form → Nat → Int
  | .none, _ => 0
  | .only b m, x => if x &&& b = b then m else 0
  | .some k l m, x => if l ≤ (things (x &&& k)).length then m else 0
  | .most k c m, x => m * (if c < (things (x &&& k)).length then c else (things (x &&& k)).length : Nat)
noncomputable def worthsF (f : Form) (n : Nat) : List Int := (List.range (2 ^ n)).map (worthF f)
/-- the parts of a bundle -/
noncomputable def subsOf (x : Nat) : List Nat := (List.range (x + 1)).filter fun p => decide (x &&& p = p)
theorem subs_mem {x p : Nat} : p ∈ subsOf x ↔ x &&& p = p := by
  unfold subsOf
  rw [List.mem_filter, List.mem_range]
  constructor
  · exact fun h => of_decide_eq_true h.2
  · intro h
    have : p ≤ x := by rw [← h]; exact Nat.and_le_left
    exact ⟨by omega, decide_eq_true h⟩
theorem minus_sub : ∀ y < 64, ∀ x ∈ subsOf y, ∀ p ∈ subsOf x, (y - p) &&& (x - p) = x - p := by decide +kernel
/-- the greatest over the ways to share a bundle between the two -/
noncomputable def conv (g h : Nat → Int) (x : Nat) : Int := top ((subsOf x).map fun p => g p + h (x - p))
noncomputable def mx (g h : Nat → Int) (x : Nat) : Int := if h x > g x then h x else g x
noncomputable def join (any : Bool) (g h : Nat → Int) : Nat → Int := if any = true then conv g h else mx g h
mutual
noncomputable def worthT : Tr → Nat → Int
  | .leaf f => worthF f
  | .node any ts => bestL any ts (fun _ => 0)
noncomputable def bestL : Bool → List Tr → (Nat → Int) → Nat → Int
  | _, [], g => g
  | any, t :: ts, g => bestL any ts (join any g (worthT t))
end
theorem bestL_snoc (any : Bool) (t : Tr) : ∀ (ts : List Tr) (g : Nat → Int), bestL any (ts ++ [t]) g = join any (bestL any ts g) (worthT t)
  | [], g => by show bestL any [t] g = join any (bestL any [] g) (worthT t); rw [bestL, bestL, bestL]
  | u :: ts, g => by
    show bestL any (u :: (ts ++ [t])) g = join any (bestL any (u :: ts) g) (worthT t)
    rw [bestL, bestL, bestL_snoc any t ts]
theorem bestL_take (any : Bool) (ts : List Tr) (i : Nat) (t : Tr) (h : ts[i]? = some t) (g : Nat → Int) : bestL any (ts.take (i + 1)) g = join any (bestL any (ts.take i) g) (worthT t) := by
  rw [List.take_succ, h]; exact bestL_snoc any t _ g
theorem bestL_nil (any : Bool) (g : Nat → Int) : bestL any [] g = g := by rw [bestL]
theorem worthT_node (any : Bool) (ts : List Tr) : worthT (.node any ts) = bestL any ts (fun _ => 0) := by rw [worthT]
theorem worthT_leaf (f : Form) : worthT (.leaf f) = worthF f := by rw [worthT]
/-- no bundle is worth less than one of its parts; nothing is worth nothing -/
structure Good (g : Nat → Int) : Prop where
  zero : g 0 = 0
  up : ∀ x y, y < 64 → y &&& x = x → g x ≤ g y
theorem Good.nonneg {g : Nat → Int} (h : Good g) {x : Nat} (hx : x < 64) : 0 ≤ g x := by
  have := h.up 0 x hx (Nat.and_zero x)
  rw [h.zero] at this; exact this
theorem sub_lt {x p : Nat} (hx : x < 64) (h : x &&& p = p) : p < 64 := by
  have : p ≤ x := by rw [← h]; exact Nat.and_le_left
  omega
theorem part_nonneg {g h : Nat → Int} (hg : Good g) (hh : Good h) {x : Nat} (hx : x < 64) {p : Nat} (hp : x &&& p = p) : 0 ≤ g p + h (x - p) := by
  have h1 := hg.nonneg (sub_lt hx hp)
  have h2 := hh.nonneg (show x - p < 64 by omega)
  omega
theorem conv_ge {g h : Nat → Int} {x p : Nat} (hp : x &&& p = p) : g p + h (x - p) ≤ conv g h x :=
  (top_ge _ 0).2 _ (List.mem_map.mpr ⟨p, subs_mem.mpr hp, rfl⟩)
theorem conv_at (g h : Nat → Int) (x : Nat) : conv g h x = 0 ∨ ∃ p, x &&& p = p ∧ conv g h x = g p + h (x - p) := by
  rcases top_mem ((subsOf x).map fun p => g p + h (x - p)) 0 with e | e
  · exact .inl e
  · obtain ⟨p, hp, e⟩ := List.mem_map.mp e
    exact .inr ⟨p, subs_mem.mp hp, e.symm⟩
theorem conv_good {g h : Nat → Int} (hg : Good g) (hh : Good h) : Good (conv g h) := by
  constructor
  · rcases conv_at g h 0 with e | ⟨p, hp, e⟩
    · exact e
    · have : p = 0 := by rw [← hp]; exact Nat.zero_and p
      subst this
      rw [e, hg.zero, hh.zero]; rfl
  · intro x y hy hs
    rcases conv_at g h x with e | ⟨p, hp, e⟩
    · rw [e]; exact top_nonneg _
    · rw [e]
      have h1 := hh.up (x - p) (y - p) (by omega) (minus_sub y hy x (subs_mem.mpr hs) p (subs_mem.mpr hp))
      have h2 := conv_ge (g := g) (h := h) (sub_trans hs hp)
      omega
theorem mx_good {g h : Nat → Int} (hg : Good g) (hh : Good h) : Good (mx g h) := by
  constructor
  · unfold mx; rw [hg.zero, hh.zero]; rfl
  · intro x y hy hs
    have h1 := hg.up x y hy hs
    have h2 := hh.up x y hy hs
    unfold mx
    split <;> split <;> omega
theorem join_good (any : Bool) {g h : Nat → Int} (hg : Good g) (hh : Good h) : Good (join any g h) := by
  cases any
  · exact mx_good hg hh
  · exact conv_good hg hh
theorem good0 : Good fun _ => 0 := ⟨rfl, fun _ _ _ _ => Int.le_refl _⟩
theorem filter_len {p q : Nat → Bool} : ∀ (l : List Nat), (∀ k ∈ l, p k = true → q k = true) → (l.filter p).length ≤ (l.filter q).length
  | [], _ => Nat.le_refl _
  | k :: l, h => by
    have ih := filter_len l (fun j hj => h j (List.mem_cons_of_mem _ hj))
    have hk := h k (List.mem_cons_self ..)
    rw [List.filter_cons, List.filter_cons]
    cases e1 : p k with
    | true => rw [hk e1]; show _ + 1 ≤ _ + 1; omega
    | false =>
      cases e2 : q k with
      | true => show _ ≤ _ + 1; rw [if_neg (by decide)]; omega
      | false => rw [if_neg (by decide), if_neg (by decide)]; exact ih
theorem things_mono {x y : Nat} (h : y &&& x = x) (k : Nat) : (things (x &&& k)).length ≤ (things (y &&& k)).length := by
  refine filter_len _ fun i _ e => ?_
  rw [Nat.testBit_and, Bool.and_eq_true] at e ⊢
  exact ⟨sub_bits.mp h i e.1, e.2⟩
theorem worthF_good {f : Form} (ok : FormOk f) : Good (worthF f) := by
  cases f with
  | none => exact good0
  | only b m =>
    refine ⟨?_, fun x y hy hs => ?_⟩
    · show (if 0 &&& b = b then m else 0) = 0
      rw [Nat.zero_and, if_neg (by have := ok.1; omega)]
    · show (if x &&& b = b then m else 0) ≤ if y &&& b = b then m else 0
      have hm := ok.2.2.lo
      by_cases c : x &&& b = b
      · rw [if_pos c, if_pos (sub_trans hs c)]; exact Int.le_refl _
      · rw [if_neg c]; split; exact hm; exact Int.le_refl _
  | some k l m =>
    refine ⟨?_, fun x y hy hs => ?_⟩
    · show (if l ≤ (things (0 &&& k)).length then m else 0) = 0
      rw [Nat.zero_and, if_neg (by have := ok.2.2.1; show ¬ l ≤ 0; omega)]
    · show (if l ≤ (things (x &&& k)).length then m else 0) ≤ if l ≤ (things (y &&& k)).length then m else 0
      have hm := ok.2.2.2.2.lo
      have := things_mono hs k
      by_cases c : l ≤ (things (x &&& k)).length
      · rw [if_pos c, if_pos (by omega)]; exact Int.le_refl _
      · rw [if_neg c]; split; exact hm; exact Int.le_refl _
  | most k c m =>
    refine ⟨?_, fun x y hy hs => ?_⟩
    · show m * ((if c < (things (0 &&& k)).length then c else (things (0 &&& k)).length : Nat) : Int) = 0
      rw [Nat.zero_and, if_neg (by show ¬ c < 0; omega)]
      show m * 0 = 0
      exact Int.mul_zero m
    · have := things_mono hs k
      refine Int.mul_le_mul_of_nonneg_left ?_ ok.2.2.2.2.lo
      split <;> split <;> omega
mutual
noncomputable def okT : Tr → Prop
  | .leaf f => FormOk f
  | .node _ ts => okL ts
noncomputable def okL : List Tr → Prop
  | [] => True
  | t :: ts => okT t ∧ okL ts
end
mutual
theorem worthT_good : ∀ t, okT t → Good (worthT t)
  | .leaf f, h => by rw [worthT_leaf]; rw [okT] at h; exact worthF_good h
  | .node any ts, h => by rw [worthT_node]; rw [okT] at h; exact bestL_good any ts _ good0 h
theorem bestL_good : ∀ any ts g, Good g → okL ts → Good (bestL any ts g)
  | _, [], g, hg, _ => by rw [bestL_nil]; exact hg
  | any, t :: ts, g, hg, h => by
    rw [okL] at h
    rw [bestL]
    exact bestL_good any ts _ (join_good any hg (worthT_good t h.1)) h.2
end
theorem okL_of : ∀ {ts : List Tr}, (∀ t ∈ ts, okT t) → okL ts
  | [], _ => by rw [okL]; trivial
  | t :: ts, h => by rw [okL]; exact ⟨h t (List.mem_cons_self ..), okL_of fun u hu => h u (List.mem_cons_of_mem _ hu)⟩
theorem okL_mem : ∀ {ts : List Tr}, okL ts → ∀ t ∈ ts, okT t
  | [], _, t, ht => by cases ht
  | u :: ts, h, t, ht => by
    rw [okL] at h
    rcases List.mem_cons.mp ht with e | ht
    · subst e; exact h.1
    · exact okL_mem h.2 t ht
theorem okL_take {ts : List Tr} (h : okL ts) (i : Nat) : okL (ts.take i) := okL_of fun t ht => okL_mem h t (List.mem_of_mem_take ht)
theorem okT_node {any : Bool} {ts : List Tr} : okT (.node any ts) ↔ okL ts := by rw [okT]
theorem okT_leaf {f : Form} : okT (.leaf f) ↔ FormOk f := by rw [okT]
theorem All2.mem {α β : Type} {R : α → β → Prop} {xs : List α} {ys : List β} (h : All2 R xs ys) {y : β} (hy : y ∈ ys) : ∃ x, R x y := by
  obtain ⟨i, hi, rfl⟩ := List.mem_iff_getElem.mp hy
  have hi' : i < xs.length := by rw [h.1]; exact hi
  exact ⟨xs[i], h.2 i _ _ (List.getElem?_eq_getElem hi') (List.getElem?_eq_getElem hi)⟩
/-! ### tables -/
noncomputable def tab (g : Nat → Int) (n : Nat) : List Int := (List.range (2 ^ n)).map g
theorem tab_len (g : Nat → Int) (n : Nat) : (tab g n).length = 2 ^ n := by unfold tab; rw [List.length_map, List.length_range]
theorem tab_at {g : Nat → Int} {n x : Nat} (h : x < 2 ^ n) : (tab g n).getD x 0 = g x := by
  unfold tab
  rw [List.getD_eq_getElem?_getD, List.getElem?_map, List.getElem?_eq_getElem (by rw [List.length_range]; exact h), List.getElem_range]; rfl
/-! ### the greatest, from nought on -/
end L2
namespace L2.R
open PySem PySem.Spec PyProof.Rows
variable {X : Cx} {e : Expr} {te : TE} {pos : Pos}
end L2.R


set_option Elab.async false
set_option linter.all false
set_option maxRecDepth 100000
/-! wishes of groups that are apart -/
namespace L2
open PySem PySem.Spec PyProof.Rows
/-! ### one wish in other words -/
end L2


set_option Elab.async false
set_option linter.all false
set_option maxRecDepth 100000
/-! a list taken apart: x, y = [.., ..] -/
namespace L2
open PySem PySem.Spec PyProof.Rows
section
variable {prog : Program} {w : World} {A : Around} {E : Value → Shared → Prop}
end
namespace R
end R
end L2


set_option Elab.async false
set_option linter.all false
set_option maxRecDepth 100000
/-! refusals: constructors that raise, a try that goes on, isinstance of a tuple of classes -/
namespace L2
open PySem PySem.Spec PyProof.Rows PySem.W
/-- from H on an exception of the class C goes out -/
noncomputable def Throws (C : Addr) (H : Hp) (E : XK) : Prop := ∀ H' a, Same H H' → H' a = none → E (.ref a) (some C) H'
theorem Throws.same {C : Addr} {H H' : Hp} {E : XK} (S : Same H H') (h : Throws C H E) : Throws C H' E := fun H2 a s n => h H2 a (S.trans s) n
section
variable {P : Program} {w : World} {K : PySem.W.Frag} {mg : Str → Option Value} {base : Heap}
theorem Fun.ok_E {x qual : Str} {st : Stmt} {f : Addr} {fd : FuncData} {N ps : List Str} {k : Nat} {sp : Sp} (F : Fun K x qual st f fd) (S : FnScope N ps (defScope st)) (len : ∀ vs H Q E, sp vs H Q E → vs.length = ps.length)
    (hbody : ∀ (cdv : Value) (A : Around) (outer : List Env) (s : Shared) (H : Hp) (vs : List V) (Q : VK) (E : XK), Room k (A.deeper (envOfC qual (defScope st) s.heap.objs.size f cdv)) → sp vs H Q E →
      ∃ t, QSs (cxOf (CXE P w) P w K mg base N qual (defScope st) f cdv A outer s H E) (defBody st) t ∧ t { nx := fun _ H' => Q .non H', rt := Q } (start N vs) H) : FnOk P w K mg base (CXE P w) (k + 1) f fd ps sp := by
  obtain ⟨oc, od, kV, doc, pm, an, cdv, ct, osl, rfl, lk, hcd⟩ := F.ex
  refine fn_of lk hcd S len fun A outer s H vs Q E hr hsp => ?_
  obtain ⟨t, h, q⟩ := hbody cdv A outer s H vs Q E hr hsp
  exact ⟨t, h.h, q⟩
/-- a constructor that may raise -/
structure MakeE (P : Program) (w : World) (K : PySem.W.Frag) (mg : Str → Option Value) (base : Heap) (k : Nat) (x : Str) (C : Addr) (ps : List Str) (sp : Sp) : Prop where
  ex : ∃ (f : Addr) (fd : FuncData), FnOk P w K mg base (CXE P w) k f fd ps sp ∧ Binds K fd ps [] ∧ Mk K C f ∧ mg x = some (.ref C)
end
/-! ### isinstance of a tuple of own classes -/
noncomputable def rIsOT (K : Frag) : List V → Hp → VK → Prop := fun xs H Q => ∃ (a p C : Addr) (ds : List Addr) (b : Bool), xs = [.ref a, .ref p] ∧ H a = some (excO a C) ∧ H p = some (.tup (ds.map V.ref)) ∧ ExK K C ∧ kitAny K (.ref C) (ds.map Value.ref) = some b ∧ Q (.bl b) H
theorem vals_adrs : ∀ {ds : List Addr} {us : List Value}, Vals (ds.map V.ref) us → us = ds.map Value.ref
  | [], _, .nil => rfl
  | d :: ds, _, .cons h r => by
    have e := vals_adrs r
    subst e
    cases h
    rfl
theorem call_isOT {X : Cx} : CallR X (.builtin "isinstance") (rIsOT X.K) := by
  intro pins s σ H xs us Q I r h
  obtain ⟨a, p, C, ds, b, rfl, ea, ep, Z, e, q⟩ := h
  obtain ⟨u, u', rfl, ru, ru'⟩ := vals2 r
  cases ru; cases ru'
  have y : ObjOk X.prog X.w H s.heap a (excO a C) := I.hok a _ ea
  obtain ⟨_, its, vi, ti⟩ : ObjOk X.prog X.w H s.heap p (.tup (ds.map V.ref)) := I.hok p _ ep
  have e2 := vals_adrs vi
  subst e2
  obtain ⟨o, h1, h2, n, h3⟩ := ti
  obtain ⟨oc, od, oda, osl⟩ := o
  cases h2; cases h3
  exact kia_tup (kitx_exc Z) I.kIn y.1 h1 e (fun z => nomatch z) fun tk => ⟨.bl b, H, I.tok tk, rfl, q⟩
/-- the type of any value against a built-in class -/
noncomputable def rIsTy (K : Frag) (T : String) : List V → Hp → VK → Prop := fun xs H Q => ∃ x t b, xs = [x, .ty T] ∧ TyOf K H x t ∧ kitOne K t (.type T) = some b ∧ Q (.bl b) H
theorem call_isTy {X : Cx} (T : String) : CallR X (.builtin "isinstance") (rIsTy X.K T) := by
  intro pins s σ H xs us Q I r h
  obtain ⟨x, t, b, rfl, ty, e, q⟩ := h
  obtain ⟨u, u', rfl, ru, ru'⟩ := vals2 r
  cases ru'
  exact isinst_ok I ru ty e fun tk => ⟨.bl b, H, I.tok tk, rfl, q⟩
/-! ### a try whose body raises nothing -/
theorem ps_tryN {X : Cx} {body : List Stmt} {h₀ : ExceptHandler} {hs : List ExceptHandler} {pos : Pos} {t : TS} (hb : PSs X.nox body t) : PS X (.Try body (h₀ :: hs) [] [] pos) t := by
  intro pins s σ H D I h
  refine wpAny_Try_except (wpAny_mono (hb pins s σ H D (I.wish _) h) (fun f s1 q => ?_) fun _ _ z => False.elim z)
  have q' := q.unwish
  cases f with
  | next => exact wpAny_execs_nil q'
  | ret u => exact q'
  | brk => exact q'
  | cont => exact q'
namespace R
section
variable {X : Cx} {e : Expr} {es : List Expr} {te : TE} {t : TA} {pos p : Pos}
theorem pe_makeE {k j : Nat} {x : Str} {C : Addr} {ps : List Str} {sp : Sp} {E : XK} (D : MakeE X.prog X.w X.K X.mg X.base k x C ps sp) (hr : Room j X.A) (hj : k + 1 ≤ j) (hg : Gl X x) (ha : QA X (e :: es) t)
    (hst : X.stack = X.env :: X.outer) (hf : X.env.frame = some X.env.locals) (hex : X.ex = [])
    (hxe : ∀ v s', wpAny (model X.prog X.w) X.A (leaving X.env v) (fun _ s'' => CXE X.prog X.w X.outer X.H₀ X.s₀ E v s'') (fun v' s'' => CXE X.prog X.w X.outer X.H₀ X.s₀ E v' s'') s' → X.xe v s')
    (hs : (e :: es).all noStar = true := by rfl) (hdb : (x == ("__debug__" : Str)) = false := by decide) : QE X (.Call (.Name x p) (e :: es) [] pos) (tMake C sp [] E t) := by
  obtain ⟨f, fd, F, b, M, m⟩ := D.ex
  exact ⟨L2.pe_make M F (hr.mono hj) hg m b .nil (passE hst hf hex hxe) ha.h hdb (star_cons (all_cons1 hs).1) (star_any (all_cons1 hs).2)⟩
theorem pe_isOT {e2 : Expr} {te2 : TE} (hg : Gl X "isinstance") (hm : X.mg "isinstance" = none) (ha : QE X e te) (hb : QE X e2 te2) (hs : noStar e = true := by rfl) (hs2 : noStar e2 = true := by rfl) :
    QE X (.Call (.Name "isinstance" p) [e, e2] [] pos) (tCB (rIsOT X.K) (tCons te (tCons te2 tNil))) :=
  ⟨L2.pe_cB call_isOT hg hm boot_isinstance (L2.pa_c ha.h (L2.pa_c hb.h L2.pa_nil hs2) hs) (by rw [List.all_cons, hs, List.all_cons, hs2]; rfl)⟩
theorem pe_isTy {x : Str} {T : String} {p2 : Pos} (hg : Gl X "isinstance") (hm : X.mg "isinstance" = none) (hgT : Gl X x) (hmT : X.mg x = none) (hv : bootBuiltins x = some (.type T)) (ha : QE X e te) (hs : noStar e = true := by rfl)
    (hn : x ≠ "__name__" := by decide) (hdb : (x == ("__debug__" : Str)) = false := by decide) :
    QE X (.Call (.Name "isinstance" p) [e, .Name x p2] [] pos) (tCB (rIsTy X.K T) (tCons te (tCons (tC (.ty T)) tNil))) :=
  ⟨L2.pe_cB (call_isTy T) hg hm boot_isinstance (L2.pa_c ha.h (L2.pa_c (L2.pe_bltn hgT hmT hv rfl hn hdb) L2.pa_nil) hs) (by rw [List.all_cons, hs]; rfl)⟩
theorem pe_cls {x : Str} {D : Addr} (hg : Gl X x) (hm : X.mg x = some (.ref D)) (hdb : (x == ("__debug__" : Str)) = false := by decide) : QE X (.Name x p) (tC (.ref D)) := ⟨L2.pe_glob hg hm rfl hdb⟩
theorem ps_tryN {body : List Stmt} {h₀ : ExceptHandler} {hs : List ExceptHandler} {tb : TS} (hb : QSs X.nox body tb) : QS X (.Try body (h₀ :: hs) [] [] pos) tb := ⟨L2.ps_tryN hb.h⟩
end
end R
end L2


set_option Elab.async false
set_option linter.all false
set_option maxRecDepth 100000
set_option maxHeartbeats 4000000
namespace My
open PySem PySem.Spec PyProof.Rows L2 GM
theorem lst0 {T : Type} {P : List T → Prop} {us : List T} (h : us.length = 0) (f : P []) : P us := by cases us with | nil => exact f | cons a us => cases h
theorem lst1 {T : Type} {P : List T → Prop} {us : List T} (h : us.length = 1) (f : ∀ a, P [a]) : P us := by cases us with | nil => cases h | cons a us => exact lst0 (P := fun l => P (a :: l)) (Nat.succ.inj h) (f a)
theorem lst2 {T : Type} {P : List T → Prop} {us : List T} (h : us.length = 2) (f : ∀ a b, P [a, b]) : P us := by cases us with | nil => cases h | cons a us => exact lst1 (P := fun l => P (a :: l)) (Nat.succ.inj h) (f a)
theorem lst3 {T : Type} {P : List T → Prop} {us : List T} (h : us.length = 3) (f : ∀ a b c, P [a, b, c]) : P us := by cases us with | nil => cases h | cons a us => exact lst2 (P := fun l => P (a :: l)) (Nat.succ.inj h) (f a)
theorem lst4 {T : Type} {P : List T → Prop} {us : List T} (h : us.length = 4) (f : ∀ a b c d, P [a, b, c, d]) : P us := by cases us with | nil => cases h | cons a us => exact lst3 (P := fun l => P (a :: l)) (Nat.succ.inj h) (f a)
theorem bnd1 {K : PySem.W.Frag} {x qual : Str} {st : Stmt} {f : Addr} {fd : FuncData} {p0 : Str} (F : Fun K x qual st f fd) (h : ∀ (kV doc pm : Value) (an : Option Addr) (cdv ct : Value) (a : Value), bindArgs (PySem.W.fnOf x qual (defArgs st) (defBody st) (defScope st) .none kV doc pm an cdv ct) ⟨[a], []⟩ = pure ([p0].zip [a])) : Binds K fd [p0] [] :=
  F.binds fun kV doc pm an cdv ct us hl => lst1 (P := fun us => bindArgs (PySem.W.fnOf x qual (defArgs st) (defBody st) (defScope st) .none kV doc pm an cdv ct) ⟨us, []⟩ = pure ([p0].zip us)) hl (h kV doc pm an cdv ct)
theorem bnd2 {K : PySem.W.Frag} {x qual : Str} {st : Stmt} {f : Addr} {fd : FuncData} {p0 p1 : Str} (F : Fun K x qual st f fd) (h : ∀ (kV doc pm : Value) (an : Option Addr) (cdv ct : Value) (a b : Value), bindArgs (PySem.W.fnOf x qual (defArgs st) (defBody st) (defScope st) .none kV doc pm an cdv ct) ⟨[a, b], []⟩ = pure ([p0, p1].zip [a, b])) : Binds K fd [p0, p1] [] :=
  F.binds fun kV doc pm an cdv ct us hl => lst2 (P := fun us => bindArgs (PySem.W.fnOf x qual (defArgs st) (defBody st) (defScope st) .none kV doc pm an cdv ct) ⟨us, []⟩ = pure ([p0, p1].zip us)) hl (h kV doc pm an cdv ct)
theorem bnd3 {K : PySem.W.Frag} {x qual : Str} {st : Stmt} {f : Addr} {fd : FuncData} {p0 p1 p2 : Str} (F : Fun K x qual st f fd) (h : ∀ (kV doc pm : Value) (an : Option Addr) (cdv ct : Value) (a b c : Value), bindArgs (PySem.W.fnOf x qual (defArgs st) (defBody st) (defScope st) .none kV doc pm an cdv ct) ⟨[a, b, c], []⟩ = pure ([p0, p1, p2].zip [a, b, c])) : Binds K fd [p0, p1, p2] [] :=
  F.binds fun kV doc pm an cdv ct us hl => lst3 (P := fun us => bindArgs (PySem.W.fnOf x qual (defArgs st) (defBody st) (defScope st) .none kV doc pm an cdv ct) ⟨us, []⟩ = pure ([p0, p1, p2].zip us)) hl (h kV doc pm an cdv ct)
theorem bnd4 {K : PySem.W.Frag} {x qual : Str} {st : Stmt} {f : Addr} {fd : FuncData} {p0 p1 p2 p3 : Str} (F : Fun K x qual st f fd) (h : ∀ (kV doc pm : Value) (an : Option Addr) (cdv ct : Value) (a b c d : Value), bindArgs (PySem.W.fnOf x qual (defArgs st) (defBody st) (defScope st) .none kV doc pm an cdv ct) ⟨[a, b, c, d], []⟩ = pure ([p0, p1, p2, p3].zip [a, b, c, d])) : Binds K fd [p0, p1, p2, p3] [] :=
  F.binds fun kV doc pm an cdv ct us hl => lst4 (P := fun us => bindArgs (PySem.W.fnOf x qual (defArgs st) (defBody st) (defScope st) .none kV doc pm an cdv ct) ⟨us, []⟩ = pure ([p0, p1, p2, p3].zip us)) hl (h kV doc pm an cdv ct)
noncomputable def top (i : Nat) : Stmt := PySem.Challenge.pw_gavelhall_k22_bids_refused.main.body.getD i (.Pass ⟨0, 0, 0, 0⟩)
noncomputable abbrev s_P_is_whole : Stmt := top 14
noncomputable abbrev s_P_is_within : Stmt := top 15
noncomputable abbrev s_P_things_in : Stmt := top 17
noncomputable abbrev s_P_size_of : Stmt := top 18
noncomputable abbrev s_P_holds : Stmt := top 19
noncomputable abbrev s_P_parts_of : Stmt := top 20
noncomputable abbrev s_P_check_bundle : Stmt := top 29
noncomputable abbrev s_P_check_so_many : Stmt := top 30
noncomputable abbrev s_P_check_amount : Stmt := top 31
noncomputable abbrev s_P_check_bids : Stmt := top 32
noncomputable abbrev s_P_depth_over : Stmt := top 33
noncomputable abbrev s_P_tally_over : Stmt := top 34
noncomputable abbrev s_P_worths_of_nothing : Stmt := top 35
noncomputable abbrev s_P_shared_out : Stmt := top 36
noncomputable abbrev s_P_best_share : Stmt := top 37
noncomputable abbrev s_P_greater_of : Stmt := top 38
noncomputable abbrev s_L_cell : Stmt := top 40
noncomputable abbrev s_L_made : Stmt := top 41
noncomputable abbrev s_L_other : Stmt := top 42
noncomputable abbrev s_L_by_class : Stmt := top 43
noncomputable abbrev s_L_by_base : Stmt := top 44
noncomputable abbrev s_L_refused : Stmt := top 45
noncomputable abbrev s_L_taken : Stmt := top 46
noncomputable abbrev s_L_within : Stmt := top 47
noncomputable abbrev s_L_odd : Stmt := top 48
noncomputable abbrev s_L_numbers : Stmt := top 49
noncomputable abbrev s_L_some : Stmt := top 50
noncomputable abbrev s_L_lists : Stmt := top 51
noncomputable abbrev s_L_deep : Stmt := top 52
noncomputable abbrev s_L_full : Stmt := top 53
noncomputable abbrev s_law : Stmt := top 54
noncomputable abbrev s_M_Bid_worths : Stmt := (clsBody (top 22)).getD 0 (.Pass ⟨0, 0, 0, 0⟩)
noncomputable abbrev s_M_Bid_depth : Stmt := (clsBody (top 22)).getD 1 (.Pass ⟨0, 0, 0, 0⟩)
noncomputable abbrev s_M_Bid_tally : Stmt := (clsBody (top 22)).getD 2 (.Pass ⟨0, 0, 0, 0⟩)
noncomputable abbrev s_M_Only___init__ : Stmt := (clsBody (top 23)).getD 0 (.Pass ⟨0, 0, 0, 0⟩)
noncomputable abbrev s_M_Only_worths : Stmt := (clsBody (top 23)).getD 1 (.Pass ⟨0, 0, 0, 0⟩)
noncomputable abbrev s_M_SoMany___init__ : Stmt := (clsBody (top 24)).getD 0 (.Pass ⟨0, 0, 0, 0⟩)
noncomputable abbrev s_M_SoMany_worths : Stmt := (clsBody (top 24)).getD 1 (.Pass ⟨0, 0, 0, 0⟩)
noncomputable abbrev s_M_UpTo___init__ : Stmt := (clsBody (top 25)).getD 0 (.Pass ⟨0, 0, 0, 0⟩)
noncomputable abbrev s_M_UpTo_worths : Stmt := (clsBody (top 25)).getD 1 (.Pass ⟨0, 0, 0, 0⟩)
noncomputable abbrev s_M_Several___init__ : Stmt := (clsBody (top 26)).getD 0 (.Pass ⟨0, 0, 0, 0⟩)
noncomputable abbrev s_M_Several_depth : Stmt := (clsBody (top 26)).getD 1 (.Pass ⟨0, 0, 0, 0⟩)
noncomputable abbrev s_M_Several_tally : Stmt := (clsBody (top 26)).getD 2 (.Pass ⟨0, 0, 0, 0⟩)
noncomputable abbrev s_M_AnyOf_worths : Stmt := (clsBody (top 27)).getD 0 (.Pass ⟨0, 0, 0, 0⟩)
noncomputable abbrev s_M_OneOf_worths : Stmt := (clsBody (top 28)).getD 0 (.Pass ⟨0, 0, 0, 0⟩)
theorem sc_P_is_whole : FnScope ["thing"] ["thing"] (defScope s_P_is_whole) := ⟨rfl, rfl, rfl, by decide +kernel, rfl, by decide +kernel, by decide +kernel⟩
theorem sc_P_is_within : FnScope ["thing", "least", "most"] ["thing", "least", "most"] (defScope s_P_is_within) := ⟨rfl, rfl, rfl, by decide +kernel, rfl, by decide +kernel, by decide +kernel⟩
theorem sc_P_things_in : FnScope ["bundle"] ["bundle"] (defScope s_P_things_in) := ⟨rfl, rfl, rfl, by decide +kernel, rfl, by decide +kernel, by decide +kernel⟩
theorem sc_P_size_of : FnScope ["bundle"] ["bundle"] (defScope s_P_size_of) := ⟨rfl, rfl, rfl, by decide +kernel, rfl, by decide +kernel, by decide +kernel⟩
theorem sc_P_holds : FnScope ["one", "other"] ["one", "other"] (defScope s_P_holds) := ⟨rfl, rfl, rfl, by decide +kernel, rfl, by decide +kernel, by decide +kernel⟩
theorem sc_P_parts_of : FnScope ["bundle", "parts", "number"] ["bundle"] (defScope s_P_parts_of) := ⟨rfl, rfl, rfl, by decide +kernel, rfl, by decide +kernel, by decide +kernel⟩
theorem sc_P_check_bundle : FnScope ["bundle"] ["bundle"] (defScope s_P_check_bundle) := ⟨rfl, rfl, rfl, by decide +kernel, rfl, by decide +kernel, by decide +kernel⟩
theorem sc_P_check_so_many : FnScope ["number"] ["number"] (defScope s_P_check_so_many) := ⟨rfl, rfl, rfl, by decide +kernel, rfl, by decide +kernel, by decide +kernel⟩
theorem sc_P_check_amount : FnScope ["amount"] ["amount"] (defScope s_P_check_amount) := ⟨rfl, rfl, rfl, by decide +kernel, rfl, by decide +kernel, by decide +kernel⟩
theorem sc_P_check_bids : FnScope ["bids", "bid"] ["bids"] (defScope s_P_check_bids) := ⟨rfl, rfl, rfl, by decide +kernel, rfl, by decide +kernel, by decide +kernel⟩
theorem sc_P_depth_over : FnScope ["bids"] ["bids"] (defScope s_P_depth_over) := ⟨rfl, rfl, rfl, by decide +kernel, rfl, by decide +kernel, by decide +kernel⟩
theorem sc_P_tally_over : FnScope ["bids"] ["bids"] (defScope s_P_tally_over) := ⟨rfl, rfl, rfl, by decide +kernel, rfl, by decide +kernel, by decide +kernel⟩
theorem sc_P_worths_of_nothing : FnScope ["many"] ["many"] (defScope s_P_worths_of_nothing) := ⟨rfl, rfl, rfl, by decide +kernel, rfl, by decide +kernel, by decide +kernel⟩
theorem sc_P_shared_out : FnScope ["one", "other"] ["one", "other"] (defScope s_P_shared_out) := ⟨rfl, rfl, rfl, by decide +kernel, rfl, by decide +kernel, by decide +kernel⟩
theorem sc_P_best_share : FnScope ["one", "other", "bundle"] ["one", "other", "bundle"] (defScope s_P_best_share) := ⟨rfl, rfl, rfl, by decide +kernel, rfl, by decide +kernel, by decide +kernel⟩
theorem sc_P_greater_of : FnScope ["one", "other"] ["one", "other"] (defScope s_P_greater_of) := ⟨rfl, rfl, rfl, by decide +kernel, rfl, by decide +kernel, by decide +kernel⟩
theorem sc_L_cell : FnScope ["_law_script", "_law_k"] ["_law_script", "_law_k"] (defScope s_L_cell) := ⟨rfl, rfl, rfl, by decide +kernel, rfl, by decide +kernel, by decide +kernel⟩
theorem sc_L_made : FnScope ["_law_way", "_law_parts"] ["_law_way", "_law_parts"] (defScope s_L_made) := ⟨rfl, rfl, rfl, by decide +kernel, rfl, by decide +kernel, by decide +kernel⟩
theorem sc_L_other : FnScope ["_law_e"] ["_law_e"] (defScope s_L_other) := ⟨rfl, rfl, rfl, by decide +kernel, rfl, by decide +kernel, by decide +kernel⟩
theorem sc_L_by_class : FnScope ["_law_way", "_law_parts", "_law_e"] ["_law_way", "_law_parts"] (defScope s_L_by_class) := ⟨rfl, rfl, rfl, by decide +kernel, rfl, by decide +kernel, by decide +kernel⟩
theorem sc_L_by_base : FnScope ["_law_way", "_law_parts", "_law_e"] ["_law_way", "_law_parts"] (defScope s_L_by_base) := ⟨rfl, rfl, rfl, by decide +kernel, rfl, by decide +kernel, by decide +kernel⟩
theorem sc_L_refused : FnScope ["_law_way", "_law_parts"] ["_law_way", "_law_parts"] (defScope s_L_refused) := ⟨rfl, rfl, rfl, by decide +kernel, rfl, by decide +kernel, by decide +kernel⟩
theorem sc_L_taken : FnScope ["_law_way", "_law_parts", "_law_made_here"] ["_law_way", "_law_parts"] (defScope s_L_taken) := ⟨rfl, rfl, rfl, by decide +kernel, rfl, by decide +kernel, by decide +kernel⟩
theorem sc_L_within : FnScope ["_law_cell_here", "_law_low", "_law_high"] ["_law_cell_here", "_law_low", "_law_high"] (defScope s_L_within) := ⟨rfl, rfl, rfl, by decide +kernel, rfl, by decide +kernel, by decide +kernel⟩
theorem sc_L_odd : FnScope ["_law_cell_here", "_law_low", "_law_high", "_law_far", "_law_some_here"] ["_law_cell_here", "_law_low", "_law_high"] (defScope s_L_odd) := ⟨rfl, rfl, rfl, by decide +kernel, rfl, by decide +kernel, by decide +kernel⟩
theorem sc_L_numbers : FnScope ["_law_script", "_law_way", "_law_bounds", "_law_good", "_law_k", "_law_at", "_law_bad"] ["_law_script", "_law_way"] (defScope s_L_numbers) := ⟨rfl, rfl, rfl, by decide +kernel, rfl, by decide +kernel, by decide +kernel⟩
theorem sc_L_some : FnScope ["_law_script", "_law_many", "_law_found", "_law_k", "_law_cell_here", "_law_bundle"] ["_law_script", "_law_many"] (defScope s_L_some) := ⟨rfl, rfl, rfl, by decide +kernel, rfl, by decide +kernel, by decide +kernel⟩
theorem sc_L_lists : FnScope ["_law_script", "_law_way", "_law_good", "_law_cell_here", "_law_bad", "_law_at"] ["_law_script", "_law_way"] (defScope s_L_lists) := ⟨rfl, rfl, rfl, by decide +kernel, rfl, by decide +kernel, by decide +kernel⟩
theorem sc_L_deep : FnScope ["_law_script", "_law_way", "_law_cell_here", "_law_bid", "_law_k", "_law_row"] ["_law_script", "_law_way"] (defScope s_L_deep) := ⟨rfl, rfl, rfl, by decide +kernel, rfl, by decide +kernel, by decide +kernel⟩
theorem sc_L_full : FnScope ["_law_script", "_law_way", "_law_one", "_law_some_here", "_law_row", "_law_more"] ["_law_script", "_law_way"] (defScope s_L_full) := ⟨rfl, rfl, rfl, by decide +kernel, rfl, by decide +kernel, by decide +kernel⟩
theorem sc_law : FnScope ["_law_script", "_law_way", "_law_part"] ["_law_script"] (defScope s_law) := ⟨rfl, rfl, rfl, by decide +kernel, rfl, by decide +kernel, by decide +kernel⟩
theorem sc_M_Bid_worths : FnScope ["self", "many"] ["self", "many"] (defScope s_M_Bid_worths) := ⟨rfl, rfl, rfl, by decide +kernel, rfl, by decide +kernel, by decide +kernel⟩
theorem sc_M_Bid_depth : FnScope ["self"] ["self"] (defScope s_M_Bid_depth) := ⟨rfl, rfl, rfl, by decide +kernel, rfl, by decide +kernel, by decide +kernel⟩
theorem sc_M_Bid_tally : FnScope ["self"] ["self"] (defScope s_M_Bid_tally) := ⟨rfl, rfl, rfl, by decide +kernel, rfl, by decide +kernel, by decide +kernel⟩
theorem sc_M_Only___init__ : FnScope ["self", "bundle", "amount"] ["self", "bundle", "amount"] (defScope s_M_Only___init__) := ⟨rfl, rfl, rfl, by decide +kernel, rfl, by decide +kernel, by decide +kernel⟩
theorem sc_M_Only_worths : FnScope ["self", "many"] ["self", "many"] (defScope s_M_Only_worths) := ⟨rfl, rfl, rfl, by decide +kernel, rfl, by decide +kernel, by decide +kernel⟩
theorem sc_M_SoMany___init__ : FnScope ["self", "kind", "least", "amount"] ["self", "kind", "least", "amount"] (defScope s_M_SoMany___init__) := ⟨rfl, rfl, rfl, by decide +kernel, rfl, by decide +kernel, by decide +kernel⟩
theorem sc_M_SoMany_worths : FnScope ["self", "many"] ["self", "many"] (defScope s_M_SoMany_worths) := ⟨rfl, rfl, rfl, by decide +kernel, rfl, by decide +kernel, by decide +kernel⟩
theorem sc_M_UpTo___init__ : FnScope ["self", "kind", "most", "each"] ["self", "kind", "most", "each"] (defScope s_M_UpTo___init__) := ⟨rfl, rfl, rfl, by decide +kernel, rfl, by decide +kernel, by decide +kernel⟩
theorem sc_M_UpTo_worths : FnScope ["self", "many"] ["self", "many"] (defScope s_M_UpTo_worths) := ⟨rfl, rfl, rfl, by decide +kernel, rfl, by decide +kernel, by decide +kernel⟩
theorem sc_M_Several___init__ : FnScope ["self", "bids"] ["self", "bids"] (defScope s_M_Several___init__) := ⟨rfl, rfl, rfl, by decide +kernel, rfl, by decide +kernel, by decide +kernel⟩
theorem sc_M_Several_depth : FnScope ["self"] ["self"] (defScope s_M_Several_depth) := ⟨rfl, rfl, rfl, by decide +kernel, rfl, by decide +kernel, by decide +kernel⟩
theorem sc_M_Several_tally : FnScope ["self"] ["self"] (defScope s_M_Several_tally) := ⟨rfl, rfl, rfl, by decide +kernel, rfl, by decide +kernel, by decide +kernel⟩
theorem sc_M_AnyOf_worths : FnScope ["self", "many", "best", "bid"] ["self", "many"] (defScope s_M_AnyOf_worths) := ⟨rfl, rfl, rfl, by decide +kernel, rfl, by decide +kernel, by decide +kernel⟩
theorem sc_M_OneOf_worths : FnScope ["self", "many", "best", "bid"] ["self", "many"] (defScope s_M_OneOf_worths) := ⟨rfl, rfl, rfl, by decide +kernel, rfl, by decide +kernel, by decide +kernel⟩
/-- whole numbers from 0 on, as values -/
noncomputable def nv (k : Nat) : V := .int (k : Int)
noncomputable def sp_P_holds (_K : PySem.W.Frag) : Sp := fun vs H Q _ => ∃ a b : Nat, vs = [.int a, .int b] ∧ Q (.bl (decide (a &&& b = b))) H
noncomputable def sp_P_things_in (_K : PySem.W.Frag) : Sp := fun vs H Q _ => ∃ b : Nat, vs = [.int b] ∧ b < 64 ∧ ∀ l H', Same H H' → H l = none → H' l = some (.lst ((things b).map nv)) → Q (.ref l) H'
noncomputable def sp_P_size_of (_K : PySem.W.Frag) : Sp := fun vs H Q _ => ∃ b : Nat, vs = [.int b] ∧ b < 64 ∧ ∀ H', Same H H' → Q (nv (things b).length) H'
noncomputable def sp_P_is_whole (K : PySem.W.Frag) : Sp := fun vs H Q _ => ∃ v n, vs = [v] ∧ KindIs K H v n ∧ Q (.bl (decide (n = Nm.int))) H
noncomputable def sp_P_is_within (K : PySem.W.Frag) : Sp := fun vs H Q _ => ∃ v lo hi, vs = [v, .int lo, .int hi] ∧ ((∃ n, KindIs K H v n ∧ n ≠ .int ∧ Q (.bl false) H) ∨ (∃ i, v = .int i ∧ Q (.bl (decide (lo ≤ i) && decide (i ≤ hi))) H))
noncomputable def sp_P_check_bundle (_K : PySem.W.Frag) : Sp := fun vs H Q _ => ∃ i : Int, vs = [.int i] ∧ 1 ≤ i ∧ i ≤ 63 ∧ Q .non H
noncomputable def sp_P_check_so_many (_K : PySem.W.Frag) : Sp := fun vs H Q _ => ∃ i : Int, vs = [.int i] ∧ 1 ≤ i ∧ i ≤ 6 ∧ Q .non H
noncomputable def sp_P_check_amount (_K : PySem.W.Frag) : Sp := fun vs H Q _ => ∃ i : Int, vs = [.int i] ∧ 0 ≤ i ∧ i ≤ 10 ^ 9 ∧ Q .non H
noncomputable def sp_P_worths_of_nothing (_K : PySem.W.Frag) : Sp := fun vs H Q _ => ∃ n : Nat, vs = [nv n] ∧ n ≤ 6 ∧ ∀ l H', Same H H' → H l = none → H' l = some (.lst (((List.range (2 ^ n)).map fun _ => (0 : Int)).map V.int)) → Q (.ref l) H'
theorem pow6 {n : Nat} (h : n ≤ 6) : 2 ^ n ≤ 64 ∧ 0 < 2 ^ n := ⟨(Nat.pow_le_pow_right (n := 2) (by decide) h : 2 ^ n ≤ 2 ^ 6), Nat.two_pow_pos _⟩
theorem rng6 {n : Nat} (h : n ≤ 6) : -(2 ^ 62) ≤ ((2 ^ n : Nat) : Int) ∧ ((2 ^ n : Nat) : Int) < 2 ^ 62 := by
  have h1 := (pow6 h).1
  have h2 : ((2 ^ n : Nat) : Int) ≤ 64 := by exact_mod_cast h1
  exact ⟨Int.le_trans (by decide) (Int.natCast_nonneg (2 ^ n)), by omega⟩
noncomputable def cellN (ns : List Int) (k : Nat) : Int := if k < ns.length then ns.getD k 0 % 10 ^ 60 else if ns = [] then 7919 * (k : Int) + 5 else (ns.getD (k % ns.length) 0 % 1000003 + 613 * (k : Int)) * (48271 + 2 * (k : Int)) % 2147483647
noncomputable def sp_L_cell (K : PySem.W.Frag) : Sp := fun vs H Q _ => ∃ (a : Addr) (ns : List Int) (k : Nat), vs = [.ref a, .int k] ∧ SqL K H a (ns.map V.int) ∧ k ≤ 1000 ∧ ∀ H', Same H H' → Q (.int (cellN ns k)) H'
theorem put1 (f : Str) (y : V) : (putF f y []).length < 1000 := by
  have h := length_putF f y []
  rw [List.length_nil] at h; omega
theorem put2 (f g : Str) (y z : V) : (putF g z (putF f y [])).length < 1000 := by
  have h := length_putF f y []
  have h2 := length_putF g z (putF f y [])
  rw [List.length_nil] at h; omega
noncomputable abbrev fsOnly (b : Nat) (m : Int) : List (Str × V) := [("bundle", nv b), ("amount", .int m)]
noncomputable abbrev fsSome (k l : Nat) (m : Int) : List (Str × V) := [("kind", nv k), ("least", nv l), ("amount", .int m)]
noncomputable abbrev fsMost (k c : Nat) (m : Int) : List (Str × V) := [("kind", nv k), ("most", nv c), ("each", .int m)]
theorem and64 {x k : Nat} (h : k ≤ 63) : x &&& k < 64 := Nat.lt_of_le_of_lt Nat.and_le_right (by omega)
theorem mem_at {nos : List Str} {f : Str} (i : Nat) (h : nos[i]? = some f) : f ∈ nos := List.mem_of_getElem? h
noncomputable def sp_M_Only___init__ (_K : PySem.W.Frag) (c : Addr) : Sp := fun vs H Q _ => ∃ (a dx : Addr) (b : Nat) (m : Int), vs = [.ref a, nv b, .int m] ∧ 1 ≤ b ∧ b ≤ 63 ∧ AmtOk m ∧ H a = some (.ins c dx []) ∧ Q .non (upd H a (.ins c dx (fsOnly b m)))
noncomputable def sp_M_SoMany___init__ (_K : PySem.W.Frag) (c : Addr) : Sp := fun vs H Q _ => ∃ (a dx : Addr) (k l : Nat) (m : Int), vs = [.ref a, nv k, nv l, .int m] ∧ 1 ≤ k ∧ k ≤ 63 ∧ 1 ≤ l ∧ l ≤ 6 ∧ AmtOk m ∧ H a = some (.ins c dx []) ∧ Q .non (upd H a (.ins c dx (fsSome k l m)))
noncomputable def sp_M_UpTo___init__ (_K : PySem.W.Frag) (c : Addr) : Sp := fun vs H Q _ => ∃ (a dx : Addr) (k l : Nat) (m : Int), vs = [.ref a, nv k, nv l, .int m] ∧ 1 ≤ k ∧ k ≤ 63 ∧ 1 ≤ l ∧ l ≤ 6 ∧ AmtOk m ∧ H a = some (.ins c dx []) ∧ Q .non (upd H a (.ins c dx (fsMost k l m)))
/-- what worths tells -/
noncomputable def Tells (f : Form) (n : Nat) (H : Hp) (Q : VK) : Prop := ∀ l H', Same H H' → H l = Option.none → H' l = Option.some (.lst ((worthsF f n).map V.int)) → Q (.ref l) H'
noncomputable def sp_M_Bid_worths (_K : PySem.W.Frag) (c : Addr) : Sp := fun vs H Q _ => ∃ (a dx : Addr) (n : Nat), vs = [.ref a, nv n] ∧ n ≤ 6 ∧ H a = some (.ins c dx []) ∧ Tells .none n H Q
noncomputable def sp_M_Only_worths (_K : PySem.W.Frag) (c : Addr) : Sp := fun vs H Q _ => ∃ (a dx : Addr) (n b : Nat) (m : Int), vs = [.ref a, nv n] ∧ n ≤ 6 ∧ b ≤ 63 ∧ H a = some (.ins c dx (fsOnly b m)) ∧ Tells (.only b m) n H Q
noncomputable def sp_M_SoMany_worths (_K : PySem.W.Frag) (c : Addr) : Sp := fun vs H Q _ => ∃ (a dx : Addr) (n k l : Nat) (m : Int), vs = [.ref a, nv n] ∧ n ≤ 6 ∧ k ≤ 63 ∧ H a = some (.ins c dx (fsSome k l m)) ∧ Tells (.some k l m) n H Q
noncomputable def sp_M_UpTo_worths (_K : PySem.W.Frag) (c : Addr) : Sp := fun vs H Q _ => ∃ (a dx : Addr) (n k l : Nat) (m : Int), vs = [.ref a, nv n] ∧ n ≤ 6 ∧ k ≤ 63 ∧ H a = some (.ins c dx (fsMost k l m)) ∧ Tells (.most k l m) n H Q
/-- the bid at a -/
noncomputable def IsBid (c_Bid c_Only c_SoMany c_UpTo : Addr) (H : Hp) (a : Addr) : Form → Prop
  | .none => ∃ dx, H a = some (.ins c_Bid dx [])
  | .only b m => ∃ dx, H a = some (.ins c_Only dx (fsOnly b m))
  | .some k l m => ∃ dx, H a = some (.ins c_SoMany dx (fsSome k l m))
  | .most k c m => ∃ dx, H a = some (.ins c_UpTo dx (fsMost k c m))
noncomputable abbrev fsSev (l : Addr) : List (Str × V) := [("bids", .ref l)]
/-- the bid of the tree at a; the lists in it as A tells -/
noncomputable def IsTr (c_Bid c_Only c_SoMany c_UpTo c_AnyOf c_OneOf : Addr) (A : Addr → Prop) (H : Hp) : Nat → Addr → Tr → Prop
  | 0, _, _ => False
  | _ + 1, a, .leaf f => FormOk f ∧ IsBid c_Bid c_Only c_SoMany c_UpTo H a f
  | d + 1, a, .node any ts => ∃ (dx l : Addr) (bs : List Addr), H a = some (.ins (if any = true then c_AnyOf else c_OneOf) dx (fsSev l)) ∧ A l ∧ H l = some (.lst (bs.map V.ref)) ∧ All2 (IsTr c_Bid c_Only c_SoMany c_UpTo c_AnyOf c_OneOf A H d) bs ts
section
variable {c1 c2 c3 c4 c5 c6 : Addr} {A B : Addr → Prop} {H H' : Hp}
theorem IsTr.move (hI : ∀ a C dx fs, H a = some (.ins C dx fs) → H' a = some (.ins C dx fs)) (hL : ∀ l zs, A l → H l = some (.lst zs) → B l ∧ H' l = some (.lst zs)) :
    ∀ (d : Nat) {a : Addr} {t : Tr}, IsTr c1 c2 c3 c4 c5 c6 A H d a t → IsTr c1 c2 c3 c4 c5 c6 B H' d a t
  | 0, _, _, h => h
  | _ + 1, a, .leaf f, h => ⟨h.1, by cases f <;> obtain ⟨dx, e⟩ := h.2 <;> exact ⟨dx, hI _ _ _ _ e⟩⟩
  | d + 1, a, .node any ts, h => by
    obtain ⟨dx, l, bs, e1, e2, e3, e4⟩ := h
    exact ⟨dx, l, bs, hI _ _ _ _ e1, (hL l _ e2 e3).1, (hL l _ e2 e3).2, e4.imp fun x y _ z => IsTr.move hI hL d z⟩
theorem IsTr.same {d : Nat} {a : Addr} {t : Tr} (S : Same H H') (h : IsTr c1 c2 c3 c4 c5 c6 A H d a t) : IsTr c1 c2 c3 c4 c5 c6 A H' d a t := IsTr.move (fun a C dx fs e => S _ _ e) (fun l zs hA e => ⟨hA, S _ _ e⟩) d h
theorem IsTr.put {d : Nat} {a m : Addr} {t : Tr} {zs : List V} {o : HO} (h : IsTr c1 c2 c3 c4 c5 c6 A H d a t) (hm : H m = some (.lst zs)) (hA : ¬ A m) : IsTr c1 c2 c3 c4 c5 c6 A (upd H m o) d a t :=
  IsTr.move (fun a C dx fs e => by rw [upd_ne (fun q => by rw [q, hm] at e; cases e)]; exact e) (fun l zs hl e => ⟨hl, by rw [upd_ne (fun q => by subst q; exact hA hl)]; exact e⟩) d h
theorem IsTr.imp {d : Nat} {a : Addr} {t : Tr} (h : IsTr c1 c2 c3 c4 c5 c6 A H d a t) (f : ∀ l zs, A l → H l = some (.lst zs) → B l) : IsTr c1 c2 c3 c4 c5 c6 B H d a t := IsTr.move (fun a C dx fs e => e) (fun l zs hA e => ⟨f l zs hA e, e⟩) d h
theorem IsTr.to : ∀ (d e : Nat) {a : Addr} {t : Tr}, IsTr c1 c2 c3 c4 c5 c6 A H d a t → depthT t ≤ e → IsTr c1 c2 c3 c4 c5 c6 A H e a t
  | 0, _, _, _, h, _ => h.elim
  | d + 1, 0, a, t, h, le => by have := depth_pos t; omega
  | d + 1, e + 1, a, .leaf f, h, le => h
  | d + 1, e + 1, a, .node any ts, h, le => by
    obtain ⟨dx, l, bs, e1, e2, e3, e4⟩ := h
    have le' : 1 + depthL ts ≤ e + 1 := le
    exact ⟨dx, l, bs, e1, e2, e3, e4.imp fun x y hy z => IsTr.to d e z (by have := depth_mem hy; omega)⟩
end
noncomputable def sp1 : Sp := fun vs H Q _ => ∃ a : Addr, vs = [.ref a] ∧ Q (.int 1) H
noncomputable def spSev (val : Tr → Nat) (c_Bid c_Only c_SoMany c_UpTo c_Several c_AnyOf c_OneOf : Addr) (d : Nat) : Sp := fun vs H Q _ => ∃ (a : Addr) (any : Bool) (ts : List Tr) (A : Addr → Prop), vs = [.ref a] ∧ IsTr c_Bid c_Only c_SoMany c_UpTo c_AnyOf c_OneOf A H d a (.node any ts) ∧ tallyL ts ≤ 100 ∧ ∀ H', Same H H' → Q (nv (val (.node any ts))) H'
noncomputable def spOver (val : List Tr → Nat) (c_Bid c_Only c_SoMany c_UpTo c_Several c_AnyOf c_OneOf : Addr) (d : Nat) : Sp := fun vs H Q _ => ∃ (l : Addr) (bs : List Addr) (ts : List Tr) (A : Addr → Prop), vs = [.ref l] ∧ H l = some (.lst (bs.map V.ref)) ∧ All2 (IsTr c_Bid c_Only c_SoMany c_UpTo c_AnyOf c_OneOf A H d) bs ts ∧ tallyL ts ≤ 100 ∧ ∀ H', Same H H' → Q (nv (1 + val ts)) H'
noncomputable def T1 (val : Tr → Nat) (c_Bid c_Only c_SoMany c_UpTo c_Several c_AnyOf c_OneOf : Addr) (d : Nat) : Addr → Sp → Prop := fun C sp => ((C = c_Bid ∨ C = c_Only ∨ C = c_SoMany ∨ C = c_UpTo) ∧ sp = sp1) ∨ ((C = c_AnyOf ∨ C = c_OneOf) ∧ sp = spSev val c_Bid c_Only c_SoMany c_UpTo c_Several c_AnyOf c_OneOf d)
noncomputable def sp_M_Bid_depth (_K : PySem.W.Frag) (_c : Addr) : Sp := sp1
noncomputable def sp_M_Bid_tally (_K : PySem.W.Frag) (_c : Addr) : Sp := sp1
noncomputable def sp_P_depth_over (_K : PySem.W.Frag) (c_Bid c_Only c_SoMany c_UpTo c_Several c_AnyOf c_OneOf : Addr) : Sp := spOver depthL c_Bid c_Only c_SoMany c_UpTo c_Several c_AnyOf c_OneOf 4
noncomputable def sp_P_tally_over (_K : PySem.W.Frag) (c_Bid c_Only c_SoMany c_UpTo c_Several c_AnyOf c_OneOf : Addr) : Sp := spOver tallyL c_Bid c_Only c_SoMany c_UpTo c_Several c_AnyOf c_OneOf 4
noncomputable def sp_P_check_bids (_K : PySem.W.Frag) (c_Bid c_Only c_SoMany c_UpTo c_Several c_AnyOf c_OneOf : Addr) : Sp := fun vs H Q _ => ∃ (l : Addr) (bs : List Addr) (ts : List Tr) (A : Addr → Prop) (d : Nat), vs = [.ref l] ∧ H l = some (.lst (bs.map V.ref)) ∧ All2 (IsTr c_Bid c_Only c_SoMany c_UpTo c_AnyOf c_OneOf A H d) bs ts ∧ depthL ts ≤ 3 ∧ tallyL ts ≤ 23 ∧ ∀ H', Same H H' → Q .non H'
noncomputable def sp_M_Several___init__ (_K : PySem.W.Frag) (c c_Bid c_Only c_SoMany c_UpTo c_Several c_AnyOf c_OneOf : Addr) : Sp := fun vs H Q _ => ∃ (a dx l : Addr) (bs : List Addr) (ts : List Tr) (A : Addr → Prop) (d : Nat), vs = [.ref a, .ref l] ∧ H a = some (.ins c dx []) ∧ (c = c_AnyOf ∨ c = c_OneOf) ∧ H l = some (.lst (bs.map V.ref)) ∧ All2 (IsTr c_Bid c_Only c_SoMany c_UpTo c_AnyOf c_OneOf A H d) bs ts ∧ depthL ts ≤ 3 ∧ tallyL ts ≤ 23 ∧ ∀ H1 lb, Same H H1 → H1 lb = none → Q .non (upd (upd H1 lb (.lst (bs.map V.ref))) a (.ins c dx (fsSev lb)))
noncomputable def partsTo (ks : List Nat) : List Nat := ks.foldl (fun ps k => ps ++ ps.map (· ||| 2 ^ k)) [0]
noncomputable def partsOf (b : Nat) : List Nat := partsTo (things b)
theorem partsTo_snoc (ks : List Nat) (k : Nat) : partsTo (ks ++ [k]) = partsTo ks ++ (partsTo ks).map (· ||| 2 ^ k) := by
  unfold partsTo; rw [List.foldl_append]; rfl
theorem partsTo_len (ks : List Nat) : (partsTo ks).length = 2 ^ ks.length := by
  unfold partsTo
  have key : ∀ (ks ps : List Nat), (ks.foldl (fun ps k => ps ++ ps.map (· ||| 2 ^ k)) ps).length = ps.length * 2 ^ ks.length := by
    intro ks
    induction ks with
    | nil => intro ps; simp
    | cons k ks ih =>
      intro ps
      rw [List.foldl_cons, ih, List.length_append, List.length_map, List.length_cons, Nat.pow_succ, ← Nat.two_mul, Nat.mul_comm 2, Nat.mul_assoc, Nat.mul_comm 2]
  rw [key]; simp
noncomputable def sp_P_parts_of (_K : PySem.W.Frag) : Sp := fun vs H Q _ => ∃ b : Nat, vs = [.int b] ∧ b < 64 ∧ ∀ l H', Same H H' → H l = none → H' l = some (.lst ((partsOf b).map nv)) → Q (.ref l) H'
/-- what worths tells -/
noncomputable def TellsT (g : Nat → Int) (n : Nat) (H : Hp) (Q : VK) : Prop := ∀ l H', Same H H' → H l = none → H' l = some (.lst ((tab g n).map V.int)) → Q (.ref l) H'
noncomputable def sp_P_best_share (K : PySem.W.Frag) : Sp := fun vs H Q _ => ∃ (a b : Addr) (g h : Nat → Int) (n x : Nat), vs = [.ref a, .ref b, nv x] ∧ n ≤ 6 ∧ x < 2 ^ n ∧ Good g ∧ Good h ∧ SqL K H a ((tab g n).map V.int) ∧ SqL K H b ((tab h n).map V.int) ∧ ∀ H', Same H H' → Q (.int (conv g h x)) H'
noncomputable def spShare (K : PySem.W.Frag) (op : (Nat → Int) → (Nat → Int) → Nat → Int) : Sp := fun vs H Q _ => ∃ (a b : Addr) (g h : Nat → Int) (n : Nat), vs = [.ref a, .ref b] ∧ n ≤ 6 ∧ Good g ∧ Good h ∧ SqL K H a ((tab g n).map V.int) ∧ SqL K H b ((tab h n).map V.int) ∧ TellsT (op g h) n H Q
noncomputable def sp_P_shared_out (K : PySem.W.Frag) : Sp := spShare K conv
noncomputable def sp_P_greater_of (K : PySem.W.Frag) : Sp := spShare K mx
noncomputable def spW (any : Bool) (c_Bid c_Only c_SoMany c_UpTo c_Several c_AnyOf c_OneOf : Addr) (d : Nat) : Sp := fun vs H Q _ => ∃ (a : Addr) (n : Nat) (ts : List Tr) (A : Addr → Prop), vs = [.ref a, nv n] ∧ n ≤ 6 ∧ IsTr c_Bid c_Only c_SoMany c_UpTo c_AnyOf c_OneOf A H d a (.node any ts) ∧ TellsT (worthT (.node any ts)) n H Q
noncomputable def TW (K : PySem.W.Frag) (c_Bid c_Only c_SoMany c_UpTo c_Several c_AnyOf c_OneOf : Addr) (d : Nat) : Addr → Sp → Prop := fun C sp => (C = c_Bid ∧ sp = sp_M_Bid_worths K c_Bid) ∨ (C = c_Only ∧ sp = sp_M_Only_worths K c_Only) ∨ (C = c_SoMany ∧ sp = sp_M_SoMany_worths K c_SoMany) ∨ (C = c_UpTo ∧ sp = sp_M_UpTo_worths K c_UpTo) ∨ (C = c_AnyOf ∧ sp = spW true c_Bid c_Only c_SoMany c_UpTo c_Several c_AnyOf c_OneOf d) ∨ (C = c_OneOf ∧ sp = spW false c_Bid c_Only c_SoMany c_UpTo c_Several c_AnyOf c_OneOf d)
noncomputable def T_worths (K : PySem.W.Frag) (c_Bid c_Only c_SoMany c_UpTo c_Several c_AnyOf c_OneOf : Addr) : Addr → Sp → Prop := TW K c_Bid c_Only c_SoMany c_UpTo c_Several c_AnyOf c_OneOf 5
theorem parts_subs : ∀ b < 64, partsOf b = subsOf b := by decide +kernel
theorem subs_len : ∀ b < 64, 0 < (subsOf b).length ∧ (subsOf b).length ≤ 64 := by decide +kernel
theorem IsTr.ok {c1 c2 c3 c4 c5 c6 : Addr} {A : Addr → Prop} {H : Hp} : ∀ (d : Nat) {a : Addr} {t : Tr}, IsTr c1 c2 c3 c4 c5 c6 A H d a t → okT t
  | 0, _, _, h => h.elim
  | _ + 1, a, .leaf f, h => okT_leaf.mpr h.1
  | d + 1, a, .node any ts, h => by
    obtain ⟨dx, l, bs, e1, e2, e3, e4⟩ := h
    exact okT_node.mpr (okL_of fun t ht => by obtain ⟨x, hx⟩ := e4.mem ht; exact IsTr.ok d hx)
abbrev bmV : List Value := [.type "ValueError", .type "Exception", .type "BaseException", .type "object"]
theorem boot_ValueError : bootBuiltins "ValueError" = some (.type "ValueError") := PyProof.Rows.Boot.«ValueError»
/-- the classes of the text -/
structure ClE (K : PySem.W.Frag) (mg : Str → Option Value) (C : Addr) : Prop where
  self : mg "NoBid" = some (.ref C)
  own : PySem.W.excIn K C bmV "ValueError.__new__" = true
  exk : ExK K C
  val : PySem.W.kitOne K (.ref C) (.type "ValueError") = some true
  hall : ∃ D, mg "HallError" = some (.ref D) ∧ ExD K D ∧ PySem.W.mroIn K C (.ref D) = some true
  nNoBundle : ∃ D, mg "NoBundle" = some (.ref D) ∧ PySem.W.kitOne K (.ref C) (.ref D) = some false
  nNoName : ∃ D, mg "NoName" = some (.ref D) ∧ PySem.W.kitOne K (.ref C) (.ref D) = some false
  nNoNumber : ∃ D, mg "NoNumber" = some (.ref D) ∧ PySem.W.kitOne K (.ref C) (.ref D) = some false
  nNoPaper : ∃ D, mg "NoPaper" = some (.ref D) ∧ PySem.W.kitOne K (.ref C) (.ref D) = some false
  nNoRow : ∃ D, mg "NoRow" = some (.ref D) ∧ PySem.W.kitOne K (.ref C) (.ref D) = some false
  nBadStep : ∃ D, mg "BadStep" = some (.ref D) ∧ PySem.W.kitOne K (.ref C) (.ref D) = some false
  nNoText : ∃ D, mg "NoText" = some (.ref D) ∧ PySem.W.kitOne K (.ref C) (.ref D) = some false
  nTooLate : ∃ D, mg "TooLate" = some (.ref D) ∧ PySem.W.kitOne K (.ref C) (.ref D) = some false
  nTooMany : ∃ D, mg "TooMany" = some (.ref D) ∧ PySem.W.kitOne K (.ref C) (.ref D) = some false
  halk : ∃ D, mg "HallError" = some (.ref D) ∧ PySem.W.kitOne K (.ref C) (.ref D) = some true
  exd : ExD K C
  slf : PySem.W.mroIn K C (.ref C) = some true
theorem kit_self {K : PySem.W.Frag} {C : Addr} : PySem.W.kitOne K (.ref C) (.ref C) = some true := by unfold PySem.W.kitOne; rw [if_pos (beq_self_eq_true _)]
theorem ty_same {K : PySem.W.Frag} {H H' : Hp} {v : V} {n : Nm} (S : Same H H') (h : KindIs K H v n) : KindIs K H' v n := by
  unfold KindIs at *
  generalize hu : Value.type (Nm.s n) = u at h ⊢
  cases h with
  | non => exact .non
  | bl x => exact .bl x
  | int i => exact .int i
  | str x => exact .str x
  | flt x => exact .flt x
  | lst e => exact .lst (S _ _ e)
  | frz e => exact .frz (S _ _ e)
  | tup e => exact .tup (S _ _ e)
  | dK e => exact .dK (S _ _ e)
  | dT e => exact .dT (S _ _ e)
  | ins e a b c d f => exact .ins (S _ _ e) a b c d f
theorem TyOf.same {K : PySem.W.Frag} {H H' : Hp} {v : V} {u : Value} (S : Same H H') (h : TyOf K H v u) : TyOf K H' v u := by
  cases h with
  | non => exact .non
  | bl x => exact .bl x
  | int i => exact .int i
  | str x => exact .str x
  | flt x => exact .flt x
  | lst e => exact .lst (S _ _ e)
  | frz e => exact .frz (S _ _ e)
  | tup e => exact .tup (S _ _ e)
  | dK e => exact .dK (S _ _ e)
  | dT e => exact .dT (S _ _ e)
  | ins e a b c d f => exact .ins (S _ _ e) a b c d f
/-- no whole number within the bounds -/
noncomputable def Bad (K : PySem.W.Frag) (lo hi : Int) (H : Hp) (v : V) : Prop := (∃ n, KindIs K H v n ∧ n ≠ .int) ∨ (∃ i, v = .int i ∧ (i < lo ∨ hi < i))
noncomputable def Fine (lo hi : Int) (v : V) : Prop := ∃ i, v = .int i ∧ lo ≤ i ∧ i ≤ hi
theorem Bad.same {K : PySem.W.Frag} {lo hi : Int} {H H' : Hp} {v : V} (S : Same H H') (h : Bad K lo hi H v) : Bad K lo hi H' v := by
  rcases h with ⟨n, h1, h2⟩ | h
  · exact .inl ⟨n, ty_same S h1, h2⟩
  · exact .inr h
noncomputable def spChkE (K : PySem.W.Frag) (C : Addr) (lo hi : Int) : Sp := fun vs H Q E => ∃ v, vs = [v] ∧ ((Fine lo hi v ∧ Q .non H) ∨ (Bad K lo hi H v ∧ Throws C H E))
noncomputable def spE_P_check_bundle (K : PySem.W.Frag) (C : Addr) : Sp := spChkE K C 1 63
noncomputable def spE_P_check_so_many (K : PySem.W.Frag) (C : Addr) : Sp := spChkE K C 1 6
noncomputable def spE_P_check_amount (K : PySem.W.Frag) (C : Addr) : Sp := spChkE K C 0 (10 ^ 9)
noncomputable def BadOnly (K : PySem.W.Frag) (H : Hp) (u1 u2 : V) : Prop := Bad K 1 63 H u1 ∨ (Fine 1 63 u1 ∧ Bad K 0 (10 ^ 9) H u2)
noncomputable def Bad3 (K : PySem.W.Frag) (H : Hp) (u1 u2 u3 : V) : Prop := Bad K 1 63 H u1 ∨ (Fine 1 63 u1 ∧ (Bad K 1 6 H u2 ∨ (Fine 1 6 u2 ∧ Bad K 0 (10 ^ 9) H u3)))
noncomputable def spE_M_Only___init__ (K : PySem.W.Frag) (C : Addr) : Sp := fun vs H Q E => ∃ v u1 u2, vs = [v, u1, u2] ∧ BadOnly K H u1 u2 ∧ Throws C H E
noncomputable def spE_M_SoMany___init__ (K : PySem.W.Frag) (C : Addr) : Sp := fun vs H Q E => ∃ v u1 u2 u3, vs = [v, u1, u2, u3] ∧ Bad3 K H u1 u2 u3 ∧ Throws C H E
noncomputable def spE_M_UpTo___init__ (K : PySem.W.Frag) (C : Addr) : Sp := spE_M_SoMany___init__ K C
/-- what no several bids can be made of -/
noncomputable def BadBids (K : PySem.W.Frag) (c_Bid c_Only c_SoMany c_UpTo c_Several c_AnyOf c_OneOf : Addr) (H : Hp) (v : V) : Prop :=
  (∃ t, TyOf K H v t ∧ PySem.W.kitOne K t (.type "list") = some false)
  ∨ (∃ (l : Addr) (xs : List V) (j : Nat) (y : V) (ty : Value), v = .ref l ∧ H l = some (.lst xs) ∧ xs[j]? = some y ∧ TyOf K H y ty ∧ PySem.W.kitOne K ty (.ref c_Bid) = some false ∧ ∀ i z, i < j → xs[i]? = some z → ∃ t', TyOf K H z t' ∧ PySem.W.kitOne K t' (.ref c_Bid) = some true)
  ∨ (∃ (l : Addr) (bs : List Addr) (ts : List Tr) (A : Addr → Prop), v = .ref l ∧ H l = some (.lst (bs.map V.ref)) ∧ All2 (IsTr c_Bid c_Only c_SoMany c_UpTo c_AnyOf c_OneOf A H 4) bs ts ∧ tallyL ts ≤ 100 ∧ (4 ≤ depthL ts ∨ (depthL ts ≤ 3 ∧ 24 ≤ tallyL ts)))
theorem BadBids.same {K : PySem.W.Frag} {c_Bid c_Only c_SoMany c_UpTo c_Several c_AnyOf c_OneOf : Addr} {H H' : Hp} {v : V} (S : Same H H') (h : BadBids K c_Bid c_Only c_SoMany c_UpTo c_Several c_AnyOf c_OneOf H v) : BadBids K c_Bid c_Only c_SoMany c_UpTo c_Several c_AnyOf c_OneOf H' v := by
  rcases h with ⟨t, h1, h2⟩ | ⟨l, xs, j, y, ty, h1, h2, h3, h4, h5, h6⟩ | ⟨l, bs, ts, A, h1, h2, h3, h4⟩
  · exact .inl ⟨t, TyOf.same S h1, h2⟩
  · exact .inr (.inl ⟨l, xs, j, y, ty, h1, S _ _ h2, h3, TyOf.same S h4, h5, fun i z hi hz => let ⟨t', a, b⟩ := h6 i z hi hz; ⟨t', TyOf.same S a, b⟩⟩)
  · exact .inr (.inr ⟨l, bs, ts, A, h1, S _ _ h2, h3.imp fun x y _ z => z.same S, h4⟩)
noncomputable def spE_P_check_bids (K : PySem.W.Frag) (C c_Bid c_Only c_SoMany c_UpTo c_Several c_AnyOf c_OneOf : Addr) : Sp := fun vs H Q E => ∃ v, vs = [v] ∧ BadBids K c_Bid c_Only c_SoMany c_UpTo c_Several c_AnyOf c_OneOf H v ∧ Throws C H E
noncomputable def spE_M_Several___init__ (K : PySem.W.Frag) (C c_Bid c_Only c_SoMany c_UpTo c_Several c_AnyOf c_OneOf : Addr) : Sp := fun vs H Q E => ∃ w v, vs = [w, v] ∧ BadBids K c_Bid c_Only c_SoMany c_UpTo c_Several c_AnyOf c_OneOf H v ∧ Throws C H E
/-- what the parts make -/
noncomputable def Made (c_Bid c_Only c_SoMany c_UpTo c_Several c_AnyOf c_OneOf : Addr) (H : Hp) (way : Nat) (us : List V) (t : Tr) : Prop :=
  (way = 0 ∧ ∃ (b : Nat) (m : Int), us = [nv b, .int m] ∧ FormOk (.only b m) ∧ t = .leaf (.only b m))
  ∨ (way = 1 ∧ ∃ (k l : Nat) (m : Int), us = [nv k, nv l, .int m] ∧ FormOk (.some k l m) ∧ t = .leaf (.some k l m))
  ∨ (way = 2 ∧ ∃ (k l : Nat) (m : Int), us = [nv k, nv l, .int m] ∧ FormOk (.most k l m) ∧ t = .leaf (.most k l m))
  ∨ ((way = 3 ∨ way = 4) ∧ ∃ (l : Addr) (bs : List Addr) (ts : List Tr), us = [.ref l] ∧ H l = some (.lst (bs.map V.ref)) ∧ All2 (IsTr c_Bid c_Only c_SoMany c_UpTo c_AnyOf c_OneOf (fun _ => True) H 3) bs ts ∧ tallyL ts ≤ 23 ∧ t = .node (decide (way = 3)) ts)
noncomputable def BadMade (K : PySem.W.Frag) (c_Bid c_Only c_SoMany c_UpTo c_Several c_AnyOf c_OneOf : Addr) (H : Hp) (way : Nat) (us : List V) : Prop :=
  (way = 0 ∧ ∃ u1 u2, us = [u1, u2] ∧ BadOnly K H u1 u2)
  ∨ ((way = 1 ∨ way = 2) ∧ ∃ u1 u2 u3, us = [u1, u2, u3] ∧ Bad3 K H u1 u2 u3)
  ∨ ((way = 3 ∨ way = 4) ∧ ∃ u, us = [u] ∧ BadBids K c_Bid c_Only c_SoMany c_UpTo c_Several c_AnyOf c_OneOf H u)
theorem BadOnly.same {K : PySem.W.Frag} {H H' : Hp} {u1 u2 : V} (S : Same H H') (h : BadOnly K H u1 u2) : BadOnly K H' u1 u2 := h.imp (Bad.same S) fun ⟨a, b⟩ => ⟨a, b.same S⟩
theorem Bad3.same {K : PySem.W.Frag} {H H' : Hp} {u1 u2 u3 : V} (S : Same H H') (h : Bad3 K H u1 u2 u3) : Bad3 K H' u1 u2 u3 := h.imp (Bad.same S) fun ⟨a, b⟩ => ⟨a, b.imp (Bad.same S) fun ⟨c, d⟩ => ⟨c, d.same S⟩⟩
theorem Made.same {c_Bid c_Only c_SoMany c_UpTo c_Several c_AnyOf c_OneOf : Addr} {H H' : Hp} {way : Nat} {us : List V} {t : Tr} (S : Same H H') (h : Made c_Bid c_Only c_SoMany c_UpTo c_Several c_AnyOf c_OneOf H way us t) : Made c_Bid c_Only c_SoMany c_UpTo c_Several c_AnyOf c_OneOf H' way us t := by
  rcases h with h | h | h | ⟨hw, l, bs, ts, e1, e2, e3, e4⟩
  · exact .inl h
  · exact .inr (.inl h)
  · exact .inr (.inr (.inl h))
  · exact .inr (.inr (.inr ⟨hw, l, bs, ts, e1, S _ _ e2, e3.imp fun x y _ z => z.same S, e4⟩))
theorem BadMade.same {K : PySem.W.Frag} {c_Bid c_Only c_SoMany c_UpTo c_Several c_AnyOf c_OneOf : Addr} {H H' : Hp} {way : Nat} {us : List V} (S : Same H H') (h : BadMade K c_Bid c_Only c_SoMany c_UpTo c_Several c_AnyOf c_OneOf H way us) : BadMade K c_Bid c_Only c_SoMany c_UpTo c_Several c_AnyOf c_OneOf H' way us := by
  rcases h with ⟨h1, u1, u2, h2, h3⟩ | ⟨h1, u1, u2, u3, h2, h3⟩ | ⟨h1, u, h2, h3⟩
  · exact .inl ⟨h1, u1, u2, h2, h3.same S⟩
  · exact .inr (.inl ⟨h1, u1, u2, u3, h2, h3.same S⟩)
  · exact .inr (.inr ⟨h1, u, h2, h3.same S⟩)
noncomputable def sp_L_made (_K : PySem.W.Frag) (c_Bid c_Only c_SoMany c_UpTo c_Several c_AnyOf c_OneOf : Addr) : Sp := fun vs H Q _ => ∃ (way : Nat) (lp : Addr) (us : List V) (t : Tr), vs = [nv way, .ref lp] ∧ H lp = some (.lst us) ∧ Made c_Bid c_Only c_SoMany c_UpTo c_Several c_AnyOf c_OneOf H way us t ∧ ∀ x H', Same H H' → IsTr c_Bid c_Only c_SoMany c_UpTo c_AnyOf c_OneOf (fun _ => True) H' 4 x t → Q (.ref x) H'
noncomputable def spE_L_made (K : PySem.W.Frag) (C c_Bid c_Only c_SoMany c_UpTo c_Several c_AnyOf c_OneOf : Addr) : Sp := fun vs H Q E => ∃ (way : Nat) (lp : Addr) (us : List V), vs = [nv way, .ref lp] ∧ H lp = some (.lst us) ∧ BadMade K c_Bid c_Only c_SoMany c_UpTo c_Several c_AnyOf c_OneOf H way us ∧ Throws C H E
noncomputable def spRef (K : PySem.W.Frag) (c_Bid c_Only c_SoMany c_UpTo c_Several c_AnyOf c_OneOf : Addr) : Sp := fun vs H Q _ => ∃ (way : Nat) (lp : Addr) (us : List V), vs = [nv way, .ref lp] ∧ H lp = some (.lst us) ∧ BadMade K c_Bid c_Only c_SoMany c_UpTo c_Several c_AnyOf c_OneOf H way us ∧ ∀ H', Same H H' → Q (.bl true) H'
noncomputable def sp_L_by_class (K : PySem.W.Frag) (c_Bid c_Only c_SoMany c_UpTo c_Several c_AnyOf c_OneOf : Addr) : Sp := spRef K c_Bid c_Only c_SoMany c_UpTo c_Several c_AnyOf c_OneOf
noncomputable def sp_L_by_base (K : PySem.W.Frag) (c_Bid c_Only c_SoMany c_UpTo c_Several c_AnyOf c_OneOf : Addr) : Sp := spRef K c_Bid c_Only c_SoMany c_UpTo c_Several c_AnyOf c_OneOf
noncomputable def sp_L_refused (K : PySem.W.Frag) (c_Bid c_Only c_SoMany c_UpTo c_Several c_AnyOf c_OneOf : Addr) : Sp := spRef K c_Bid c_Only c_SoMany c_UpTo c_Several c_AnyOf c_OneOf
noncomputable def sp_L_taken (_K : PySem.W.Frag) (c_Bid c_Only c_SoMany c_UpTo c_Several c_AnyOf c_OneOf : Addr) : Sp := fun vs H Q _ => ∃ (way : Nat) (lp : Addr) (us : List V) (t : Tr), vs = [nv way, .ref lp] ∧ H lp = some (.lst us) ∧ Made c_Bid c_Only c_SoMany c_UpTo c_Several c_AnyOf c_OneOf H way us t ∧ ∀ H', Same H H' → Q (.bl true) H'
noncomputable def sp_L_other (_K : PySem.W.Frag) (C : Addr) : Sp := fun vs H Q _ => ∃ a, vs = [.ref a] ∧ H a = some (excO a C) ∧ ∀ H', Same H H' → Q (.bl false) H'
noncomputable def sp_L_within (_K : PySem.W.Frag) : Sp := fun vs H Q _ => ∃ c lo hi : Int, vs = [.int c, .int lo, .int hi] ∧ lo ≤ hi ∧ ∀ i, lo ≤ i → i ≤ hi → Q (.int i) H
noncomputable def sp_L_odd (K : PySem.W.Frag) : Sp := fun vs H Q _ => ∃ c lo hi : Int, vs = [.int c, .int lo, .int hi] ∧ lo ≤ hi ∧ ∀ v H', Same H H' → Bad K lo hi H' v → Q v H'
noncomputable def spScript (K : PySem.W.Frag) (p : Nat → Prop) : Sp := fun vs H Q _ => ∃ (a : Addr) (ns : List Int) (way : Nat), vs = [.ref a, nv way] ∧ SqL K H a (ns.map V.int) ∧ p way ∧ ∀ H', Q (.bl true) H'
noncomputable def sp_L_numbers (K : PySem.W.Frag) : Sp := spScript K fun w => w < 3
noncomputable def sp_L_lists (K : PySem.W.Frag) : Sp := spScript K fun w => w = 3 ∨ w = 4
noncomputable def sp_L_deep (K : PySem.W.Frag) : Sp := spScript K fun w => w = 3 ∨ w = 4
noncomputable def sp_L_full (K : PySem.W.Frag) : Sp := spScript K fun w => w = 3 ∨ w = 4
noncomputable def sp_L_some (K : PySem.W.Frag) (c_Bid c_Only c_SoMany c_UpTo c_Several c_AnyOf c_OneOf : Addr) : Sp := fun vs H Q _ => ∃ (a : Addr) (ns : List Int) (m : Nat), vs = [.ref a, nv m] ∧ SqL K H a (ns.map V.int) ∧ m ≤ 24 ∧ ∀ l H' (bs : List Addr) (ts : List Tr), Same H H' → H l = none → H' l = some (.lst (bs.map V.ref)) → ts.length = m → All2 (IsTr c_Bid c_Only c_SoMany c_UpTo c_AnyOf c_OneOf (fun _ => False) H' 1) bs ts → Q (.ref l) H'
noncomputable def sp_law (K : PySem.W.Frag) : Sp := fun vs H Q _ => ∃ (a : Addr) (ns : List Int), vs = [.ref a] ∧ SqL K H a (ns.map V.int) ∧ ns.length ≤ 63 ∧ ∀ H', Q (.bl true) H'
section
variable {P : Program} {w : World} {K : PySem.W.Frag} {mg : Str → Option Value} {base : Heap}
variable {c_Bid c_Only c_SoMany c_UpTo c_Several c_AnyOf c_OneOf C : Addr}
theorem ok_P_holds {f : Addr} {fd : FuncData} (F : Fun K "holds" "holds" s_P_holds f fd) (m_self : mg "holds" = some (.ref f)) : DefOk P w K mg base 1 "holds" ["one", "other"] [] (sp_P_holds K) := by
  refine F.def_okQ m_self (bnd2 F fun _ _ _ _ _ _ _ _ => rfl) sc_P_holds (fun vs H Q E h => ?_) (fun cdv A outer s H vs Q E hr h => ?_)
  · obtain ⟨a, b, rfl, _⟩ := h; rfl
  obtain ⟨a, b, rfl, q⟩ := h
  refine ⟨_, (R.pss_one (R.ps_ret (R.pe_cmpR op_eq (R.pe_op op_andN (R.pv 0) (R.pv 1)) (R.pv 1) (nomark _)))), ?_⟩
  refine ⟨_, rfl, _, rfl, a, b, rfl, rfl, _, rfl, rfl, ?_⟩
  rw [int_eq_nat]; exact q
theorem ok_P_things_in {f : Addr} {fd : FuncData} (F : Fun K "things_in" "things_in" s_P_things_in f fd) (m_self : mg "things_in" = some (.ref f)) (m_range : mg "range" = none)
    (D_P_holds : DefOk P w K mg base 1 "holds" ["one", "other"] [] (sp_P_holds K)) : DefOk P w K mg base 2 "things_in" ["bundle"] [] (sp_P_things_in K) := by
  refine F.def_okQ m_self (bnd1 F fun _ _ _ _ _ _ _ => rfl) sc_P_things_in (fun vs H Q E h => ?_) (fun cdv A outer s H vs Q E hr h => ?_)
  · obtain ⟨b, rfl, _⟩ := h; rfl
  obtain ⟨b, rfl, hb, q⟩ := h
  refine ⟨_, (R.pss_one (R.ps_ret (R.pe_comp (defScope s_P_things_in) ["bundle"] ["number"] ["bundle"] [0] rfl rfl rfl ⟨s.heap.objs.size + 1, rfl⟩ rfl rfl (by decide +kernel) (R.pi_range1 rfl m_range (R.pa_c (R.pe_bits (R.pv 0)) R.pa_nil)) (fun C s2 H2 fp => (R.pg_name (i := 0) (show List.Nodup (["number", "bundle"] : List Str) from by decide +kernel) rfl (Or.inl rfl))) (fun C s2 H2 fp => (R.pf_one (R.pt_val (R.pe_callD D_P_holds hr (by first | decide | omega) rfl (R.pa_c (R.pv 1) (R.pa_c (R.pe_op op_shlN R.pe_int (R.pv 0)) R.pa_nil)))))) (fun C s2 H2 fp => (R.pv 0))))), ?_⟩
  have b6 := bits64 hb
  refine ⟨_, rfl, _, rfl, _, rfl, by omega, by omega, fun l hl => ?_⟩
  rw [Int.toNat_natCast]
  refine comp_rng_map (fun k => decide (b &&& 2 ^ k = 2 ^ k)) nv (by omega) hl ?_ ?_ ?_
  · intro k H1 hk s1 C hC
    rw [Int.zero_add]
    exact ⟨_, rfl, _, rfl, k, rfl, rfl, by omega, b, 2 ^ k, rfl, _, rfl, hC _ (Same.refl _)⟩
  · intro k H1 hk _ s1 C hC
    rw [Int.zero_add]
    exact ⟨_, rfl, hC _ (Same.refl _)⟩
  · intro H1 s1 e1
    rw [bits_nat, things_comp b hb] at e1
    exact q l H1 s1 hl e1
theorem ok_P_size_of {f : Addr} {fd : FuncData} (F : Fun K "size_of" "size_of" s_P_size_of f fd) (m_self : mg "size_of" = some (.ref f)) (m_len : mg "len" = none)
    (D_P_things_in : DefOk P w K mg base 2 "things_in" ["bundle"] [] (sp_P_things_in K)) : DefOk P w K mg base 3 "size_of" ["bundle"] [] (sp_P_size_of K) := by
  refine F.def_okQ m_self (bnd1 F fun _ _ _ _ _ _ _ => rfl) sc_P_size_of (fun vs H Q E h => ?_) (fun cdv A outer s H vs Q E hr h => ?_)
  · obtain ⟨b, rfl, _⟩ := h; rfl
  obtain ⟨b, rfl, hb, q⟩ := h
  refine ⟨_, (R.pss_one (R.ps_ret (R.pe_cB call_len_seq rfl m_len PySem.boot_len (R.pa_c (R.pe_callD D_P_things_in hr (by first | decide | omega) rfl (R.pa_c (R.pv 0) R.pa_nil)) R.pa_nil)))), ?_⟩
  refine ⟨_, rfl, b, rfl, hb, fun l H1 s1 _ e1 => ⟨l, _, rfl, .inl (SqL.of e1), ?_⟩⟩
  rw [List.length_map]
  exact q _ s1
theorem ok_P_parts_of {f : Addr} {fd : FuncData} (F : Fun K "parts_of" "parts_of" s_P_parts_of f fd) (m_self : mg "parts_of" = some (.ref f))
    (D_P_things_in : DefOk P w K mg base 2 "things_in" ["bundle"] [] (sp_P_things_in K)) : DefOk P w K mg base 3 "parts_of" ["bundle"] [] (sp_P_parts_of K) := by
  refine F.def_okQ m_self (bnd1 F fun _ _ _ _ _ _ _ => rfl) sc_P_parts_of (fun vs H Q E h => ?_) (fun cdv A outer s H vs Q E hr h => ?_)
  · obtain ⟨b, rfl, _⟩ := h; rfl
  obtain ⟨b, rfl, hb, q⟩ := h
  refine ⟨_, (R.pss_cons (R.ps_set (i := 1) sc_P_parts_of.nd rfl (Or.inl rfl) (R.pe_lst (R.pa_c R.pe_int R.pa_nil)))
    (R.pss_cons (R.ps_for PassesOwn.never rfl (R.pi_list (R.pe_callD D_P_things_in hr (by first | decide | omega) rfl (R.pa_c (R.pv 0) R.pa_nil))) (R.pg_name (i := 2) sc_P_parts_of.nd rfl (Or.inr rfl)) (R.pss_one (R.ps_set (i := 1) sc_P_parts_of.nd rfl (Or.inl rfl) (R.pe_op op_cat (R.pv 1) (R.pe_comp (defScope s_P_parts_of) ["bundle", "parts", "number"] ["part"] ["number"] [2] rfl rfl rfl ⟨s.heap.objs.size + 1, rfl⟩ rfl rfl (by decide +kernel) (R.pi_list (R.pv 1)) (fun C s2 H2 fp => (R.pg_name (i := 0) (show List.Nodup (["part", "number"] : List Str) from by decide +kernel) rfl (Or.inl rfl))) (fun C s2 H2 fp => R.pf_nil) (fun C s2 H2 fp => (R.pe_op op_orN (R.pv 0) (R.pe_op op_shlN R.pe_int (R.pv 1)))))))))
    (R.pss_one (R.ps_ret (R.pv 1))))), ?_⟩
  refine ⟨(by show 1 ≤ sizeLine; decide), fun l0 hl0 => ?_⟩
  have s0 := same_new hl0 (.lst [V.int 0])
  refine ⟨_, rfl, b, rfl, hb, fun lt H1 s1 hlt e1 => ⟨lt, rfl, ⟨_, SqL.of e1⟩, ?_⟩⟩
  have h6 := things_len b
  refine for_list (xs := (things b).map nv) (fun i σ H' => Same H1 H' ∧ Same H H' ∧ ∃ l x, H l = none ∧ H' l = some (.lst ((partsTo ((things b).take i)).map nv)) ∧ σ = [some (.int b), some (.ref l), x]) ?_ ?_ ?_ ?_
  · exact ⟨Same.refl _, s0.trans s1, l0, none, hl0, s1 _ _ upd_same, rfl⟩
  · rintro i σ H' _ ⟨s', _⟩
    exact SqL.of (s' _ _ e1)
  · rintro i x σ H' hx ⟨s', sH, l, x0, hl, el, rfl⟩
    rw [List.getElem?_map] at hx
    obtain ⟨k, hk, rfl⟩ := Option.map_eq_some_iff.mp hx
    have hi : i < (things b).length := (List.getElem?_eq_some_iff.mp hk).1
    have k6 : k < 6 := (things_mem.mp (List.mem_of_getElem? hk)).1
    have hlen : (partsTo ((things b).take i)).length ≤ 32 := by
      rw [partsTo_len, List.length_take, Nat.min_eq_left (by omega)]
      exact Nat.pow_le_pow_right (by decide) (by omega : i ≤ 5)
    refine ⟨_, rfl, _, rfl, l, rfl, ⟨_, SqL.of el⟩, fun l2 h2 => ?_⟩
    refine comp_lst_map nv (partsTo ((things b).take i)) (fun _ => true) (fun p => nv (p ||| 2 ^ k)) (SqL.of el) (by omega) h2 ?_ ?_ ?_
    · intro x hx H2 s2 C hC; exact hC _ (Same.refl _)
    · intro x hx _ H2 s2 C hC
      exact ⟨_, rfl, _, rfl, k, rfl, rfl, by omega, x, 2 ^ k, rfl, rfl, hC _ (Same.refl _)⟩
    · intro H2 s2 e2
      rw [List.filter_eq_self.mpr (fun _ _ => rfl)] at e2
      refine ⟨l, l2, _, _, rfl, rfl, s2 _ _ el, e2, ?_, fun p hp => ?_⟩
      · rw [List.length_map, List.length_map]; exact Nat.le_of_lt (small1000 (by omega))
      have s3 := same_new hp (.lst ((partsTo ((things b).take i)).map nv ++ (partsTo ((things b).take i)).map fun p => nv (p ||| 2 ^ k)))
      refine ⟨(s'.trans s2).trans s3, (sH.trans s2).trans s3, p, some (nv k), (sH.trans s2).free hp, ?_, rfl⟩
      rw [upd_same, List.take_succ, hk, show (some k).toList = [k] from rfl, partsTo_snoc, List.map_append, List.map_map]; rfl
  · rintro σ H' ⟨s', sH, l, x, hl, el, rfl⟩
    rw [List.length_map, List.take_length] at el
    exact ⟨_, rfl, q l H' sH hl el⟩
theorem whole_key : ∀ n : Nm, (isN n .int = true → (!isN n .bl) = decide (n = .int)) ∧ (¬ isN n .int = true → false = decide (n = .int)) := by intro n; cases n <;> decide
theorem ok_P_is_whole {f : Addr} {fd : FuncData} (F : Fun K "is_whole" "is_whole" s_P_is_whole f fd) (m_self : mg "is_whole" = some (.ref f)) (m_isinstance : mg "isinstance" = none) (m_int : mg "int" = none) (m_bool : mg "bool" = none) : DefOk P w K mg base 1 "is_whole" ["thing"] [] (sp_P_is_whole K) := by
  refine F.def_okQ m_self (bnd1 F fun _ _ _ _ _ _ _ => rfl) sc_P_is_whole (fun vs H Q E h => ?_) (fun cdv A outer s H vs Q E hr h => ?_)
  · obtain ⟨v, n, rfl, _⟩ := h; rfl
  obtain ⟨v, n, rfl, hk, q⟩ := h
  refine ⟨_, (R.pss_one (R.ps_ret (R.pe_and (R.pe_isi .int rfl m_isinstance rfl m_int (R.pv 0)) (R.pe_one (R.pe_not (R.pe_isi .bl rfl m_isinstance rfl m_bool (R.pv 0))))))), ?_⟩
  refine ⟨_, rfl, v, n, rfl, hk, _, rfl, ?_⟩
  refine ite2 (fun c => ?_) (fun c => ?_)
  · refine ⟨_, rfl, v, n, rfl, hk, _, rfl, ?_⟩
    rw [(whole_key n).1 c]; exact q
  · show Q (.bl false) H
    rw [(whole_key n).2 c]; exact q
theorem ok_P_is_within {f : Addr} {fd : FuncData} (F : Fun K "is_within" "is_within" s_P_is_within f fd) (m_self : mg "is_within" = some (.ref f))
    (D_P_is_whole : DefOk P w K mg base 1 "is_whole" ["thing"] [] (sp_P_is_whole K)) : DefOk P w K mg base 2 "is_within" ["thing", "least", "most"] [] (sp_P_is_within K) := by
  refine F.def_okQ m_self (bnd3 F fun _ _ _ _ _ _ _ _ _ => rfl) sc_P_is_within (fun vs H Q E h => ?_) (fun cdv A outer s H vs Q E hr h => ?_)
  · obtain ⟨v, lo, hi, rfl, _⟩ := h; rfl
  obtain ⟨v, lo, hi, rfl, h⟩ := h
  refine ⟨_, (R.pss_one (R.ps_ret (R.pe_and (R.pe_callD D_P_is_whole hr (by first | decide | omega) rfl (R.pa_c (R.pv 0) R.pa_nil)) (R.pe_one (R.pe_chain op_le op_le (R.pv 1) (R.pv 0) (R.pv 2)))))), ?_⟩
  rcases h with ⟨n, hk, hn, q⟩ | ⟨i, rfl, q⟩
  · refine ⟨_, rfl, v, n, rfl, hk, _, rfl, ?_⟩
    rw [decide_eq_false hn]
    exact iteF q
  · refine ⟨_, rfl, _, .int, rfl, TyOf.int _, _, rfl, iteT ?_⟩
    refine ⟨_, rfl, _, rfl, _, _, rfl, rfl, _, rfl, ?_⟩
    refine ite2 (fun c => ?_) (fun c => ?_)
    · refine ⟨_, rfl, _, _, rfl, rfl, ?_⟩
      rw [c, Bool.true_and] at q; exact q
    · rw [Bool.eq_false_iff.mpr c, Bool.false_and] at q; exact q
theorem within {lo i hi : Int} (h1 : lo ≤ i) (h2 : i ≤ hi) : (decide (lo ≤ i) && decide (i ≤ hi)) = true := by rw [decide_eq_true h1, decide_eq_true h2]; rfl
theorem ok_P_check_bundle {f : Addr} {fd : FuncData} (F : Fun K "check_bundle" "check_bundle" s_P_check_bundle f fd) (m_self : mg "check_bundle" = some (.ref f))
    (D_P_is_within : DefOk P w K mg base 2 "is_within" ["thing", "least", "most"] [] (sp_P_is_within K)) : DefOk P w K mg base 3 "check_bundle" ["bundle"] [] (sp_P_check_bundle K) := by
  refine F.def_okQ m_self (bnd1 F fun _ _ _ _ _ _ _ => rfl) sc_P_check_bundle (fun vs H Q E h => ?_) (fun cdv A outer s H vs Q E hr h => ?_)
  · obtain ⟨i, rfl, _⟩ := h; rfl
  obtain ⟨i, rfl, h1, h2, q⟩ := h
  refine ⟨_, (R.pss_one (R.ps_if (R.pt_not (R.pt_val (R.pe_callD D_P_is_within hr (by first | decide | omega) rfl (R.pa_c (R.pv 0) (R.pa_c R.pe_int (R.pa_c R.pe_int R.pa_nil)))))) (R.pss_one R.ps_never) R.pss_nil)), ?_⟩
  refine ⟨_, rfl, _, 1, 63, rfl, .inr ⟨_, rfl, _, rfl, ?_⟩⟩
  rw [within h1 h2]
  exact iteF q
theorem ok_P_check_so_many {f : Addr} {fd : FuncData} (F : Fun K "check_so_many" "check_so_many" s_P_check_so_many f fd) (m_self : mg "check_so_many" = some (.ref f))
    (D_P_is_within : DefOk P w K mg base 2 "is_within" ["thing", "least", "most"] [] (sp_P_is_within K)) : DefOk P w K mg base 3 "check_so_many" ["number"] [] (sp_P_check_so_many K) := by
  refine F.def_okQ m_self (bnd1 F fun _ _ _ _ _ _ _ => rfl) sc_P_check_so_many (fun vs H Q E h => ?_) (fun cdv A outer s H vs Q E hr h => ?_)
  · obtain ⟨i, rfl, _⟩ := h; rfl
  obtain ⟨i, rfl, h1, h2, q⟩ := h
  refine ⟨_, (R.pss_one (R.ps_if (R.pt_not (R.pt_val (R.pe_callD D_P_is_within hr (by first | decide | omega) rfl (R.pa_c (R.pv 0) (R.pa_c R.pe_int (R.pa_c R.pe_int R.pa_nil)))))) (R.pss_one R.ps_never) R.pss_nil)), ?_⟩
  refine ⟨_, rfl, _, 1, 6, rfl, .inr ⟨_, rfl, _, rfl, ?_⟩⟩
  rw [within h1 h2]
  exact iteF q
theorem ok_P_check_amount {f : Addr} {fd : FuncData} (F : Fun K "check_amount" "check_amount" s_P_check_amount f fd) (m_self : mg "check_amount" = some (.ref f))
    (D_P_is_within : DefOk P w K mg base 2 "is_within" ["thing", "least", "most"] [] (sp_P_is_within K)) : DefOk P w K mg base 3 "check_amount" ["amount"] [] (sp_P_check_amount K) := by
  refine F.def_okQ m_self (bnd1 F fun _ _ _ _ _ _ _ => rfl) sc_P_check_amount (fun vs H Q E h => ?_) (fun cdv A outer s H vs Q E hr h => ?_)
  · obtain ⟨i, rfl, _⟩ := h; rfl
  obtain ⟨i, rfl, h1, h2, q⟩ := h
  refine ⟨_, (R.pss_one (R.ps_if (R.pt_not (R.pt_val (R.pe_callD D_P_is_within hr (by first | decide | omega) rfl (R.pa_c (R.pv 0) (R.pa_c R.pe_int (R.pa_c (R.pe_op op_pow R.pe_int R.pe_int) R.pa_nil)))))) (R.pss_one R.ps_never) R.pss_nil)), ?_⟩
  refine ⟨_, rfl, _, _, rfl, rfl, ⟨by decide, by decide, by decide⟩, _, 0, 10 ^ 9, rfl, .inr ⟨_, rfl, _, rfl, ?_⟩⟩
  rw [within h1 h2]
  exact iteF q
theorem ok_P_worths_of_nothing {f : Addr} {fd : FuncData} (F : Fun K "worths_of_nothing" "worths_of_nothing" s_P_worths_of_nothing f fd) (m_self : mg "worths_of_nothing" = some (.ref f)) (m_range : mg "range" = none) : DefOk P w K mg base 1 "worths_of_nothing" ["many"] [] (sp_P_worths_of_nothing K) := by
  refine F.def_okQ m_self (bnd1 F fun _ _ _ _ _ _ _ => rfl) sc_P_worths_of_nothing (fun vs H Q E h => ?_) (fun cdv A outer s H vs Q E hr h => ?_)
  · obtain ⟨n, rfl, _⟩ := h; rfl
  obtain ⟨n, rfl, hn, q⟩ := h
  refine ⟨_, (R.pss_one (R.ps_ret (R.pe_comp (defScope s_P_worths_of_nothing) ["many"] ["bundle"] [] [] rfl rfl rfl ⟨s.heap.objs.size + 1, rfl⟩ rfl rfl (by decide +kernel) (R.pi_range1 rfl m_range (R.pa_c (R.pe_op op_shlN R.pe_int (R.pv 0)) R.pa_nil)) (fun C s2 H2 fp => (R.pg_name (i := 0) (show List.Nodup (["bundle"] : List Str) from by decide +kernel) rfl (Or.inl rfl))) (fun C s2 H2 fp => R.pf_nil) (fun C s2 H2 fp => R.pe_int)))), ?_⟩
  have f := (pow6 hn).1
  refine ⟨_, rfl, n, rfl, rfl, by omega, _, rfl, (rng6 hn).1, (rng6 hn).2, fun l hl => ?_⟩
  rw [Int.toNat_natCast]
  refine comp_rng_map (n := 2 ^ n) (fun _ => true) (fun _ => V.int 0) (by omega) hl ?_ ?_ ?_
  · intro k H1 hk s1 C hC; exact hC _ (Same.refl _)
  · intro k H1 hk _ s1 C hC; exact hC _ (Same.refl _)
  · intro H1 s1 e1
    refine q l H1 s1 hl ?_
    rw [e1, List.filter_eq_self.mpr (fun _ _ => rfl), List.map_map]; rfl
theorem ok_M_Only___init__ {f : Addr} {fd : FuncData} (F : Fun K "__init__" "Only.__init__" s_M_Only___init__ f fd)
    (D_P_check_bundle : DefOk P w K mg base 3 "check_bundle" ["bundle"] [] (sp_P_check_bundle K))
    (D_P_check_amount : DefOk P w K mg base 3 "check_amount" ["amount"] [] (sp_P_check_amount K))
    (O_Bid : Own K mg "Bid" c_Bid [])
    (O_Only : Own K mg "Only" c_Only ["bundle", "amount"])
    (O_SoMany : Own K mg "SoMany" c_SoMany ["kind", "least", "amount"])
    (O_UpTo : Own K mg "UpTo" c_UpTo ["kind", "most", "each"])
    (O_Several : Own K mg "Several" c_Several ["bids"])
    (O_AnyOf : Own K mg "AnyOf" c_AnyOf ["bids"])
    (O_OneOf : Own K mg "OneOf" c_OneOf ["bids"]) : FnOk P w K mg base CX0 4 f fd ["self", "bundle", "amount"] (sp_M_Only___init__ K c_Only) := by
  refine F.okQ sc_M_Only___init__ (fun vs H Q E h => ?_) (fun cdv A outer s H vs Q E hr h => ?_)
  · obtain ⟨a, dx, b, m, rfl, _⟩ := h; rfl
  obtain ⟨a, dx, b, m, rfl, b1, b2, hm, e, q⟩ := h
  refine ⟨_, (R.pss_cons (R.ps_expr (R.pe_callD D_P_check_bundle hr (by first | decide | omega) rfl (R.pa_c (R.pv 1) R.pa_nil)))
    (R.pss_cons (R.ps_expr (R.pe_callD D_P_check_amount hr (by first | decide | omega) rfl (R.pa_c (R.pv 2) R.pa_nil)))
    (R.pss_cons (R.ps_fld (R.pv 0) (R.pv 1))
    (R.pss_one (R.ps_fld (R.pv 0) (R.pv 2)))))), ?_⟩
  refine ⟨_, rfl, (b : Int), rfl, by omega, by omega, ?_⟩
  refine ⟨_, rfl, m, rfl, hm.lo, hm.hi, ?_⟩
  refine ⟨_, rfl, _, rfl, a, c_Only, dx, [], rfl, e, O_Only.cls, O_Only.no _ (mem_at 0 rfl), by decide, ?_⟩
  refine ⟨_, rfl, _, rfl, a, c_Only, dx, _, rfl, upd_same, O_Only.cls, O_Only.no _ (mem_at 1 rfl), put1 _ _, ?_⟩
  rw [upd_upd]
  exact q
theorem ok_M_SoMany___init__ {f : Addr} {fd : FuncData} (F : Fun K "__init__" "SoMany.__init__" s_M_SoMany___init__ f fd)
    (D_P_check_bundle : DefOk P w K mg base 3 "check_bundle" ["bundle"] [] (sp_P_check_bundle K))
    (D_P_check_so_many : DefOk P w K mg base 3 "check_so_many" ["number"] [] (sp_P_check_so_many K))
    (D_P_check_amount : DefOk P w K mg base 3 "check_amount" ["amount"] [] (sp_P_check_amount K))
    (O_Bid : Own K mg "Bid" c_Bid [])
    (O_Only : Own K mg "Only" c_Only ["bundle", "amount"])
    (O_SoMany : Own K mg "SoMany" c_SoMany ["kind", "least", "amount"])
    (O_UpTo : Own K mg "UpTo" c_UpTo ["kind", "most", "each"])
    (O_Several : Own K mg "Several" c_Several ["bids"])
    (O_AnyOf : Own K mg "AnyOf" c_AnyOf ["bids"])
    (O_OneOf : Own K mg "OneOf" c_OneOf ["bids"]) : FnOk P w K mg base CX0 4 f fd ["self", "kind", "least", "amount"] (sp_M_SoMany___init__ K c_SoMany) := by
  refine F.okQ sc_M_SoMany___init__ (fun vs H Q E h => ?_) (fun cdv A outer s H vs Q E hr h => ?_)
  · obtain ⟨a, dx, k, l, m, rfl, _⟩ := h; rfl
  obtain ⟨a, dx, k, l, m, rfl, k1, k2, l1, l2, hm, e, q⟩ := h
  refine ⟨_, (R.pss_cons (R.ps_expr (R.pe_callD D_P_check_bundle hr (by first | decide | omega) rfl (R.pa_c (R.pv 1) R.pa_nil)))
    (R.pss_cons (R.ps_expr (R.pe_callD D_P_check_so_many hr (by first | decide | omega) rfl (R.pa_c (R.pv 2) R.pa_nil)))
    (R.pss_cons (R.ps_expr (R.pe_callD D_P_check_amount hr (by first | decide | omega) rfl (R.pa_c (R.pv 3) R.pa_nil)))
    (R.pss_cons (R.ps_fld (R.pv 0) (R.pv 1))
    (R.pss_cons (R.ps_fld (R.pv 0) (R.pv 2))
    (R.pss_one (R.ps_fld (R.pv 0) (R.pv 3)))))))), ?_⟩
  refine ⟨_, rfl, (k : Int), rfl, by omega, by omega, ?_⟩
  refine ⟨_, rfl, (l : Int), rfl, by omega, by omega, ?_⟩
  refine ⟨_, rfl, m, rfl, hm.lo, hm.hi, ?_⟩
  refine ⟨_, rfl, _, rfl, a, c_SoMany, dx, [], rfl, e, O_SoMany.cls, O_SoMany.no _ (mem_at 0 rfl), by decide, ?_⟩
  refine ⟨_, rfl, _, rfl, a, c_SoMany, dx, _, rfl, upd_same, O_SoMany.cls, O_SoMany.no _ (mem_at 1 rfl), put1 _ _, ?_⟩
  refine ⟨_, rfl, _, rfl, a, c_SoMany, dx, _, rfl, upd_same, O_SoMany.cls, O_SoMany.no _ (mem_at 2 rfl), put2 _ _ _ _, ?_⟩
  rw [upd_upd, upd_upd]
  exact q
theorem ok_M_UpTo___init__ {f : Addr} {fd : FuncData} (F : Fun K "__init__" "UpTo.__init__" s_M_UpTo___init__ f fd)
    (D_P_check_bundle : DefOk P w K mg base 3 "check_bundle" ["bundle"] [] (sp_P_check_bundle K))
    (D_P_check_so_many : DefOk P w K mg base 3 "check_so_many" ["number"] [] (sp_P_check_so_many K))
    (D_P_check_amount : DefOk P w K mg base 3 "check_amount" ["amount"] [] (sp_P_check_amount K))
    (O_Bid : Own K mg "Bid" c_Bid [])
    (O_Only : Own K mg "Only" c_Only ["bundle", "amount"])
    (O_SoMany : Own K mg "SoMany" c_SoMany ["kind", "least", "amount"])
    (O_UpTo : Own K mg "UpTo" c_UpTo ["kind", "most", "each"])
    (O_Several : Own K mg "Several" c_Several ["bids"])
    (O_AnyOf : Own K mg "AnyOf" c_AnyOf ["bids"])
    (O_OneOf : Own K mg "OneOf" c_OneOf ["bids"]) : FnOk P w K mg base CX0 4 f fd ["self", "kind", "most", "each"] (sp_M_UpTo___init__ K c_UpTo) := by
  refine F.okQ sc_M_UpTo___init__ (fun vs H Q E h => ?_) (fun cdv A outer s H vs Q E hr h => ?_)
  · obtain ⟨a, dx, k, l, m, rfl, _⟩ := h; rfl
  obtain ⟨a, dx, k, l, m, rfl, k1, k2, l1, l2, hm, e, q⟩ := h
  refine ⟨_, (R.pss_cons (R.ps_expr (R.pe_callD D_P_check_bundle hr (by first | decide | omega) rfl (R.pa_c (R.pv 1) R.pa_nil)))
    (R.pss_cons (R.ps_expr (R.pe_callD D_P_check_so_many hr (by first | decide | omega) rfl (R.pa_c (R.pv 2) R.pa_nil)))
    (R.pss_cons (R.ps_expr (R.pe_callD D_P_check_amount hr (by first | decide | omega) rfl (R.pa_c (R.pv 3) R.pa_nil)))
    (R.pss_cons (R.ps_fld (R.pv 0) (R.pv 1))
    (R.pss_cons (R.ps_fld (R.pv 0) (R.pv 2))
    (R.pss_one (R.ps_fld (R.pv 0) (R.pv 3)))))))), ?_⟩
  refine ⟨_, rfl, (k : Int), rfl, by omega, by omega, ?_⟩
  refine ⟨_, rfl, (l : Int), rfl, by omega, by omega, ?_⟩
  refine ⟨_, rfl, m, rfl, hm.lo, hm.hi, ?_⟩
  refine ⟨_, rfl, _, rfl, a, c_UpTo, dx, [], rfl, e, O_UpTo.cls, O_UpTo.no _ (mem_at 0 rfl), by decide, ?_⟩
  refine ⟨_, rfl, _, rfl, a, c_UpTo, dx, _, rfl, upd_same, O_UpTo.cls, O_UpTo.no _ (mem_at 1 rfl), put1 _ _, ?_⟩
  refine ⟨_, rfl, _, rfl, a, c_UpTo, dx, _, rfl, upd_same, O_UpTo.cls, O_UpTo.no _ (mem_at 2 rfl), put2 _ _ _ _, ?_⟩
  rw [upd_upd, upd_upd]
  exact q
theorem ok_M_Bid_worths {f : Addr} {fd : FuncData} (F : Fun K "worths" "Bid.worths" s_M_Bid_worths f fd)
    (D_P_worths_of_nothing : DefOk P w K mg base 1 "worths_of_nothing" ["many"] [] (sp_P_worths_of_nothing K))
    (O_Bid : Own K mg "Bid" c_Bid [])
    (O_Only : Own K mg "Only" c_Only ["bundle", "amount"])
    (O_SoMany : Own K mg "SoMany" c_SoMany ["kind", "least", "amount"])
    (O_UpTo : Own K mg "UpTo" c_UpTo ["kind", "most", "each"])
    (O_Several : Own K mg "Several" c_Several ["bids"])
    (O_AnyOf : Own K mg "AnyOf" c_AnyOf ["bids"])
    (O_OneOf : Own K mg "OneOf" c_OneOf ["bids"]) : FnOk P w K mg base CX0 2 f fd ["self", "many"] (sp_M_Bid_worths K c_Bid) := by
  refine F.okQ sc_M_Bid_worths (fun vs H Q E h => ?_) (fun cdv A outer s H vs Q E hr h => ?_)
  · obtain ⟨a, dx, n, rfl, _⟩ := h; rfl
  obtain ⟨a, dx, n, rfl, hn, e, q⟩ := h
  refine ⟨_, (R.pss_one (R.ps_ret (R.pe_callD D_P_worths_of_nothing hr (by first | decide | omega) rfl (R.pa_c (R.pv 1) R.pa_nil)))), ?_⟩
  exact ⟨_, rfl, n, rfl, hn, fun l H' s' hl e' => q l H' s' hl e'⟩
theorem ok_M_Only_worths {f : Addr} {fd : FuncData} (F : Fun K "worths" "Only.worths" s_M_Only_worths f fd) (m_range : mg "range" = none)
    (D_P_holds : DefOk P w K mg base 1 "holds" ["one", "other"] [] (sp_P_holds K))
    (O_Bid : Own K mg "Bid" c_Bid [])
    (O_Only : Own K mg "Only" c_Only ["bundle", "amount"])
    (O_SoMany : Own K mg "SoMany" c_SoMany ["kind", "least", "amount"])
    (O_UpTo : Own K mg "UpTo" c_UpTo ["kind", "most", "each"])
    (O_Several : Own K mg "Several" c_Several ["bids"])
    (O_AnyOf : Own K mg "AnyOf" c_AnyOf ["bids"])
    (O_OneOf : Own K mg "OneOf" c_OneOf ["bids"]) : FnOk P w K mg base CX0 2 f fd ["self", "many"] (sp_M_Only_worths K c_Only) := by
  refine F.okQ sc_M_Only_worths (fun vs H Q E h => ?_) (fun cdv A outer s H vs Q E hr h => ?_)
  · obtain ⟨a, dx, n, b, m, rfl, _⟩ := h; rfl
  obtain ⟨a, dx, n, b, m, rfl, hn, hb, e, q⟩ := h
  refine ⟨_, (R.pss_one (R.ps_ret (R.pe_comp (defScope s_M_Only_worths) ["self", "many"] ["bundle"] ["self"] [0] rfl rfl rfl ⟨s.heap.objs.size + 1, rfl⟩ rfl rfl (by decide +kernel) (R.pi_range1 rfl m_range (R.pa_c (R.pe_op op_shlN R.pe_int (R.pv 1)) R.pa_nil)) (fun C s2 H2 fp => (R.pg_name (i := 0) (show List.Nodup (["bundle", "self"] : List Str) from by decide +kernel) rfl (Or.inl rfl))) (fun C s2 H2 fp => R.pf_nil) (fun C s2 H2 fp => (R.pe_ifExp (R.pt_val (R.pe_callD D_P_holds hr (by first | decide | omega) rfl (R.pa_c (R.pv 0) (R.pa_c (R.pe_fld K (R.pv 1)) R.pa_nil)))) (R.pe_fld K (R.pv 1)) R.pe_int))))), ?_⟩
  have f := (pow6 hn).1
  refine ⟨_, rfl, n, rfl, rfl, by omega, _, rfl, (rng6 hn).1, (rng6 hn).2, fun l0 hl => ?_⟩
  rw [Int.toNat_natCast]
  refine comp_rng_map (n := 2 ^ n) (fun _ => true) (fun x => V.int (worthF (.only b m) x)) (by omega) hl ?_ ?_ ?_
  · intro x H1 hx s1 C hC; exact hC _ (Same.refl _)
  · intro x H1 hx _ s1 C hC
    rw [Int.zero_add]
    have e1 := s1 _ _ e
    refine ⟨_, rfl, _, rfl, a, c_Only, dx, _, nv b, rfl, e1, O_Only.cls, O_Only.no _ (mem_at 0 rfl), rfl, x, b, rfl, _, rfl, ?_⟩
    by_cases hc : x &&& b = b
    · rw [decide_eq_true hc]
      refine iteT ⟨_, rfl, a, c_Only, dx, _, .int m, rfl, e1, O_Only.cls, O_Only.no _ (mem_at 1 rfl), rfl, ?_⟩
      have z := hC _ (Same.refl H1)
      rw [show worthF (.only b m) x = m from if_pos hc] at z
      exact z
    · rw [decide_eq_false hc]
      refine iteF ?_
      have z := hC _ (Same.refl H1)
      rw [show worthF (.only b m) x = 0 from if_neg hc] at z
      exact z
  · intro H1 s1 e1
    refine q l0 H1 s1 hl ?_
    rw [e1, List.filter_eq_self.mpr (fun _ _ => rfl)]
    unfold worthsF
    rw [List.map_map]; rfl
theorem ok_M_SoMany_worths {f : Addr} {fd : FuncData} (F : Fun K "worths" "SoMany.worths" s_M_SoMany_worths f fd) (m_range : mg "range" = none)
    (D_P_size_of : DefOk P w K mg base 3 "size_of" ["bundle"] [] (sp_P_size_of K))
    (O_Bid : Own K mg "Bid" c_Bid [])
    (O_Only : Own K mg "Only" c_Only ["bundle", "amount"])
    (O_SoMany : Own K mg "SoMany" c_SoMany ["kind", "least", "amount"])
    (O_UpTo : Own K mg "UpTo" c_UpTo ["kind", "most", "each"])
    (O_Several : Own K mg "Several" c_Several ["bids"])
    (O_AnyOf : Own K mg "AnyOf" c_AnyOf ["bids"])
    (O_OneOf : Own K mg "OneOf" c_OneOf ["bids"]) : FnOk P w K mg base CX0 4 f fd ["self", "many"] (sp_M_SoMany_worths K c_SoMany) := by
  refine F.okQ sc_M_SoMany_worths (fun vs H Q E h => ?_) (fun cdv A outer s H vs Q E hr h => ?_)
  · obtain ⟨a, dx, n, k, l, m, rfl, _⟩ := h; rfl
  obtain ⟨a, dx, n, k, l, m, rfl, hn, hk, e, q⟩ := h
  refine ⟨_, (R.pss_one (R.ps_ret (R.pe_comp (defScope s_M_SoMany_worths) ["self", "many"] ["bundle"] ["self"] [0] rfl rfl rfl ⟨s.heap.objs.size + 1, rfl⟩ rfl rfl (by decide +kernel) (R.pi_range1 rfl m_range (R.pa_c (R.pe_op op_shlN R.pe_int (R.pv 1)) R.pa_nil)) (fun C s2 H2 fp => (R.pg_name (i := 0) (show List.Nodup (["bundle", "self"] : List Str) from by decide +kernel) rfl (Or.inl rfl))) (fun C s2 H2 fp => R.pf_nil) (fun C s2 H2 fp => (R.pe_ifExp (R.pt_cmpR op_ge (R.pe_callD D_P_size_of hr (by first | decide | omega) rfl (R.pa_c (R.pe_op op_andN (R.pv 0) (R.pe_fld K (R.pv 1))) R.pa_nil)) (R.pe_fld K (R.pv 1)) (nomark _)) (R.pe_fld K (R.pv 1)) R.pe_int))))), ?_⟩
  have f := (pow6 hn).1
  refine ⟨_, rfl, n, rfl, rfl, by omega, _, rfl, (rng6 hn).1, (rng6 hn).2, fun l0 hl => ?_⟩
  rw [Int.toNat_natCast]
  refine comp_rng_map (n := 2 ^ n) (fun _ => true) (fun x => V.int (worthF (.some k l m) x)) (by omega) hl ?_ ?_ ?_
  · intro x H1 hx s1 C hC; exact hC _ (Same.refl _)
  · intro x H1 hx _ s1 C hC
    rw [Int.zero_add]
    have e1 := s1 _ _ e
    refine ⟨_, rfl, _, rfl, a, c_SoMany, dx, _, nv k, rfl, e1, O_SoMany.cls, O_SoMany.no _ (mem_at 0 rfl), rfl, x, k, rfl, rfl, x &&& k, rfl, and64 hk, fun H2 s2 => ?_⟩
    have e2 := s2 _ _ e1
    refine ⟨_, rfl, a, c_SoMany, dx, _, nv l, rfl, e2, O_SoMany.cls, O_SoMany.no _ (mem_at 1 rfl), rfl, _, _, rfl, rfl, _, rfl, ?_⟩
    by_cases hc : l ≤ (things (x &&& k)).length
    · rw [decide_eq_true (by exact_mod_cast hc)]
      refine iteT ⟨_, rfl, a, c_SoMany, dx, _, .int m, rfl, e2, O_SoMany.cls, O_SoMany.no _ (mem_at 2 rfl), rfl, ?_⟩
      have z := hC _ s2
      rw [show worthF (.some k l m) x = m from if_pos hc] at z
      exact z
    · rw [decide_eq_false (fun z => hc (by exact_mod_cast z))]
      refine iteF ?_
      have z := hC _ s2
      rw [show worthF (.some k l m) x = 0 from if_neg hc] at z
      exact z
  · intro H1 s1 e1
    refine q l0 H1 s1 hl ?_
    rw [e1, List.filter_eq_self.mpr (fun _ _ => rfl)]
    unfold worthsF
    rw [List.map_map]; rfl
theorem ok_M_UpTo_worths {f : Addr} {fd : FuncData} (F : Fun K "worths" "UpTo.worths" s_M_UpTo_worths f fd) (m_min : mg "min" = none) (m_range : mg "range" = none)
    (D_P_size_of : DefOk P w K mg base 3 "size_of" ["bundle"] [] (sp_P_size_of K))
    (O_Bid : Own K mg "Bid" c_Bid [])
    (O_Only : Own K mg "Only" c_Only ["bundle", "amount"])
    (O_SoMany : Own K mg "SoMany" c_SoMany ["kind", "least", "amount"])
    (O_UpTo : Own K mg "UpTo" c_UpTo ["kind", "most", "each"])
    (O_Several : Own K mg "Several" c_Several ["bids"])
    (O_AnyOf : Own K mg "AnyOf" c_AnyOf ["bids"])
    (O_OneOf : Own K mg "OneOf" c_OneOf ["bids"]) : FnOk P w K mg base CX0 4 f fd ["self", "many"] (sp_M_UpTo_worths K c_UpTo) := by
  refine F.okQ sc_M_UpTo_worths (fun vs H Q E h => ?_) (fun cdv A outer s H vs Q E hr h => ?_)
  · obtain ⟨a, dx, n, k, l, m, rfl, _⟩ := h; rfl
  obtain ⟨a, dx, n, k, l, m, rfl, hn, hk, e, q⟩ := h
  refine ⟨_, (R.pss_one (R.ps_ret (R.pe_comp (defScope s_M_UpTo_worths) ["self", "many"] ["bundle"] ["self"] [0] rfl rfl rfl ⟨s.heap.objs.size + 1, rfl⟩ rfl rfl (by decide +kernel) (R.pi_range1 rfl m_range (R.pa_c (R.pe_op op_shlN R.pe_int (R.pv 1)) R.pa_nil)) (fun C s2 H2 fp => (R.pg_name (i := 0) (show List.Nodup (["bundle", "self"] : List Str) from by decide +kernel) rfl (Or.inl rfl))) (fun C s2 H2 fp => R.pf_nil) (fun C s2 H2 fp => (R.pe_op op_mulB (R.pe_fld K (R.pv 1)) (R.pe_cB (call_min2 rfl) rfl m_min (boot_min) (R.pa_c (R.pe_callD D_P_size_of hr (by first | decide | omega) rfl (R.pa_c (R.pe_op op_andN (R.pv 0) (R.pe_fld K (R.pv 1))) R.pa_nil)) (R.pa_c (R.pe_fld K (R.pv 1)) R.pa_nil)))))))), ?_⟩
  have f := (pow6 hn).1
  refine ⟨_, rfl, n, rfl, rfl, by omega, _, rfl, (rng6 hn).1, (rng6 hn).2, fun l0 hl => ?_⟩
  rw [Int.toNat_natCast]
  refine comp_rng_map (n := 2 ^ n) (fun _ => true) (fun x => V.int (worthF (.most k l m) x)) (by omega) hl ?_ ?_ ?_
  · intro x H1 hx s1 C hC; exact hC _ (Same.refl _)
  · intro x H1 hx _ s1 C hC
    rw [Int.zero_add]
    have e1 := s1 _ _ e
    refine ⟨_, rfl, a, c_UpTo, dx, _, .int m, rfl, e1, O_UpTo.cls, O_UpTo.no _ (mem_at 2 rfl), rfl, ?_⟩
    refine ⟨_, rfl, _, rfl, a, c_UpTo, dx, _, nv k, rfl, e1, O_UpTo.cls, O_UpTo.no _ (mem_at 0 rfl), rfl, x, k, rfl, rfl, x &&& k, rfl, and64 hk, fun H2 s2 => ?_⟩
    have e2 := s2 _ _ e1
    have t6 := things_len (x &&& k)
    refine ⟨_, rfl, a, c_UpTo, dx, _, nv l, rfl, e2, O_UpTo.cls, O_UpTo.no _ (mem_at 1 rfl), rfl, _, _, rfl, ?_⟩
    refine ⟨_, _, rfl, rfl, mulOk_small ?_, ?_⟩
    · split <;> omega
    have z := hC _ s2
    have ez : worthF (.most k l m) x = m * (if (l : Int) < ((things (x &&& k)).length : Int) then (l : Int) else ((things (x &&& k)).length : Int)) := by
      show m * ((if l < (things (x &&& k)).length then l else (things (x &&& k)).length : Nat) : Int) = _
      congr 1
      by_cases hc : l < (things (x &&& k)).length
      · rw [if_pos hc, if_pos (by exact_mod_cast hc)]
      · rw [if_neg hc, if_neg (fun z => hc (by exact_mod_cast z))]
    rw [ez] at z
    exact z
  · intro H1 s1 e1
    refine q l0 H1 s1 hl ?_
    rw [e1, List.filter_eq_self.mpr (fun _ _ => rfl)]
    unfold worthsF
    rw [List.map_map]; rfl
theorem getD_at {ws : List Int} {b : Nat} (h : b < ws.length) : atI (ws.map V.int) (b : Int) = some (V.int (ws.getD b 0)) := by
  refine at_nat ?_
  rw [List.getElem?_map, List.getElem?_eq_getElem h, List.getD_eq_getElem?_getD, List.getElem?_eq_getElem h]; rfl
theorem tab_getD {g : Nat → Int} {n x : Nat} (h : x < 2 ^ n) : atI ((tab g n).map V.int) (x : Int) = some (V.int (g x)) := by
  have z := getD_at (ws := tab g n) (b := x) (by rw [tab_len]; exact h)
  rw [tab_at h] at z; exact z
theorem ok_L_cell {f : Addr} {fd : FuncData} (F : Fun K "_law_cell" "_law_cell" s_L_cell f fd) (m_self : mg "_law_cell" = some (.ref f)) (m_len : mg "len" = none) : DefOk P w K mg base 1 "_law_cell" ["_law_script", "_law_k"] [] (sp_L_cell K) := by
  refine F.def_okQ m_self (bnd2 F fun _ _ _ _ _ _ _ _ => rfl) sc_L_cell (fun vs H Q E h => ?_) (fun cdv A outer s H vs Q E hr h => ?_)
  · obtain ⟨a, ns, k, rfl, _⟩ := h; rfl
  obtain ⟨a, ns, k, rfl, hS, hk, q⟩ := h
  have hl : (ns.map V.int).length = ns.length := List.length_map _
  refine ⟨_, (R.pss_cons (R.ps_if (R.pt_cmpR op_lt (R.pv 1) (R.pe_cB call_len_seq rfl m_len PySem.boot_len (R.pa_c (R.pv 0) R.pa_nil)) (nomark _)) (R.pss_one (R.ps_ret (R.pe_op op_mod (R.pe_ix (R.ixL K) (R.pv 0) (R.pv 1) (fun _ _ => rfl)) (R.pe_op op_pow R.pe_int R.pe_int)))) R.pss_nil)
    (R.pss_cons (R.ps_if (R.pt_cmpR (op_eqI hr.units0) (R.pv 0) (R.pe_lst R.pa_nil) (nomark _)) (R.pss_one (R.ps_ret (R.pe_op op_add (R.pe_op op_mulB R.pe_int (R.pv 1)) R.pe_int))) R.pss_nil)
    (R.pss_one (R.ps_ret (R.pe_op op_mod (R.pe_op op_mulB (R.pe_op op_add (R.pe_op op_mod (R.pe_ix (R.ixL K) (R.pv 0) (R.pe_op (opE op_mod) (R.pv 1) (R.pe_cB call_len_seq rfl m_len PySem.boot_len (R.pa_c (R.pv 0) R.pa_nil))) (fun _ _ => rfl)) R.pe_int) (R.pe_op op_mulB R.pe_int (R.pv 1))) (R.pe_op op_add R.pe_int (R.pe_op op_mulB R.pe_int (R.pv 1)))) R.pe_int))))), ?_⟩
  refine ⟨_, rfl, _, rfl, a, _, rfl, .inl hS, _, _, rfl, rfl, _, rfl, ?_⟩
  refine ite2 (fun c => ?_) (fun c => ?_)
  · have c' : (k : Int) < (((ns.map V.int).length : Nat) : Int) := of_decide_eq_true c
    have c2 : k < ns.length := by omega
    have q' : Q (.int (ns.getD k 0 % 10 ^ 60)) H := by
      have z := q H (Same.refl _)
      unfold cellN at z; rw [if_pos c2] at z; exact z
    refine ⟨_, rfl, _, rfl, a, _, _, V.int (ns.getD k 0), rfl, rfl, hS, at_nat (by rw [List.getElem?_map, List.getElem?_eq_getElem c2, List.getD_eq_getElem?_getD, List.getElem?_eq_getElem c2]; rfl), ?_⟩
    refine ⟨_, _, rfl, rfl, ⟨by decide, by decide, by decide⟩, _, _, rfl, rfl, ?_, q'⟩
    show (0 : Int) < 10 ^ 60
    decide
  · have c' : ¬ (k : Int) < (((ns.map V.int).length : Nat) : Int) := of_decide_eq_false (Bool.eq_false_iff.mpr c)
    have c2 : ¬ k < ns.length := by omega
    refine ⟨_, rfl, (by show 0 ≤ sizeLine; decide), fun p hp => ?_⟩
    have s1 := same_new hp (.lst [])
    have hS1 := s1.seq hS
    refine ⟨a, p, ns, [], rfl, rfl, hS1, SqL.of upd_same, _, rfl, ?_⟩
    have q' := q _ s1
    unfold cellN at q'
    rw [if_neg c2] at q'
    by_cases e : ns = []
    · rw [if_pos e] at q'
      show (if (decide (ns = []) : Bool) = true then _ else _)
      rw [decide_eq_true e]
      exact iteT ⟨_, rfl, _, _, rfl, rfl, mulOk_left (by decide), _, _, rfl, rfl, q'⟩
    · rw [if_neg e] at q'
      show (if (decide (ns = []) : Bool) = true then _ else _)
      rw [decide_eq_false e]
      refine iteF ?_
      have hpos : 0 < ns.length := List.length_pos_iff.mpr e
      have hlt : k % ns.length < ns.length := Nat.mod_lt _ hpos
      refine ⟨_, rfl, _, rfl, _, rfl, a, _, rfl, .inl hS1, _, _, nv (k % ns.length), rfl, rfl, (by show (0 : Int) < _; omega), ?_, a, _, _, V.int (ns.getD (k % ns.length) 0), rfl, rfl, hS1, at_nat (by rw [List.getElem?_map, List.getElem?_eq_getElem hlt, List.getD_eq_getElem?_getD, List.getElem?_eq_getElem hlt]; rfl), ?_⟩
      · show V.int ((k : Int) % (((ns.map V.int).length : Nat) : Int)) = V.int ((k % ns.length : Nat) : Int)
        rw [hl]; rfl
      refine ⟨_, _, rfl, rfl, (by show (0 : Int) < 1000003; decide), _, rfl, _, _, rfl, rfl, mulOk_left (by decide), _, _, rfl, rfl, _, rfl, _, _, rfl, rfl, mulOk_left (by decide), _, _, rfl, rfl, _, _, rfl, rfl, mulOk_small (by omega), _, _, rfl, rfl, (by show (0 : Int) < 2147483647; decide), q'⟩
theorem mod_nat (c : Int) (m : Nat) (hm : 0 < m) : ∃ b : Nat, c % (m : Int) = (b : Int) ∧ b < m := by
  have a1 := Int.emod_nonneg c (show (m : Int) ≠ 0 by omega)
  have a2 := Int.emod_lt_of_pos c (show (0 : Int) < (m : Int) by omega)
  exact ⟨(c % (m : Int)).toNat, by omega, by omega⟩
theorem ok_M_Bid_depth {f : Addr} {fd : FuncData} (F : Fun K "depth" "Bid.depth" s_M_Bid_depth f fd)
    (O_Bid : Own K mg "Bid" c_Bid [])
    (O_Only : Own K mg "Only" c_Only ["bundle", "amount"])
    (O_SoMany : Own K mg "SoMany" c_SoMany ["kind", "least", "amount"])
    (O_UpTo : Own K mg "UpTo" c_UpTo ["kind", "most", "each"])
    (O_Several : Own K mg "Several" c_Several ["bids"])
    (O_AnyOf : Own K mg "AnyOf" c_AnyOf ["bids"])
    (O_OneOf : Own K mg "OneOf" c_OneOf ["bids"]) : FnOk P w K mg base CX0 1 f fd ["self"] (sp_M_Bid_depth K c_Bid) := by
  refine F.okQ sc_M_Bid_depth (fun vs H Q E h => ?_) (fun cdv A outer s H vs Q E hr h => ?_)
  · obtain ⟨a, rfl, _⟩ := h; rfl
  obtain ⟨a, rfl, q⟩ := h
  refine ⟨_, (R.pss_one (R.ps_ret R.pe_int)), ?_⟩
  exact q
theorem ok_M_Bid_tally {f : Addr} {fd : FuncData} (F : Fun K "tally" "Bid.tally" s_M_Bid_tally f fd)
    (O_Bid : Own K mg "Bid" c_Bid [])
    (O_Only : Own K mg "Only" c_Only ["bundle", "amount"])
    (O_SoMany : Own K mg "SoMany" c_SoMany ["kind", "least", "amount"])
    (O_UpTo : Own K mg "UpTo" c_UpTo ["kind", "most", "each"])
    (O_Several : Own K mg "Several" c_Several ["bids"])
    (O_AnyOf : Own K mg "AnyOf" c_AnyOf ["bids"])
    (O_OneOf : Own K mg "OneOf" c_OneOf ["bids"]) : FnOk P w K mg base CX0 1 f fd ["self"] (sp_M_Bid_tally K c_Bid) := by
  refine F.okQ sc_M_Bid_tally (fun vs H Q E h => ?_) (fun cdv A outer s H vs Q E hr h => ?_)
  · obtain ⟨a, rfl, _⟩ := h; rfl
  obtain ⟨a, rfl, q⟩ := h
  refine ⟨_, (R.pss_one (R.ps_ret R.pe_int)), ?_⟩
  exact q
theorem kit_self' {K : PySem.W.Frag} {u : Value} : PySem.W.kitOne K u u = some true := by unfold PySem.W.kitOne; rw [if_pos (beq_self_eq_true _)]
theorem ask_depth (K : PySem.W.Frag) {c_Bid c_Only c_SoMany c_UpTo c_Several c_AnyOf c_OneOf : Addr} {A : Addr → Prop} {H : Hp} {d : Nat} {b : Addr} {t : Tr} (hb : IsTr c_Bid c_Only c_SoMany c_UpTo c_AnyOf c_OneOf A H d b t) (few : tallyT t ≤ 100) :
    ∃ (C dx : Addr) (fs : List (Str × V)) (sp : Sp), H b = some (.ins C dx fs) ∧ fs.lookup ("depth" : Str) = none ∧ T1 depthT c_Bid c_Only c_SoMany c_UpTo c_Several c_AnyOf c_OneOf d C sp ∧ ∀ Q : VK, (∀ H', Same H H' → Q (nv (depthT t)) H') → sp [.ref b] H Q E0 := by
  cases d with
  | zero => exact hb.elim
  | succ d =>
    cases t with
    | leaf f =>
      obtain ⟨_, hb⟩ := hb
      cases f <;> obtain ⟨dx, e⟩ := hb
      · exact ⟨_, dx, _, _, e, rfl, .inl ⟨.inl rfl, rfl⟩, fun Q q => ⟨b, rfl, q H (Same.refl H)⟩⟩
      · exact ⟨_, dx, _, _, e, rfl, .inl ⟨.inr (.inl rfl), rfl⟩, fun Q q => ⟨b, rfl, q H (Same.refl H)⟩⟩
      · exact ⟨_, dx, _, _, e, rfl, .inl ⟨.inr (.inr (.inl rfl)), rfl⟩, fun Q q => ⟨b, rfl, q H (Same.refl H)⟩⟩
      · exact ⟨_, dx, _, _, e, rfl, .inl ⟨.inr (.inr (.inr rfl)), rfl⟩, fun Q q => ⟨b, rfl, q H (Same.refl H)⟩⟩
    | node any ts =>
      have hb' := hb
      obtain ⟨dx, l, bs, e1, e2, e3, e4⟩ := hb
      have few2 : tallyL ts ≤ 100 := by have : 1 + tallyL ts ≤ 100 := few; omega
      refine ⟨_, dx, _, _, e1, rfl, .inr ⟨?_, rfl⟩, fun Q q => ⟨b, any, ts, A, rfl, hb', few2, q⟩⟩
      cases any
      · exact .inr rfl
      · exact .inl rfl
theorem ask_tally (K : PySem.W.Frag) {c_Bid c_Only c_SoMany c_UpTo c_Several c_AnyOf c_OneOf : Addr} {A : Addr → Prop} {H : Hp} {d : Nat} {b : Addr} {t : Tr} (hb : IsTr c_Bid c_Only c_SoMany c_UpTo c_AnyOf c_OneOf A H d b t) (few : tallyT t ≤ 100) :
    ∃ (C dx : Addr) (fs : List (Str × V)) (sp : Sp), H b = some (.ins C dx fs) ∧ fs.lookup ("tally" : Str) = none ∧ T1 tallyT c_Bid c_Only c_SoMany c_UpTo c_Several c_AnyOf c_OneOf d C sp ∧ ∀ Q : VK, (∀ H', Same H H' → Q (nv (tallyT t)) H') → sp [.ref b] H Q E0 := by
  cases d with
  | zero => exact hb.elim
  | succ d =>
    cases t with
    | leaf f =>
      obtain ⟨_, hb⟩ := hb
      cases f <;> obtain ⟨dx, e⟩ := hb
      · exact ⟨_, dx, _, _, e, rfl, .inl ⟨.inl rfl, rfl⟩, fun Q q => ⟨b, rfl, q H (Same.refl H)⟩⟩
      · exact ⟨_, dx, _, _, e, rfl, .inl ⟨.inr (.inl rfl), rfl⟩, fun Q q => ⟨b, rfl, q H (Same.refl H)⟩⟩
      · exact ⟨_, dx, _, _, e, rfl, .inl ⟨.inr (.inr (.inl rfl)), rfl⟩, fun Q q => ⟨b, rfl, q H (Same.refl H)⟩⟩
      · exact ⟨_, dx, _, _, e, rfl, .inl ⟨.inr (.inr (.inr rfl)), rfl⟩, fun Q q => ⟨b, rfl, q H (Same.refl H)⟩⟩
    | node any ts =>
      have hb' := hb
      obtain ⟨dx, l, bs, e1, e2, e3, e4⟩ := hb
      have few2 : tallyL ts ≤ 100 := by have : 1 + tallyL ts ≤ 100 := few; omega
      refine ⟨_, dx, _, _, e1, rfl, .inr ⟨?_, rfl⟩, fun Q q => ⟨b, any, ts, A, rfl, hb', few2, q⟩⟩
      cases any
      · exact .inr rfl
      · exact .inl rfl
theorem depthL_max {ts : List Tr} {m : Int} (hm : IsMax (ts.map fun t => ((depthT t : Nat) : Int)) m) : m = ((depthL ts : Nat) : Int) := by
  rw [depthL_top]
  exact top_isMax (fun z hz => by obtain ⟨t, _, rfl⟩ := List.mem_map.mp hz; exact Int.natCast_nonneg _) hm
theorem own2 
    (O_Bid : Own K mg "Bid" c_Bid [])
    (O_Only : Own K mg "Only" c_Only ["bundle", "amount"])
    (O_SoMany : Own K mg "SoMany" c_SoMany ["kind", "least", "amount"])
    (O_UpTo : Own K mg "UpTo" c_UpTo ["kind", "most", "each"])
    (O_Several : Own K mg "Several" c_Several ["bids"])
    (O_AnyOf : Own K mg "AnyOf" c_AnyOf ["bids"])
    (O_OneOf : Own K mg "OneOf" c_OneOf ["bids"]) (any : Bool) : Cls K (if any = true then c_AnyOf else c_OneOf) ∧ NoAttr K (if any = true then c_AnyOf else c_OneOf) "bids" := by
  cases any
  · exact ⟨O_OneOf.cls, O_OneOf.no _ (mem_at 0 rfl)⟩
  · exact ⟨O_AnyOf.cls, O_AnyOf.no _ (mem_at 0 rfl)⟩
theorem ok_P_depth_over (d : Nat) {f : Addr} {fd : FuncData} (F : Fun K "depth_over" "depth_over" s_P_depth_over f fd) (m_self : mg "depth_over" = some (.ref f)) (m_max : mg "max" = none) 
    (O_Bid : Own K mg "Bid" c_Bid [])
    (O_Only : Own K mg "Only" c_Only ["bundle", "amount"])
    (O_SoMany : Own K mg "SoMany" c_SoMany ["kind", "least", "amount"])
    (O_UpTo : Own K mg "UpTo" c_UpTo ["kind", "most", "each"])
    (O_Several : Own K mg "Several" c_Several ["bids"])
    (O_AnyOf : Own K mg "AnyOf" c_AnyOf ["bids"])
    (O_OneOf : Own K mg "OneOf" c_OneOf ["bids"])
    (hT_depth : ∀ C sp, T1 depthT c_Bid c_Only c_SoMany c_UpTo c_Several c_AnyOf c_OneOf d C sp → ∃ ps, MethD P w K mg base (2 * d + 1) C "depth" ps sp) : DefOk P w K mg base (2 * d + 2) "depth_over" ["bids"] [] (spOver depthL c_Bid c_Only c_SoMany c_UpTo c_Several c_AnyOf c_OneOf d) := by
  refine F.def_okQ m_self (bnd1 F fun _ _ _ _ _ _ _ => rfl) sc_P_depth_over (fun vs H Q E h => ?_) (fun cdv A outer s H vs Q E hr h => ?_)
  · obtain ⟨l, bs, ts, A, rfl, _⟩ := h; rfl
  obtain ⟨l, bs, ts, A, rfl, hl, hB, few, q⟩ := h
  have tl := tally_len ts
  refine ⟨_, (R.pss_one (R.ps_ret (R.pe_op (opE0 op_add) R.pe_int (R.pe_maxD K rfl rfl m_max (R.pe_comp (defScope s_P_depth_over) ["bids"] ["bid"] [] [] rfl rfl rfl ⟨s.heap.objs.size + 1, rfl⟩ rfl rfl (by decide +kernel) (R.pi_list (R.pv 0)) (fun C s2 H2 fp => (R.pg_name (i := 0) (show List.Nodup (["bid"] : List Str) from by decide +kernel) rfl (Or.inl rfl))) (fun C s2 H2 fp => R.pf_nil) (fun C s2 H2 fp => (R.pe_methV0 (R.pv 0) hT_depth hr (by first | decide | omega)))) R.pe_int)))), ?_⟩
  refine ⟨_, rfl, l, rfl, ⟨_, SqL.of hl⟩, fun l2 h2 => ?_⟩
  refine comp_lst1 (xs := bs.map V.ref) (fun k H' => Same H H' ∧ H' l2 = some (.lst (((ts.take k).map fun t => ((depthT t : Nat) : Int)).map V.int))) ⟨same_new h2 _, upd_same⟩ (fun k H' _ ⟨s, _⟩ => SqL.of (s _ _ hl)) ?_ ?_
  · rintro k v H1 hv ⟨s1, e1⟩ K1 K0 k1 k0
    obtain ⟨b, t, rfl, hb, ht, ib⟩ := hB.at hv
    have mt := tally_mem (List.mem_of_getElem? ht)
    obtain ⟨C, dx, ff, sp, g1, g2, g3, g4⟩ := ask_depth K (c_Several := c_Several) (ib.same s1) (by omega)
    refine ⟨_, rfl, b, C, dx, ff, sp, rfl, g1, g2, g3, g4 _ fun H3 s3 => k1 _ _ _ (s3 _ _ e1) ?_ ⟨(s1.trans s3).upd h2 _, ?_⟩⟩
    · rw [List.length_map, List.length_map, List.length_take]; exact small1000 (by omega)
    · rw [upd_same, List.take_succ, ht, List.map_append, List.map_append]; rfl
  · rintro H1 ⟨s1, e1⟩
    rw [List.length_map, hB.1, List.take_length] at e1
    refine ⟨l2, _, 0, rfl, rfl, SqL.of e1, fun e0 => ⟨_, _, nv (1 + depthL ts), rfl, rfl, ?_, q H1 s1⟩, fun m hm => ⟨_, _, nv (1 + depthL ts), rfl, rfl, ?_, q H1 s1⟩⟩
    · have : ts = [] := List.map_eq_nil_iff.mp e0
      subst this; rfl
    · rw [depthL_max hm]; show V.int (1 + ((depthL ts : Nat) : Int)) = V.int ((1 + depthL ts : Nat) : Int)
      congr 1
theorem ok_M_Several_depth (d : Nat) {f : Addr} {fd : FuncData} (F : Fun K "depth" "Several.depth" s_M_Several_depth f fd) (D_P_depth_over : DefOk P w K mg base (2 * d + 2) "depth_over" ["bids"] [] (spOver depthL c_Bid c_Only c_SoMany c_UpTo c_Several c_AnyOf c_OneOf d)) 
    (O_Bid : Own K mg "Bid" c_Bid [])
    (O_Only : Own K mg "Only" c_Only ["bundle", "amount"])
    (O_SoMany : Own K mg "SoMany" c_SoMany ["kind", "least", "amount"])
    (O_UpTo : Own K mg "UpTo" c_UpTo ["kind", "most", "each"])
    (O_Several : Own K mg "Several" c_Several ["bids"])
    (O_AnyOf : Own K mg "AnyOf" c_AnyOf ["bids"])
    (O_OneOf : Own K mg "OneOf" c_OneOf ["bids"]) :
    FnOk P w K mg base CX0 (2 * d + 3) f fd ["self"] (spSev depthT c_Bid c_Only c_SoMany c_UpTo c_Several c_AnyOf c_OneOf (d + 1)) := by
  refine F.okQ sc_M_Several_depth (fun vs H Q E h => ?_) (fun cdv A outer s H vs Q E hr h => ?_)
  · obtain ⟨a, any, ts, A, rfl, _⟩ := h; rfl
  obtain ⟨a, any, ts, A, rfl, hT, few, q⟩ := h
  obtain ⟨dx, l, bs, e1, e2, e3, e4⟩ := hT
  obtain ⟨hc, hn⟩ := own2 O_Bid O_Only O_SoMany O_UpTo O_Several O_AnyOf O_OneOf any
  refine ⟨_, (R.pss_one (R.ps_ret (R.pe_callD D_P_depth_over hr (by first | decide | omega) rfl (R.pa_c (R.pe_fld K (R.pv 0)) R.pa_nil)))), ?_⟩
  exact ⟨_, rfl, a, _, dx, _, .ref l, rfl, e1, hc, hn, rfl, l, bs, ts, A, rfl, e3, e4, few, q⟩
theorem fam_depth {fB fS fO : Addr} {dB dS dO : FuncData} (FB : Fun K "depth" "Bid.depth" s_M_Bid_depth fB dB) (FS : Fun K "depth" "Several.depth" s_M_Several_depth fS dS) (FO : Fun K "depth_over" "depth_over" s_P_depth_over fO dO) (gO : mg "depth_over" = some (.ref fO)) (m_max : mg "max" = none) 
    (O_Bid : Own K mg "Bid" c_Bid [])
    (O_Only : Own K mg "Only" c_Only ["bundle", "amount"])
    (O_SoMany : Own K mg "SoMany" c_SoMany ["kind", "least", "amount"])
    (O_UpTo : Own K mg "UpTo" c_UpTo ["kind", "most", "each"])
    (O_Several : Own K mg "Several" c_Several ["bids"])
    (O_AnyOf : Own K mg "AnyOf" c_AnyOf ["bids"])
    (O_OneOf : Own K mg "OneOf" c_OneOf ["bids"])
    (M1 : Meth K c_Bid "depth" fB) (M2 : Meth K c_Only "depth" fB) (M3 : Meth K c_SoMany "depth" fB) (M4 : Meth K c_UpTo "depth" fB) (M5 : Meth K c_AnyOf "depth" fS) (M6 : Meth K c_OneOf "depth" fS) :
    ∀ d, ∀ C sp, T1 depthT c_Bid c_Only c_SoMany c_UpTo c_Several c_AnyOf c_OneOf d C sp → ∃ ps, MethD P w K mg base (2 * d + 1) C "depth" ps sp := by
  have leaf := ok_M_Bid_depth (P := P) (w := w) (base := base) (mg := mg) FB O_Bid O_Only O_SoMany O_UpTo O_Several O_AnyOf O_OneOf
  have bB : Binds K dB ["self"] [] := bnd1 FB fun _ _ _ _ _ _ _ => rfl
  have bS : Binds K dS ["self"] [] := bnd1 FS fun _ _ _ _ _ _ _ => rfl
  have put : ∀ d, FnOk P w K mg base CX0 (2 * d + 1) fS dS ["self"] (spSev depthT c_Bid c_Only c_SoMany c_UpTo c_Several c_AnyOf c_OneOf d) → ∀ C sp, T1 depthT c_Bid c_Only c_SoMany c_UpTo c_Several c_AnyOf c_OneOf d C sp → ∃ ps, MethD P w K mg base (2 * d + 1) C "depth" ps sp := by
    intro d hS C sp hT
    have lf : FnOk P w K mg base CX0 (2 * d + 1) fB dB ["self"] sp1 := leaf.mono (by omega)
    rcases hT with ⟨hC, rfl⟩ | ⟨hC, rfl⟩
    · rcases hC with rfl | rfl | rfl | rfl
      · exact ⟨_, fB, dB, lf, bB, M1, O_Bid.cls⟩
      · exact ⟨_, fB, dB, lf, bB, M2, O_Only.cls⟩
      · exact ⟨_, fB, dB, lf, bB, M3, O_SoMany.cls⟩
      · exact ⟨_, fB, dB, lf, bB, M4, O_UpTo.cls⟩
    · rcases hC with rfl | rfl
      · exact ⟨_, fS, dS, hS, bS, M5, O_AnyOf.cls⟩
      · exact ⟨_, fS, dS, hS, bS, M6, O_OneOf.cls⟩
  intro d
  induction d with
  | zero =>
    refine put 0 (FS.okQ sc_M_Several_depth (fun vs H Q E h => ?_) (fun cdv A outer s H vs Q E hr h => ?_))
    · obtain ⟨a, any, ts, A, rfl, _⟩ := h; rfl
    · obtain ⟨a, any, ts, A, rfl, hT, _⟩ := h; exact hT.elim
  | succ d ih => exact put (d + 1) (ok_M_Several_depth d FS (ok_P_depth_over d FO gO m_max O_Bid O_Only O_SoMany O_UpTo O_Several O_AnyOf O_OneOf ih) O_Bid O_Only O_SoMany O_UpTo O_Several O_AnyOf O_OneOf)
theorem ok_P_tally_over (d : Nat) {f : Addr} {fd : FuncData} (F : Fun K "tally_over" "tally_over" s_P_tally_over f fd) (m_self : mg "tally_over" = some (.ref f)) (m_sum : mg "sum" = none) 
    (O_Bid : Own K mg "Bid" c_Bid [])
    (O_Only : Own K mg "Only" c_Only ["bundle", "amount"])
    (O_SoMany : Own K mg "SoMany" c_SoMany ["kind", "least", "amount"])
    (O_UpTo : Own K mg "UpTo" c_UpTo ["kind", "most", "each"])
    (O_Several : Own K mg "Several" c_Several ["bids"])
    (O_AnyOf : Own K mg "AnyOf" c_AnyOf ["bids"])
    (O_OneOf : Own K mg "OneOf" c_OneOf ["bids"])
    (hT_tally : ∀ C sp, T1 tallyT c_Bid c_Only c_SoMany c_UpTo c_Several c_AnyOf c_OneOf d C sp → ∃ ps, MethD P w K mg base (2 * d + 1) C "tally" ps sp) : DefOk P w K mg base (2 * d + 2) "tally_over" ["bids"] [] (spOver tallyL c_Bid c_Only c_SoMany c_UpTo c_Several c_AnyOf c_OneOf d) := by
  refine F.def_okQ m_self (bnd1 F fun _ _ _ _ _ _ _ => rfl) sc_P_tally_over (fun vs H Q E h => ?_) (fun cdv A outer s H vs Q E hr h => ?_)
  · obtain ⟨l, bs, ts, A, rfl, _⟩ := h; rfl
  obtain ⟨l, bs, ts, A, rfl, hl, hB, few, q⟩ := h
  have tl := tally_len ts
  refine ⟨_, (R.pss_one (R.ps_ret (R.pe_op (opE0 op_add) R.pe_int (R.pe_cB (call_sumL rfl) rfl m_sum (boot_sum) (R.pa_c (R.pe_comp (defScope s_P_tally_over) ["bids"] ["bid"] [] [] rfl rfl rfl ⟨s.heap.objs.size + 1, rfl⟩ rfl rfl (by decide +kernel) (R.pi_list (R.pv 0)) (fun C s2 H2 fp => (R.pg_name (i := 0) (show List.Nodup (["bid"] : List Str) from by decide +kernel) rfl (Or.inl rfl))) (fun C s2 H2 fp => R.pf_nil) (fun C s2 H2 fp => (R.pe_methV0 (R.pv 0) hT_tally hr (by first | decide | omega)))) R.pa_nil))))), ?_⟩
  refine ⟨_, rfl, l, rfl, ⟨_, SqL.of hl⟩, fun l2 h2 => ?_⟩
  refine comp_lst1 (xs := bs.map V.ref) (fun k H' => Same H H' ∧ H' l2 = some (.lst (((ts.take k).map fun t => ((tallyT t : Nat) : Int)).map V.int))) ⟨same_new h2 _, upd_same⟩ (fun k H' _ ⟨s, _⟩ => SqL.of (s _ _ hl)) ?_ ?_
  · rintro k v H1 hv ⟨s1, e1⟩ K1 K0 k1 k0
    obtain ⟨b, t, rfl, hb, ht, ib⟩ := hB.at hv
    have mt := tally_mem (List.mem_of_getElem? ht)
    obtain ⟨C, dx, ff, sp, g1, g2, g3, g4⟩ := ask_tally K (c_Several := c_Several) (ib.same s1) (by omega)
    refine ⟨_, rfl, b, C, dx, ff, sp, rfl, g1, g2, g3, g4 _ fun H3 s3 => k1 _ _ _ (s3 _ _ e1) ?_ ⟨(s1.trans s3).upd h2 _, ?_⟩⟩
    · rw [List.length_map, List.length_map, List.length_take]; exact small1000 (by omega)
    · rw [upd_same, List.take_succ, ht, List.map_append, List.map_append]; rfl
  · rintro H1 ⟨s1, e1⟩
    rw [List.length_map, hB.1, List.take_length] at e1
    refine ⟨l2, _, rfl, SqL.of e1, _, _, nv (1 + tallyL ts), rfl, rfl, ?_, q H1 s1⟩
    rw [← tallyL_sum]; show V.int (1 + ((tallyL ts : Nat) : Int)) = V.int ((1 + tallyL ts : Nat) : Int)
    congr 1
theorem ok_M_Several_tally (d : Nat) {f : Addr} {fd : FuncData} (F : Fun K "tally" "Several.tally" s_M_Several_tally f fd) (D_P_tally_over : DefOk P w K mg base (2 * d + 2) "tally_over" ["bids"] [] (spOver tallyL c_Bid c_Only c_SoMany c_UpTo c_Several c_AnyOf c_OneOf d)) 
    (O_Bid : Own K mg "Bid" c_Bid [])
    (O_Only : Own K mg "Only" c_Only ["bundle", "amount"])
    (O_SoMany : Own K mg "SoMany" c_SoMany ["kind", "least", "amount"])
    (O_UpTo : Own K mg "UpTo" c_UpTo ["kind", "most", "each"])
    (O_Several : Own K mg "Several" c_Several ["bids"])
    (O_AnyOf : Own K mg "AnyOf" c_AnyOf ["bids"])
    (O_OneOf : Own K mg "OneOf" c_OneOf ["bids"]) :
    FnOk P w K mg base CX0 (2 * d + 3) f fd ["self"] (spSev tallyT c_Bid c_Only c_SoMany c_UpTo c_Several c_AnyOf c_OneOf (d + 1)) := by
  refine F.okQ sc_M_Several_tally (fun vs H Q E h => ?_) (fun cdv A outer s H vs Q E hr h => ?_)
  · obtain ⟨a, any, ts, A, rfl, _⟩ := h; rfl
  obtain ⟨a, any, ts, A, rfl, hT, few, q⟩ := h
  obtain ⟨dx, l, bs, e1, e2, e3, e4⟩ := hT
  obtain ⟨hc, hn⟩ := own2 O_Bid O_Only O_SoMany O_UpTo O_Several O_AnyOf O_OneOf any
  refine ⟨_, (R.pss_one (R.ps_ret (R.pe_callD D_P_tally_over hr (by first | decide | omega) rfl (R.pa_c (R.pe_fld K (R.pv 0)) R.pa_nil)))), ?_⟩
  exact ⟨_, rfl, a, _, dx, _, .ref l, rfl, e1, hc, hn, rfl, l, bs, ts, A, rfl, e3, e4, few, q⟩
theorem fam_tally {fB fS fO : Addr} {dB dS dO : FuncData} (FB : Fun K "tally" "Bid.tally" s_M_Bid_tally fB dB) (FS : Fun K "tally" "Several.tally" s_M_Several_tally fS dS) (FO : Fun K "tally_over" "tally_over" s_P_tally_over fO dO) (gO : mg "tally_over" = some (.ref fO)) (m_sum : mg "sum" = none) 
    (O_Bid : Own K mg "Bid" c_Bid [])
    (O_Only : Own K mg "Only" c_Only ["bundle", "amount"])
    (O_SoMany : Own K mg "SoMany" c_SoMany ["kind", "least", "amount"])
    (O_UpTo : Own K mg "UpTo" c_UpTo ["kind", "most", "each"])
    (O_Several : Own K mg "Several" c_Several ["bids"])
    (O_AnyOf : Own K mg "AnyOf" c_AnyOf ["bids"])
    (O_OneOf : Own K mg "OneOf" c_OneOf ["bids"])
    (M1 : Meth K c_Bid "tally" fB) (M2 : Meth K c_Only "tally" fB) (M3 : Meth K c_SoMany "tally" fB) (M4 : Meth K c_UpTo "tally" fB) (M5 : Meth K c_AnyOf "tally" fS) (M6 : Meth K c_OneOf "tally" fS) :
    ∀ d, ∀ C sp, T1 tallyT c_Bid c_Only c_SoMany c_UpTo c_Several c_AnyOf c_OneOf d C sp → ∃ ps, MethD P w K mg base (2 * d + 1) C "tally" ps sp := by
  have leaf := ok_M_Bid_tally (P := P) (w := w) (base := base) (mg := mg) FB O_Bid O_Only O_SoMany O_UpTo O_Several O_AnyOf O_OneOf
  have bB : Binds K dB ["self"] [] := bnd1 FB fun _ _ _ _ _ _ _ => rfl
  have bS : Binds K dS ["self"] [] := bnd1 FS fun _ _ _ _ _ _ _ => rfl
  have put : ∀ d, FnOk P w K mg base CX0 (2 * d + 1) fS dS ["self"] (spSev tallyT c_Bid c_Only c_SoMany c_UpTo c_Several c_AnyOf c_OneOf d) → ∀ C sp, T1 tallyT c_Bid c_Only c_SoMany c_UpTo c_Several c_AnyOf c_OneOf d C sp → ∃ ps, MethD P w K mg base (2 * d + 1) C "tally" ps sp := by
    intro d hS C sp hT
    have lf : FnOk P w K mg base CX0 (2 * d + 1) fB dB ["self"] sp1 := leaf.mono (by omega)
    rcases hT with ⟨hC, rfl⟩ | ⟨hC, rfl⟩
    · rcases hC with rfl | rfl | rfl | rfl
      · exact ⟨_, fB, dB, lf, bB, M1, O_Bid.cls⟩
      · exact ⟨_, fB, dB, lf, bB, M2, O_Only.cls⟩
      · exact ⟨_, fB, dB, lf, bB, M3, O_SoMany.cls⟩
      · exact ⟨_, fB, dB, lf, bB, M4, O_UpTo.cls⟩
    · rcases hC with rfl | rfl
      · exact ⟨_, fS, dS, hS, bS, M5, O_AnyOf.cls⟩
      · exact ⟨_, fS, dS, hS, bS, M6, O_OneOf.cls⟩
  intro d
  induction d with
  | zero =>
    refine put 0 (FS.okQ sc_M_Several_tally (fun vs H Q E h => ?_) (fun cdv A outer s H vs Q E hr h => ?_))
    · obtain ⟨a, any, ts, A, rfl, _⟩ := h; rfl
    · obtain ⟨a, any, ts, A, rfl, hT, _⟩ := h; exact hT.elim
  | succ d ih => exact put (d + 1) (ok_M_Several_tally d FS (ok_P_tally_over d FO gO m_sum O_Bid O_Only O_SoMany O_UpTo O_Several O_AnyOf O_OneOf ih) O_Bid O_Only O_SoMany O_UpTo O_Several O_AnyOf O_OneOf)
theorem ok_P_check_bids {f : Addr} {fd : FuncData} (F : Fun K "check_bids" "check_bids" s_P_check_bids f fd) (m_self : mg "check_bids" = some (.ref f)) (m_isinstance : mg "isinstance" = none) (m_list : mg "list" = none)
    (D_P_depth_over : DefOk P w K mg base 10 "depth_over" ["bids"] [] (sp_P_depth_over K c_Bid c_Only c_SoMany c_UpTo c_Several c_AnyOf c_OneOf))
    (D_P_tally_over : DefOk P w K mg base 10 "tally_over" ["bids"] [] (sp_P_tally_over K c_Bid c_Only c_SoMany c_UpTo c_Several c_AnyOf c_OneOf))
    (O_Bid : Own K mg "Bid" c_Bid [])
    (O_Only : Own K mg "Only" c_Only ["bundle", "amount"])
    (O_SoMany : Own K mg "SoMany" c_SoMany ["kind", "least", "amount"])
    (O_UpTo : Own K mg "UpTo" c_UpTo ["kind", "most", "each"])
    (O_Several : Own K mg "Several" c_Several ["bids"])
    (O_AnyOf : Own K mg "AnyOf" c_AnyOf ["bids"])
    (O_OneOf : Own K mg "OneOf" c_OneOf ["bids"])
    (kit_Bid_Bid : PySem.W.kitOne K (.ref c_Bid) (.ref c_Bid) = some true)
    (kit_Only_Bid : PySem.W.kitOne K (.ref c_Only) (.ref c_Bid) = some true)
    (kit_SoMany_Bid : PySem.W.kitOne K (.ref c_SoMany) (.ref c_Bid) = some true)
    (kit_UpTo_Bid : PySem.W.kitOne K (.ref c_UpTo) (.ref c_Bid) = some true)
    (kit_Several_Bid : PySem.W.kitOne K (.ref c_Several) (.ref c_Bid) = some true)
    (kit_AnyOf_Bid : PySem.W.kitOne K (.ref c_AnyOf) (.ref c_Bid) = some true)
    (kit_OneOf_Bid : PySem.W.kitOne K (.ref c_OneOf) (.ref c_Bid) = some true) : DefOk P w K mg base 11 "check_bids" ["bids"] [] (sp_P_check_bids K c_Bid c_Only c_SoMany c_UpTo c_Several c_AnyOf c_OneOf) := by
  have isB : ∀ {H : Hp} {b : Addr} {d : Nat} {A : Addr → Prop} {t : Tr}, IsTr c_Bid c_Only c_SoMany c_UpTo c_AnyOf c_OneOf A H d b t → ∃ t, TyOf K H (.ref b) t ∧ PySem.W.kitOne K t (.ref c_Bid) = some true := fun {H b d A t} hb => by
    cases d with
    | zero => exact hb.elim
    | succ d =>
      cases t with
      | leaf f =>
        obtain ⟨_, hb⟩ := hb
        cases f <;> obtain ⟨dx, e⟩ := hb
        · exact ⟨_, O_Bid.ty e, kit_Bid_Bid⟩
        · exact ⟨_, O_Only.ty e, kit_Only_Bid⟩
        · exact ⟨_, O_SoMany.ty e, kit_SoMany_Bid⟩
        · exact ⟨_, O_UpTo.ty e, kit_UpTo_Bid⟩
      | node any ts =>
        obtain ⟨dx, l, bs, e, _⟩ := hb
        cases any
        · exact ⟨_, O_OneOf.ty e, kit_OneOf_Bid⟩
        · exact ⟨_, O_AnyOf.ty e, kit_AnyOf_Bid⟩
  refine F.def_okQ m_self (bnd1 F fun _ _ _ _ _ _ _ => rfl) sc_P_check_bids (fun vs H Q E h => ?_) (fun cdv A outer s H vs Q E hr h => ?_)
  · obtain ⟨l, bs, ts, A, d, rfl, _⟩ := h; rfl
  obtain ⟨l, bs, ts, A, d, rfl, hl, hB, hd, hy, q⟩ := h
  refine ⟨_, (R.pss_cons (R.ps_if (R.pt_not (R.pt_val (R.pe_isTy rfl m_isinstance rfl m_list (boot_list) (R.pv 0)))) (R.pss_one R.ps_never) R.pss_nil)
    (R.pss_cons (R.ps_for PassesOwn.never rfl (R.pi_list (R.pv 0)) (R.pg_name (i := 1) sc_P_check_bids.nd rfl (Or.inl rfl)) (R.pss_one (R.ps_if (R.pt_not (R.pt_val (R.pe_isOwn rfl m_isinstance rfl O_Bid.at_ (R.pv 1)))) (R.pss_one R.ps_never) R.pss_nil)))
    (R.pss_cons (R.ps_if (R.pt_cmpR op_gt (R.pe_callD D_P_depth_over hr (by first | decide | omega) rfl (R.pa_c (R.pv 0) R.pa_nil)) R.pe_int (nomark _)) (R.pss_one R.ps_never) R.pss_nil)
    (R.pss_one (R.ps_if (R.pt_cmpR op_gt (R.pe_callD D_P_tally_over hr (by first | decide | omega) rfl (R.pa_c (R.pv 0) R.pa_nil)) R.pe_int (nomark _)) (R.pss_one R.ps_never) R.pss_nil))))), ?_⟩
  refine ⟨_, rfl, _, _, true, rfl, TyOf.lst hl, kit_self', _, rfl, iteF ?_⟩
  refine ⟨_, rfl, l, rfl, ⟨_, SqL.of hl⟩, ?_⟩
  refine for_list (xs := bs.map V.ref) (fun i σ H' => H' = H ∧ ∃ y, σ = [some (.ref l), y]) ?_ ?_ ?_ ?_
  · exact ⟨rfl, _, rfl⟩
  · rintro i σ H' _ ⟨rfl, _⟩; exact SqL.of hl
  · rintro i v σ H' hv ⟨rfl, y, rfl⟩
    obtain ⟨b, t, rfl, hb, ht, ib⟩ := hB.at hv
    obtain ⟨t, ht, hk⟩ := isB ib
    exact ⟨_, rfl, _, t, true, rfl, ht, hk, _, rfl, iteF ⟨rfl, _, rfl⟩⟩
  · rintro σ H' ⟨rfl, y, rfl⟩
    have hB4 : All2 (IsTr c_Bid c_Only c_SoMany c_UpTo c_AnyOf c_OneOf A H' 4) bs ts := hB.imp fun x y hy z => IsTr.to d 4 z (by have := depth_mem hy; omega)
    refine ⟨_, rfl, l, bs, ts, A, rfl, hl, hB4, by omega, fun H1 s1 => ⟨_, _, rfl, rfl, _, rfl, ?_⟩⟩
    rw [decide_eq_false (show ¬ (4 : Int) < ((1 + depthL ts : Nat) : Int) by omega)]
    refine iteF ?_
    refine ⟨_, rfl, l, bs, ts, A, rfl, s1 _ _ hl, hB4.imp fun x y _ z => z.same s1, by omega, fun H2 s2 => ⟨_, _, rfl, rfl, _, rfl, ?_⟩⟩
    rw [decide_eq_false (show ¬ (24 : Int) < ((1 + tallyL ts : Nat) : Int) by omega)]
    exact iteF (q _ (s1.trans s2))
theorem ok_M_Several___init__ (c : Addr) {f : Addr} {fd : FuncData} (F : Fun K "__init__" "Several.__init__" s_M_Several___init__ f fd) (m_list : mg "list" = none)
    (D_P_check_bids : DefOk P w K mg base 11 "check_bids" ["bids"] [] (sp_P_check_bids K c_Bid c_Only c_SoMany c_UpTo c_Several c_AnyOf c_OneOf))
    (O_Bid : Own K mg "Bid" c_Bid [])
    (O_Only : Own K mg "Only" c_Only ["bundle", "amount"])
    (O_SoMany : Own K mg "SoMany" c_SoMany ["kind", "least", "amount"])
    (O_UpTo : Own K mg "UpTo" c_UpTo ["kind", "most", "each"])
    (O_Several : Own K mg "Several" c_Several ["bids"])
    (O_AnyOf : Own K mg "AnyOf" c_AnyOf ["bids"])
    (O_OneOf : Own K mg "OneOf" c_OneOf ["bids"]) : FnOk P w K mg base CX0 12 f fd ["self", "bids"] (sp_M_Several___init__ K c c_Bid c_Only c_SoMany c_UpTo c_Several c_AnyOf c_OneOf) := by
  refine F.okQ sc_M_Several___init__ (fun vs H Q E h => ?_) (fun cdv A outer s H vs Q E hr h => ?_)
  · obtain ⟨a, dx, l, bs, ts, A, d, rfl, _⟩ := h; rfl
  obtain ⟨a, dx, l, bs, ts, A, d, rfl, ha, hc, hl, hB, hd, hy, q⟩ := h
  refine ⟨_, (R.pss_cons (R.ps_expr (R.pe_callD D_P_check_bids hr (by first | decide | omega) rfl (R.pa_c (R.pv 1) R.pa_nil)))
    (R.pss_one (R.ps_fld (R.pv 0) (R.pe_cTy call_list_of rfl m_list (boot_list) (R.pa_c (R.pv 1) R.pa_nil))))), ?_⟩
  obtain ⟨o1, o2⟩ : Cls K c ∧ NoAttr K c "bids" := by
    rcases hc with rfl | rfl
    · exact ⟨O_AnyOf.cls, O_AnyOf.no _ (mem_at 0 rfl)⟩
    · exact ⟨O_OneOf.cls, O_OneOf.no _ (mem_at 0 rfl)⟩
  refine ⟨_, rfl, l, bs, ts, A, d, rfl, hl, hB, hd, hy, fun H1 s1 => ?_⟩
  refine ⟨_, rfl, l, _, rfl, .inl (SqL.of (s1 _ _ hl)), fun lb hb => ?_⟩
  have hab : a ≠ lb := ne_of_none (s1 _ _ ha) hb
  exact ⟨_, rfl, a, c, dx, [], rfl, by rw [upd_ne hab]; exact s1 _ _ ha, o1, o2, by decide, q H1 lb s1 hb⟩
theorem made_same {H : Hp} {x dx : Addr} {o u : HO} (nx : H x = none) (nd : H dx = none) : Same H (upd (upd (upd H dx (.own x)) x o) x u) := (((Same.refl H).upd nd _).upd nx _).upd nx _
/-- several bids have been put together -/
theorem made_tr {c_Bid c_Only c_SoMany c_UpTo c_Several c_AnyOf c_OneOf : Addr} {A : Addr → Prop} {H H1 : Hp} {x dx lb c : Addr} {bs : List Addr} {ts : List Tr} {d : Nat} {any : Bool} (nx : H x = none) (nd : H dx = none) (s1 : Same (upd (upd H dx (.own x)) x (.ins c dx [])) H1) (hb : H1 lb = none) (hB : All2 (IsTr c_Bid c_Only c_SoMany c_UpTo c_AnyOf c_OneOf A H d) bs ts) (hc : c = if any = true then c_AnyOf else c_OneOf) :
    Same H (upd (upd H1 lb (.lst (bs.map V.ref))) x (.ins c dx (fsSev lb))) ∧ H lb = none ∧ IsTr c_Bid c_Only c_SoMany c_UpTo c_AnyOf c_OneOf (fun l => A l ∨ l = lb) (upd (upd H1 lb (.lst (bs.map V.ref))) x (.ins c dx (fsSev lb))) (d + 1) x (.node any ts) := by
  have sH : Same H H1 := (((Same.refl H).upd nd _).upd nx _).trans s1
  have hlb := sH.free hb
  have S : Same H (upd (upd H1 lb (.lst (bs.map V.ref))) x (.ins c dx (fsSev lb))) := (sH.upd hlb _).upd nx _
  have ne : lb ≠ x := fun z => by
    have e := s1 _ _ (upd_same (H := upd H dx (.own x)) (a := x) (o := .ins c dx []))
    rw [← z, hb] at e; cases e
  subst hc
  exact ⟨S, hlb, dx, lb, bs, upd_same, .inr rfl, by rw [upd_ne ne]; exact upd_same, hB.imp fun y t _ z => (z.same S).imp fun l zs h _ => .inl h⟩
theorem ok_P_best_share {f : Addr} {fd : FuncData} (F : Fun K "best_share" "best_share" s_P_best_share f fd) (m_self : mg "best_share" = some (.ref f)) (m_max : mg "max" = none)
    (D_P_parts_of : DefOk P w K mg base 3 "parts_of" ["bundle"] [] (sp_P_parts_of K)) : DefOk P w K mg base 4 "best_share" ["one", "other", "bundle"] [] (sp_P_best_share K) := by
  refine F.def_okQ m_self (bnd3 F fun _ _ _ _ _ _ _ _ _ => rfl) sc_P_best_share (fun vs H Q E h => ?_) (fun cdv A outer s H vs Q E hr h => ?_)
  · obtain ⟨a, b, g, h, n, x, rfl, _⟩ := h; rfl
  obtain ⟨a, b, g, h, n, x, rfl, hn, hx, hg, hh, ha, hb, q⟩ := h
  obtain ⟨f1, f2⟩ := pow6 hn
  have x64 : x < 64 := by omega
  obtain ⟨p0, p64⟩ := subs_len x x64
  have pe := parts_subs x x64
  refine ⟨_, (R.pss_one (R.ps_ret (R.pe_cB (call_maxL rfl) rfl m_max (boot_max) (R.pa_c (R.pe_comp (defScope s_P_best_share) ["one", "other", "bundle"] ["part"] ["one", "other", "bundle"] [0, 1, 2] rfl rfl rfl ⟨s.heap.objs.size + 1, rfl⟩ rfl rfl (by decide +kernel) (R.pi_list (R.pe_callD D_P_parts_of hr (by first | decide | omega) rfl (R.pa_c (R.pv 2) R.pa_nil))) (fun C s2 H2 fp => (R.pg_name (i := 0) (show List.Nodup (["part", "one", "other", "bundle"] : List Str) from by decide +kernel) rfl (Or.inl rfl))) (fun C s2 H2 fp => R.pf_nil) (fun C s2 H2 fp => (R.pe_op op_add (R.pe_ix (R.ixL K) (R.pv 1) (R.pv 0) (fun _ _ => rfl)) (R.pe_ix (R.ixL K) (R.pv 2) (R.pe_op (opE0 op_sub) (R.pv 3) (R.pv 0)) (fun _ _ => rfl))))) R.pa_nil)))), ?_⟩
  refine ⟨_, rfl, x, rfl, x64, fun l H1 s1 hl e1 => ⟨l, rfl, ⟨_, SqL.of e1⟩, fun l2 h2 => ?_⟩⟩
  refine comp_lst_map nv (partsOf x) (fun _ => true) (fun p => .int (g p + h (x - p))) (SqL.of e1) (by rw [pe]; omega) h2 ?_ ?_ ?_
  · intro p hp H2 s2 C hC; exact hC _ (Same.refl _)
  · intro p hp _ H2 s2 C hC
    rw [pe] at hp
    have hp' := subs_mem.mp hp
    have ple : p ≤ x := by rw [← hp']; exact Nat.and_le_left
    have S2 := s1.trans s2
    refine ⟨_, rfl, _, rfl, a, _, _, _, rfl, rfl, S2.seq ha, tab_getD (by omega), _, rfl, _, rfl, _, rfl, _, _, nv (x - p), rfl, rfl, ?_, b, _, _, _, rfl, rfl, S2.seq hb, tab_getD (by omega), _, _, rfl, rfl, hC _ (Same.refl _)⟩
    show V.int ((x : Int) - (p : Int)) = V.int ((x - p : Nat) : Int)
    congr 1; omega
  · intro H2 s2 e2
    refine ⟨l2, (partsOf x).map (fun p => g p + h (x - p)), rfl, SqL.of ?_, ?_, fun m hm => ?_⟩
    · rw [e2, List.map_map, List.filter_eq_self.mpr (fun _ _ => rfl)]; rfl
    · rw [List.length_map, pe]; exact p0
    · rw [pe] at hm
      have em : m = conv g h x := top_isMax (fun z hz => by
        obtain ⟨p, hp, rfl⟩ := List.mem_map.mp hz
        exact part_nonneg hg hh x64 (subs_mem.mp hp)) hm
      rw [em]
      exact q _ (s1.trans s2)
theorem ok_P_shared_out {f : Addr} {fd : FuncData} (F : Fun K "shared_out" "shared_out" s_P_shared_out f fd) (m_self : mg "shared_out" = some (.ref f)) (m_range : mg "range" = none) (m_len : mg "len" = none)
    (D_P_best_share : DefOk P w K mg base 4 "best_share" ["one", "other", "bundle"] [] (sp_P_best_share K)) : DefOk P w K mg base 5 "shared_out" ["one", "other"] [] (sp_P_shared_out K) := by
  refine F.def_okQ m_self (bnd2 F fun _ _ _ _ _ _ _ _ => rfl) sc_P_shared_out (fun vs H Q E h => ?_) (fun cdv A outer s H vs Q E hr h => ?_)
  · obtain ⟨a, b, g, h, n, rfl, _⟩ := h; rfl
  obtain ⟨a, b, g, h, n, rfl, hn, hg, hh, ha, hb, q⟩ := h
  obtain ⟨f1, f2⟩ := pow6 hn
  have ln : ((tab g n).map V.int).length = 2 ^ n := by rw [List.length_map, tab_len]
  refine ⟨_, (R.pss_one (R.ps_ret (R.pe_comp (defScope s_P_shared_out) ["one", "other"] ["bundle"] ["one", "other"] [0, 1] rfl rfl rfl ⟨s.heap.objs.size + 1, rfl⟩ rfl rfl (by decide +kernel) (R.pi_range1 rfl m_range (R.pa_c (R.pe_cB call_len_seq rfl m_len PySem.boot_len (R.pa_c (R.pv 0) R.pa_nil)) R.pa_nil)) (fun C s2 H2 fp => (R.pg_name (i := 0) (show List.Nodup (["bundle", "one", "other"] : List Str) from by decide +kernel) rfl (Or.inl rfl))) (fun C s2 H2 fp => R.pf_nil) (fun C s2 H2 fp => (R.pe_callD D_P_best_share hr (by first | decide | omega) rfl (R.pa_c (R.pv 1) (R.pa_c (R.pv 2) (R.pa_c (R.pv 0) R.pa_nil)))))))), ?_⟩
  refine ⟨_, rfl, a, _, rfl, .inl ha, _, rfl, by omega, by omega, fun l hl => ?_⟩
  rw [Int.toNat_natCast, ln]
  refine comp_rng_map (n := 2 ^ n) (fun _ => true) (fun x => V.int (conv g h x)) (by omega) hl ?_ ?_ ?_
  · intro x H1 hx s1 C hC; exact hC _ (Same.refl _)
  · intro x H1 hx _ s1 C hC
    rw [Int.zero_add]
    exact ⟨_, rfl, _, rfl, _, rfl, a, b, g, h, n, x, rfl, hn, hx, hg, hh, s1.seq ha, s1.seq hb, fun H2 s2 => hC _ s2⟩
  · intro H1 s1 e1
    refine q l H1 s1 hl ?_
    rw [e1, List.filter_eq_self.mpr (fun _ _ => rfl)]
    unfold tab
    rw [List.map_map]; rfl
theorem tab_get {g : Nat → Int} {n k : Nat} {x : Int} (h : (tab g n)[k]? = some x) : k < 2 ^ n ∧ x = g k := by
  have hk := (List.getElem?_eq_some_iff.mp h).1
  rw [tab_len] at hk
  refine ⟨hk, ?_⟩
  unfold tab at h
  rw [List.getElem?_map, List.getElem?_eq_getElem (by rw [List.length_range]; exact hk), List.getElem_range] at h
  exact (Option.some.inj h).symm
theorem get_tab {g : Nat → Int} {n k : Nat} (hk : k < 2 ^ n) : (tab g n)[k]? = some (g k) := by
  unfold tab
  rw [List.getElem?_map, List.getElem?_eq_getElem (by rw [List.length_range]; exact hk), List.getElem_range]; rfl
theorem ok_P_greater_of {f : Addr} {fd : FuncData} (F : Fun K "greater_of" "greater_of" s_P_greater_of f fd) (m_self : mg "greater_of" = some (.ref f)) (m_max : mg "max" = none) (m_zip : mg "zip" = none) : DefOk P w K mg base 1 "greater_of" ["one", "other"] [] (sp_P_greater_of K) := by
  refine F.def_okQ m_self (bnd2 F fun _ _ _ _ _ _ _ _ => rfl) sc_P_greater_of (fun vs H Q E h => ?_) (fun cdv A outer s H vs Q E hr h => ?_)
  · obtain ⟨a, b, g, h, n, rfl, _⟩ := h; rfl
  obtain ⟨a, b, g, h, n, rfl, hn, hg, hh, ha, hb, q⟩ := h
  obtain ⟨f1, f2⟩ := pow6 hn
  refine ⟨_, (R.pss_one (R.ps_ret (R.pe_comp (defScope s_P_greater_of) ["one", "other"] ["first", "second"] [] [] rfl rfl rfl ⟨s.heap.objs.size + 1, rfl⟩ rfl rfl (by decide +kernel) (R.pi_zip rfl m_zip (R.pa_c (R.pv 0) (R.pa_c (R.pv 1) R.pa_nil))) (fun C s2 H2 fp => (R.pg_tup K 2 rfl (R.pgs_cons (R.pg_name (i := 0) (show List.Nodup (["first", "second"] : List Str) from by decide +kernel) rfl (Or.inl rfl)) (R.pgs_cons (R.pg_name (i := 1) (show List.Nodup (["first", "second"] : List Str) from by decide +kernel) rfl (Or.inl rfl)) R.pgs_nil)))) (fun C s2 H2 fp => R.pf_nil) (fun C s2 H2 fp => (R.pe_cB (call_max2 rfl) rfl m_max (boot_max) (R.pa_c (R.pv 0) (R.pa_c (R.pv 1) R.pa_nil))))))), ?_⟩
  refine ⟨_, rfl, _, rfl, a, b, rfl, ⟨_, ha⟩, ⟨_, hb⟩, fun l hl => ?_⟩
  refine comp_zip2 (xs := (tab g n).map V.int) (ys := (tab h n).map V.int) (by rw [List.length_map, List.length_map, tab_len, tab_len]) (fun k H' => Same H H' ∧ H' l = some (.lst (((tab (mx g h) n).take k).map V.int))) ⟨same_new hl _, upd_same⟩ (fun k H' _ ⟨s, _⟩ => ⟨s.seq ha, s.seq hb⟩) ?_ ?_
  · rintro k v u p H1 hv hu ⟨s1, e1⟩ hp K1 K0 k1 k0
    rw [List.getElem?_map] at hv hu
    obtain ⟨x, hx, rfl⟩ := Option.map_eq_some_iff.mp hv
    obtain ⟨y, hy, rfl⟩ := Option.map_eq_some_iff.mp hu
    obtain ⟨hk, rfl⟩ := tab_get hx
    obtain ⟨_, rfl⟩ := tab_get hy
    have s2 := same_new hp (.tup [V.int (g k), V.int (h k)])
    refine ⟨_, rfl, _, rfl, _, _, rfl, k1 _ _ _ (s2 _ _ e1) ?_ ⟨(s1.trans s2).upd hl _, ?_⟩⟩
    · rw [List.length_map, List.length_take]
      exact small1000 (by omega)
    · rw [upd_same, List.take_succ, get_tab hk, List.map_append]; rfl
  · rintro H1 ⟨s1, e1⟩
    refine q l H1 s1 hl ?_
    rw [e1, List.take_of_length_le (by rw [tab_len, List.length_map, tab_len]; exact Nat.le_refl _)]
theorem ask_worths (K : PySem.W.Frag) {c_Bid c_Only c_SoMany c_UpTo c_Several c_AnyOf c_OneOf : Addr} {A : Addr → Prop} {H : Hp} {d n : Nat} {b : Addr} {t : Tr} (hn : n ≤ 6) (hb : IsTr c_Bid c_Only c_SoMany c_UpTo c_AnyOf c_OneOf A H d b t) :
    ∃ (C dx : Addr) (fs : List (Str × V)) (sp : Sp), H b = some (.ins C dx fs) ∧ fs.lookup ("worths" : Str) = none ∧ TW K c_Bid c_Only c_SoMany c_UpTo c_Several c_AnyOf c_OneOf d C sp ∧ ∀ Q : VK, TellsT (worthT t) n H Q → sp [.ref b, nv n] H Q E0 := by
  cases d with
  | zero => exact hb.elim
  | succ d =>
    cases t with
    | leaf f =>
      obtain ⟨ok, hb⟩ := hb
      rw [worthT_leaf]
      cases f with
      | none =>
        obtain ⟨dx, e⟩ := hb
        exact ⟨_, dx, _, _, e, rfl, .inl ⟨rfl, rfl⟩, fun Q q => ⟨b, dx, n, rfl, hn, e, q⟩⟩
      | only x m =>
        obtain ⟨dx, e⟩ := hb
        exact ⟨_, dx, _, _, e, rfl, .inr (.inl ⟨rfl, rfl⟩), fun Q q => ⟨b, dx, n, x, m, rfl, hn, ok.2.1, e, q⟩⟩
      | some k l m =>
        obtain ⟨dx, e⟩ := hb
        exact ⟨_, dx, _, _, e, rfl, .inr (.inr (.inl ⟨rfl, rfl⟩)), fun Q q => ⟨b, dx, n, k, l, m, rfl, hn, ok.2.1, e, q⟩⟩
      | most k l m =>
        obtain ⟨dx, e⟩ := hb
        exact ⟨_, dx, _, _, e, rfl, .inr (.inr (.inr (.inl ⟨rfl, rfl⟩))), fun Q q => ⟨b, dx, n, k, l, m, rfl, hn, ok.2.1, e, q⟩⟩
    | node any ts =>
      have hb' := hb
      obtain ⟨dx, l, bs, e1, e2, e3, e4⟩ := hb
      cases any
      · exact ⟨_, dx, _, _, e1, rfl, .inr (.inr (.inr (.inr (.inr ⟨rfl, rfl⟩)))), fun Q q => ⟨b, n, ts, A, rfl, hn, hb', q⟩⟩
      · exact ⟨_, dx, _, _, e1, rfl, .inr (.inr (.inr (.inr (.inl ⟨rfl, rfl⟩)))), fun Q q => ⟨b, n, ts, A, rfl, hn, hb', q⟩⟩
theorem ok_M_AnyOf_worths (d : Nat) {f : Addr} {fd : FuncData} (F : Fun K "worths" "AnyOf.worths" s_M_AnyOf_worths f fd)
    (D_P_worths_of_nothing : DefOk P w K mg base 1 "worths_of_nothing" ["many"] [] (sp_P_worths_of_nothing K))
    (D_P_shared_out : DefOk P w K mg base 5 "shared_out" ["one", "other"] [] (sp_P_shared_out K)) 
    (O_Bid : Own K mg "Bid" c_Bid [])
    (O_Only : Own K mg "Only" c_Only ["bundle", "amount"])
    (O_SoMany : Own K mg "SoMany" c_SoMany ["kind", "least", "amount"])
    (O_UpTo : Own K mg "UpTo" c_UpTo ["kind", "most", "each"])
    (O_Several : Own K mg "Several" c_Several ["bids"])
    (O_AnyOf : Own K mg "AnyOf" c_AnyOf ["bids"])
    (O_OneOf : Own K mg "OneOf" c_OneOf ["bids"])
    (hT_worths : ∀ C sp, TW K c_Bid c_Only c_SoMany c_UpTo c_Several c_AnyOf c_OneOf d C sp → ∃ ps, MethD P w K mg base (d + 6) C "worths" ps sp) :
    FnOk P w K mg base CX0 (d + 7) f fd ["self", "many"] (spW true c_Bid c_Only c_SoMany c_UpTo c_Several c_AnyOf c_OneOf (d + 1)) := by
  refine F.okQ sc_M_AnyOf_worths (fun vs H Q E h => ?_) (fun cdv A outer s H vs Q E hr h => ?_)
  · obtain ⟨a, n, ts, A, rfl, _⟩ := h; rfl
  obtain ⟨a, n, ts, A, rfl, hn, hT, q⟩ := h
  have okt := okT_node.mp (IsTr.ok _ hT)
  refine ⟨_, (R.pss_cons (R.ps_set (i := 2) sc_M_AnyOf_worths.nd rfl (Or.inl rfl) (R.pe_callD D_P_worths_of_nothing hr (by first | decide | omega) rfl (R.pa_c (R.pv 1) R.pa_nil)))
    (R.pss_cons (R.ps_for PassesOwn.never rfl (R.pi_list (R.pe_fld K (R.pv 0))) (R.pg_name (i := 3) sc_M_AnyOf_worths.nd rfl (Or.inl rfl)) (R.pss_one (R.ps_set (i := 2) sc_M_AnyOf_worths.nd rfl (Or.inl rfl) (R.pe_callD D_P_shared_out hr (by first | decide | omega) rfl (R.pa_c (R.pv 2) (R.pa_c (R.pe_methV (R.pv 3) hT_worths hr (by first | decide | omega) (R.pa_c (R.pv 1) R.pa_nil)) R.pa_nil))))))
    (R.pss_one (R.ps_ret (R.pv 2))))), ?_⟩
  obtain ⟨dx, lb, bs, e1, eA, e2, hB⟩ := hT
  obtain ⟨f1, f2⟩ := pow6 hn
  refine ⟨_, rfl, n, rfl, hn, fun l0 H1 s1 h0 w1 => ?_⟩
  refine ⟨_, rfl, a, c_AnyOf, dx, _, .ref lb, rfl, s1 _ _ e1, O_AnyOf.cls, O_AnyOf.no _ (mem_at 0 rfl), rfl, lb, rfl, ⟨_, SqL.of (s1 _ _ e2)⟩, ?_⟩
  refine for_list (xs := bs.map V.ref) (fun i σ H' => Same H H' ∧ ∃ l y, H l = none ∧ H' l = some (.lst ((tab (bestL true (ts.take i) fun _ => 0) n).map V.int)) ∧ σ = [some (.ref a), some (nv n), some (.ref l), y]) ?_ ?_ ?_ ?_
  · refine ⟨s1, l0, none, h0, ?_, rfl⟩
    rw [List.take_zero, bestL_nil]; exact w1
  · rintro i σ H' _ ⟨s', _⟩; exact SqL.of (s' _ _ e2)
  · rintro i v σ H2 hv ⟨s2, l, y, hl, el, rfl⟩
    obtain ⟨b, t, rfl, hb, ht, ib⟩ := hB.at hv
    obtain ⟨C, dx', ff, sp, g1, g2, g3, g4⟩ := ask_worths K (c_Several := c_Several) hn (ib.same s2)
    refine ⟨_, rfl, _, rfl, b, C, dx', ff, sp, rfl, g1, g2, g3, _, rfl, g4 _ fun l3 H3 s3 h3 w3 => ?_⟩
    refine ⟨l, l3, _, worthT t, n, rfl, hn, bestL_good true _ _ good0 (okL_take okt i), worthT_good t (okL_mem okt t (List.mem_of_getElem? ht)), SqL.of (s3 _ _ el), SqL.of w3, fun l4 H4 s4 h4 w4 => ?_⟩
    refine ⟨(s2.trans s3).trans s4, l4, some (.ref b), (s2.trans s3).free h4, ?_, rfl⟩
    rw [bestL_take true ts i t ht]; exact w4
  · rintro σ H2 ⟨s2, l, y, hl, el, rfl⟩
    rw [List.length_map, hB.1, List.take_length, ← worthT_node] at el
    exact ⟨_, rfl, q l H2 s2 hl el⟩
theorem ok_M_OneOf_worths (d : Nat) {f : Addr} {fd : FuncData} (F : Fun K "worths" "OneOf.worths" s_M_OneOf_worths f fd)
    (D_P_worths_of_nothing : DefOk P w K mg base 1 "worths_of_nothing" ["many"] [] (sp_P_worths_of_nothing K))
    (D_P_greater_of : DefOk P w K mg base 1 "greater_of" ["one", "other"] [] (sp_P_greater_of K)) 
    (O_Bid : Own K mg "Bid" c_Bid [])
    (O_Only : Own K mg "Only" c_Only ["bundle", "amount"])
    (O_SoMany : Own K mg "SoMany" c_SoMany ["kind", "least", "amount"])
    (O_UpTo : Own K mg "UpTo" c_UpTo ["kind", "most", "each"])
    (O_Several : Own K mg "Several" c_Several ["bids"])
    (O_AnyOf : Own K mg "AnyOf" c_AnyOf ["bids"])
    (O_OneOf : Own K mg "OneOf" c_OneOf ["bids"])
    (hT_worths : ∀ C sp, TW K c_Bid c_Only c_SoMany c_UpTo c_Several c_AnyOf c_OneOf d C sp → ∃ ps, MethD P w K mg base (d + 6) C "worths" ps sp) :
    FnOk P w K mg base CX0 (d + 7) f fd ["self", "many"] (spW false c_Bid c_Only c_SoMany c_UpTo c_Several c_AnyOf c_OneOf (d + 1)) := by
  refine F.okQ sc_M_OneOf_worths (fun vs H Q E h => ?_) (fun cdv A outer s H vs Q E hr h => ?_)
  · obtain ⟨a, n, ts, A, rfl, _⟩ := h; rfl
  obtain ⟨a, n, ts, A, rfl, hn, hT, q⟩ := h
  have okt := okT_node.mp (IsTr.ok _ hT)
  refine ⟨_, (R.pss_cons (R.ps_set (i := 2) sc_M_OneOf_worths.nd rfl (Or.inl rfl) (R.pe_callD D_P_worths_of_nothing hr (by first | decide | omega) rfl (R.pa_c (R.pv 1) R.pa_nil)))
    (R.pss_cons (R.ps_for PassesOwn.never rfl (R.pi_list (R.pe_fld K (R.pv 0))) (R.pg_name (i := 3) sc_M_OneOf_worths.nd rfl (Or.inl rfl)) (R.pss_one (R.ps_set (i := 2) sc_M_OneOf_worths.nd rfl (Or.inl rfl) (R.pe_callD D_P_greater_of hr (by first | decide | omega) rfl (R.pa_c (R.pv 2) (R.pa_c (R.pe_methV (R.pv 3) hT_worths hr (by first | decide | omega) (R.pa_c (R.pv 1) R.pa_nil)) R.pa_nil))))))
    (R.pss_one (R.ps_ret (R.pv 2))))), ?_⟩
  obtain ⟨dx, lb, bs, e1, eA, e2, hB⟩ := hT
  obtain ⟨f1, f2⟩ := pow6 hn
  refine ⟨_, rfl, n, rfl, hn, fun l0 H1 s1 h0 w1 => ?_⟩
  refine ⟨_, rfl, a, c_OneOf, dx, _, .ref lb, rfl, s1 _ _ e1, O_OneOf.cls, O_OneOf.no _ (mem_at 0 rfl), rfl, lb, rfl, ⟨_, SqL.of (s1 _ _ e2)⟩, ?_⟩
  refine for_list (xs := bs.map V.ref) (fun i σ H' => Same H H' ∧ ∃ l y, H l = none ∧ H' l = some (.lst ((tab (bestL false (ts.take i) fun _ => 0) n).map V.int)) ∧ σ = [some (.ref a), some (nv n), some (.ref l), y]) ?_ ?_ ?_ ?_
  · refine ⟨s1, l0, none, h0, ?_, rfl⟩
    rw [List.take_zero, bestL_nil]; exact w1
  · rintro i σ H' _ ⟨s', _⟩; exact SqL.of (s' _ _ e2)
  · rintro i v σ H2 hv ⟨s2, l, y, hl, el, rfl⟩
    obtain ⟨b, t, rfl, hb, ht, ib⟩ := hB.at hv
    obtain ⟨C, dx', ff, sp, g1, g2, g3, g4⟩ := ask_worths K (c_Several := c_Several) hn (ib.same s2)
    refine ⟨_, rfl, _, rfl, b, C, dx', ff, sp, rfl, g1, g2, g3, _, rfl, g4 _ fun l3 H3 s3 h3 w3 => ?_⟩
    refine ⟨l, l3, _, worthT t, n, rfl, hn, bestL_good false _ _ good0 (okL_take okt i), worthT_good t (okL_mem okt t (List.mem_of_getElem? ht)), SqL.of (s3 _ _ el), SqL.of w3, fun l4 H4 s4 h4 w4 => ?_⟩
    refine ⟨(s2.trans s3).trans s4, l4, some (.ref b), (s2.trans s3).free h4, ?_, rfl⟩
    rw [bestL_take false ts i t ht]; exact w4
  · rintro σ H2 ⟨s2, l, y, hl, el, rfl⟩
    rw [List.length_map, hB.1, List.take_length, ← worthT_node] at el
    exact ⟨_, rfl, q l H2 s2 hl el⟩
theorem fam_worths {f1 f2 f3 f4 f5 f6 : Addr} {d1 d2 d3 d4 d5 d6 : FuncData} (F1 : Fun K "worths" "Bid.worths" s_M_Bid_worths f1 d1) (F2 : Fun K "worths" "Only.worths" s_M_Only_worths f2 d2) (F3 : Fun K "worths" "SoMany.worths" s_M_SoMany_worths f3 d3) (F4 : Fun K "worths" "UpTo.worths" s_M_UpTo_worths f4 d4)
    (F5 : Fun K "worths" "AnyOf.worths" s_M_AnyOf_worths f5 d5) (F6 : Fun K "worths" "OneOf.worths" s_M_OneOf_worths f6 d6)
    (D_P_worths_of_nothing : DefOk P w K mg base 1 "worths_of_nothing" ["many"] [] (sp_P_worths_of_nothing K))
    (D_P_holds : DefOk P w K mg base 1 "holds" ["one", "other"] [] (sp_P_holds K)) (D_P_size_of : DefOk P w K mg base 3 "size_of" ["bundle"] [] (sp_P_size_of K))
    (D_P_shared_out : DefOk P w K mg base 5 "shared_out" ["one", "other"] [] (sp_P_shared_out K))
    (D_P_greater_of : DefOk P w K mg base 1 "greater_of" ["one", "other"] [] (sp_P_greater_of K)) (m_range : mg "range" = none) (m_min : mg "min" = none) 
    (O_Bid : Own K mg "Bid" c_Bid [])
    (O_Only : Own K mg "Only" c_Only ["bundle", "amount"])
    (O_SoMany : Own K mg "SoMany" c_SoMany ["kind", "least", "amount"])
    (O_UpTo : Own K mg "UpTo" c_UpTo ["kind", "most", "each"])
    (O_Several : Own K mg "Several" c_Several ["bids"])
    (O_AnyOf : Own K mg "AnyOf" c_AnyOf ["bids"])
    (O_OneOf : Own K mg "OneOf" c_OneOf ["bids"])
    (M1 : Meth K c_Bid "worths" f1) (M2 : Meth K c_Only "worths" f2) (M3 : Meth K c_SoMany "worths" f3) (M4 : Meth K c_UpTo "worths" f4) (M5 : Meth K c_AnyOf "worths" f5) (M6 : Meth K c_OneOf "worths" f6) :
    ∀ d, ∀ C sp, TW K c_Bid c_Only c_SoMany c_UpTo c_Several c_AnyOf c_OneOf d C sp → ∃ ps, MethD P w K mg base (d + 6) C "worths" ps sp := by
  have l1 := ok_M_Bid_worths (P := P) (w := w) (base := base) (mg := mg) F1 D_P_worths_of_nothing O_Bid O_Only O_SoMany O_UpTo O_Several O_AnyOf O_OneOf
  have l2 := ok_M_Only_worths (P := P) (w := w) (base := base) (mg := mg) F2 m_range D_P_holds O_Bid O_Only O_SoMany O_UpTo O_Several O_AnyOf O_OneOf
  have l3 := ok_M_SoMany_worths (P := P) (w := w) (base := base) (mg := mg) F3 m_range D_P_size_of O_Bid O_Only O_SoMany O_UpTo O_Several O_AnyOf O_OneOf
  have l4 := ok_M_UpTo_worths (P := P) (w := w) (base := base) (mg := mg) F4 m_min m_range D_P_size_of O_Bid O_Only O_SoMany O_UpTo O_Several O_AnyOf O_OneOf
  have b1 : Binds K d1 ["self", "many"] [] := bnd2 F1 fun _ _ _ _ _ _ _ _ => rfl
  have b2 : Binds K d2 ["self", "many"] [] := bnd2 F2 fun _ _ _ _ _ _ _ _ => rfl
  have b3 : Binds K d3 ["self", "many"] [] := bnd2 F3 fun _ _ _ _ _ _ _ _ => rfl
  have b4 : Binds K d4 ["self", "many"] [] := bnd2 F4 fun _ _ _ _ _ _ _ _ => rfl
  have b5 : Binds K d5 ["self", "many"] [] := bnd2 F5 fun _ _ _ _ _ _ _ _ => rfl
  have b6 : Binds K d6 ["self", "many"] [] := bnd2 F6 fun _ _ _ _ _ _ _ _ => rfl
  have put : ∀ d, FnOk P w K mg base CX0 (d + 6) f5 d5 ["self", "many"] (spW true c_Bid c_Only c_SoMany c_UpTo c_Several c_AnyOf c_OneOf d) → FnOk P w K mg base CX0 (d + 6) f6 d6 ["self", "many"] (spW false c_Bid c_Only c_SoMany c_UpTo c_Several c_AnyOf c_OneOf d) → ∀ C sp, TW K c_Bid c_Only c_SoMany c_UpTo c_Several c_AnyOf c_OneOf d C sp → ∃ ps, MethD P w K mg base (d + 6) C "worths" ps sp := by
    intro d h5 h6 C sp hT
    rcases hT with ⟨rfl, rfl⟩ | ⟨rfl, rfl⟩ | ⟨rfl, rfl⟩ | ⟨rfl, rfl⟩ | ⟨rfl, rfl⟩ | ⟨rfl, rfl⟩
    · exact ⟨_, f1, d1, l1.mono (by omega), b1, M1, O_Bid.cls⟩
    · exact ⟨_, f2, d2, l2.mono (by omega), b2, M2, O_Only.cls⟩
    · exact ⟨_, f3, d3, l3.mono (by omega), b3, M3, O_SoMany.cls⟩
    · exact ⟨_, f4, d4, l4.mono (by omega), b4, M4, O_UpTo.cls⟩
    · exact ⟨_, f5, d5, h5, b5, M5, O_AnyOf.cls⟩
    · exact ⟨_, f6, d6, h6, b6, M6, O_OneOf.cls⟩
  intro d
  induction d with
  | zero =>
    refine put 0 (F5.okQ sc_M_AnyOf_worths (fun vs H Q E h => ?_) (fun cdv A outer s H vs Q E hr h => ?_)) (F6.okQ sc_M_OneOf_worths (fun vs H Q E h => ?_) (fun cdv A outer s H vs Q E hr h => ?_))
    · obtain ⟨a, n, ts, A, rfl, _⟩ := h; rfl
    · obtain ⟨a, n, ts, A, rfl, hn, hT, _⟩ := h; exact hT.elim
    · obtain ⟨a, n, ts, A, rfl, _⟩ := h; rfl
    · obtain ⟨a, n, ts, A, rfl, hn, hT, _⟩ := h; exact hT.elim
  | succ d ih => exact put (d + 1) (ok_M_AnyOf_worths d F5 D_P_worths_of_nothing D_P_shared_out O_Bid O_Only O_SoMany O_UpTo O_Several O_AnyOf O_OneOf ih) (ok_M_OneOf_worths d F6 D_P_worths_of_nothing D_P_greater_of O_Bid O_Only O_SoMany O_UpTo O_Several O_AnyOf O_OneOf ih)
end
end My


set_option Elab.async false
set_option linter.all false
set_option maxRecDepth 100000
set_option maxHeartbeats 4000000
namespace My
open PySem PySem.Spec PyProof.Rows L2 GM
section
variable {P : Program} {w : World} {K : PySem.W.Frag} {mg : Str → Option Value} {base : Heap}
variable {c_Bid c_Only c_SoMany c_UpTo c_Several c_AnyOf c_OneOf C : Addr}
theorem outside {lo i hi : Int} (h : i < lo ∨ hi < i) : (decide (lo ≤ i) && decide (i ≤ hi)) = false := by
  rcases h with h | h
  · rw [decide_eq_false (by omega), Bool.false_and]
  · rw [decide_eq_false (p := i ≤ hi) (by omega), Bool.and_false]
theorem okE_P_check_bundle {f : Addr} {fd : FuncData} (F : Fun K "check_bundle" "check_bundle" s_P_check_bundle f fd) (m_self : mg "check_bundle" = some (.ref f))
    (D_P_is_within : DefOk P w K mg base 2 "is_within" ["thing", "least", "most"] [] (sp_P_is_within K))
    (OW : OwnCls "NoBid" C bmV "ValueError.__new__" mg base) : DefE P w K mg base 3 "check_bundle" ["bundle"] (spE_P_check_bundle K C) := by
  refine F.def_E m_self (bnd1 F fun _ _ _ _ _ _ _ => rfl) sc_P_check_bundle (fun vs H Q E h => ?_) (fun cdv A outer s H vs Q E hr h => ?_)
  · obtain ⟨v, rfl, _⟩ := h; rfl
  obtain ⟨v, rfl, h⟩ := h
  refine ⟨_, (R.pss_one (R.ps_if (R.pt_not (R.pt_val (R.pe_callD D_P_is_within hr (by first | decide | omega) rfl (R.pa_c (R.pv 0) (R.pa_c R.pe_int (R.pa_c R.pe_int R.pa_nil)))))) (R.pss_one (R.ps_raise (E := E) PySem.F.excBase_ValueError OW rfl rfl rfl (R.pa_c R.pe_str R.pa_nil) rfl rfl rfl (fun _ _ z => z))) R.pss_nil)), ?_⟩
  rcases h with ⟨⟨i, rfl, h1, h2⟩, q⟩ | ⟨hb, q⟩
  · refine ⟨_, rfl, _, 1, 63, rfl, .inr ⟨_, rfl, _, rfl, ?_⟩⟩
    rw [within h1 h2]
    exact iteF q
  · rcases hb with ⟨n, hk, hn⟩ | ⟨i, rfl, hi⟩
    · exact ⟨_, rfl, _, 1, 63, rfl, .inl ⟨n, hk, hn, _, rfl, iteT ⟨(by show 1 ≤ sizeLine; decide), fun a ha => q _ a (Same.refl _) ha⟩⟩⟩
    · refine ⟨_, rfl, _, 1, 63, rfl, .inr ⟨_, rfl, _, rfl, ?_⟩⟩
      rw [outside hi]
      exact iteT ⟨(by show 1 ≤ sizeLine; decide), fun a ha => q _ a (Same.refl _) ha⟩
theorem okE_P_check_so_many {f : Addr} {fd : FuncData} (F : Fun K "check_so_many" "check_so_many" s_P_check_so_many f fd) (m_self : mg "check_so_many" = some (.ref f))
    (D_P_is_within : DefOk P w K mg base 2 "is_within" ["thing", "least", "most"] [] (sp_P_is_within K))
    (OW : OwnCls "NoBid" C bmV "ValueError.__new__" mg base) : DefE P w K mg base 3 "check_so_many" ["number"] (spE_P_check_so_many K C) := by
  refine F.def_E m_self (bnd1 F fun _ _ _ _ _ _ _ => rfl) sc_P_check_so_many (fun vs H Q E h => ?_) (fun cdv A outer s H vs Q E hr h => ?_)
  · obtain ⟨v, rfl, _⟩ := h; rfl
  obtain ⟨v, rfl, h⟩ := h
  refine ⟨_, (R.pss_one (R.ps_if (R.pt_not (R.pt_val (R.pe_callD D_P_is_within hr (by first | decide | omega) rfl (R.pa_c (R.pv 0) (R.pa_c R.pe_int (R.pa_c R.pe_int R.pa_nil)))))) (R.pss_one (R.ps_raise (E := E) PySem.F.excBase_ValueError OW rfl rfl rfl (R.pa_c R.pe_str R.pa_nil) rfl rfl rfl (fun _ _ z => z))) R.pss_nil)), ?_⟩
  rcases h with ⟨⟨i, rfl, h1, h2⟩, q⟩ | ⟨hb, q⟩
  · refine ⟨_, rfl, _, 1, 6, rfl, .inr ⟨_, rfl, _, rfl, ?_⟩⟩
    rw [within h1 h2]
    exact iteF q
  · rcases hb with ⟨n, hk, hn⟩ | ⟨i, rfl, hi⟩
    · exact ⟨_, rfl, _, 1, 6, rfl, .inl ⟨n, hk, hn, _, rfl, iteT ⟨(by show 1 ≤ sizeLine; decide), fun a ha => q _ a (Same.refl _) ha⟩⟩⟩
    · refine ⟨_, rfl, _, 1, 6, rfl, .inr ⟨_, rfl, _, rfl, ?_⟩⟩
      rw [outside hi]
      exact iteT ⟨(by show 1 ≤ sizeLine; decide), fun a ha => q _ a (Same.refl _) ha⟩
theorem okE_P_check_amount {f : Addr} {fd : FuncData} (F : Fun K "check_amount" "check_amount" s_P_check_amount f fd) (m_self : mg "check_amount" = some (.ref f))
    (D_P_is_within : DefOk P w K mg base 2 "is_within" ["thing", "least", "most"] [] (sp_P_is_within K))
    (OW : OwnCls "NoBid" C bmV "ValueError.__new__" mg base) : DefE P w K mg base 3 "check_amount" ["amount"] (spE_P_check_amount K C) := by
  refine F.def_E m_self (bnd1 F fun _ _ _ _ _ _ _ => rfl) sc_P_check_amount (fun vs H Q E h => ?_) (fun cdv A outer s H vs Q E hr h => ?_)
  · obtain ⟨v, rfl, _⟩ := h; rfl
  obtain ⟨v, rfl, h⟩ := h
  refine ⟨_, (R.pss_one (R.ps_if (R.pt_not (R.pt_val (R.pe_callD D_P_is_within hr (by first | decide | omega) rfl (R.pa_c (R.pv 0) (R.pa_c R.pe_int (R.pa_c (R.pe_op op_pow R.pe_int R.pe_int) R.pa_nil)))))) (R.pss_one (R.ps_raise (E := E) PySem.F.excBase_ValueError OW rfl rfl rfl (R.pa_c R.pe_str R.pa_nil) rfl rfl rfl (fun _ _ z => z))) R.pss_nil)), ?_⟩
  rcases h with ⟨⟨i, rfl, h1, h2⟩, q⟩ | ⟨hb, q⟩
  · refine ⟨_, rfl, _, _, rfl, rfl, ⟨by decide, by decide, by decide⟩, _, 0, 10 ^ 9, rfl, .inr ⟨_, rfl, _, rfl, ?_⟩⟩
    rw [within h1 h2]
    exact iteF q
  · rcases hb with ⟨n, hk, hn⟩ | ⟨i, rfl, hi⟩
    · exact ⟨_, rfl, _, _, rfl, rfl, ⟨by decide, by decide, by decide⟩, _, 0, 10 ^ 9, rfl, .inl ⟨n, hk, hn, _, rfl, iteT ⟨(by show 1 ≤ sizeLine; decide), fun a ha => q _ a (Same.refl _) ha⟩⟩⟩
    · refine ⟨_, rfl, _, _, rfl, rfl, ⟨by decide, by decide, by decide⟩, _, 0, 10 ^ 9, rfl, .inr ⟨_, rfl, _, rfl, ?_⟩⟩
      rw [outside hi]
      exact iteT ⟨(by show 1 ≤ sizeLine; decide), fun a ha => q _ a (Same.refl _) ha⟩
theorem is_bid 
    (O_Bid : Own K mg "Bid" c_Bid [])
    (O_Only : Own K mg "Only" c_Only ["bundle", "amount"])
    (O_SoMany : Own K mg "SoMany" c_SoMany ["kind", "least", "amount"])
    (O_UpTo : Own K mg "UpTo" c_UpTo ["kind", "most", "each"])
    (O_Several : Own K mg "Several" c_Several ["bids"])
    (O_AnyOf : Own K mg "AnyOf" c_AnyOf ["bids"])
    (O_OneOf : Own K mg "OneOf" c_OneOf ["bids"]) (kit_Bid_Bid : PySem.W.kitOne K (.ref c_Bid) (.ref c_Bid) = some true) (kit_Only_Bid : PySem.W.kitOne K (.ref c_Only) (.ref c_Bid) = some true) (kit_SoMany_Bid : PySem.W.kitOne K (.ref c_SoMany) (.ref c_Bid) = some true)
    (kit_UpTo_Bid : PySem.W.kitOne K (.ref c_UpTo) (.ref c_Bid) = some true) (kit_AnyOf_Bid : PySem.W.kitOne K (.ref c_AnyOf) (.ref c_Bid) = some true) (kit_OneOf_Bid : PySem.W.kitOne K (.ref c_OneOf) (.ref c_Bid) = some true)
    {H : Hp} {b : Addr} {d : Nat} {A : Addr → Prop} {t : Tr} (hb : IsTr c_Bid c_Only c_SoMany c_UpTo c_AnyOf c_OneOf A H d b t) : ∃ t, TyOf K H (.ref b) t ∧ PySem.W.kitOne K t (.ref c_Bid) = some true := by
    cases d with
    | zero => exact hb.elim
    | succ d =>
      cases t with
      | leaf f =>
        obtain ⟨_, hb⟩ := hb
        cases f <;> obtain ⟨dx, e⟩ := hb
        · exact ⟨_, O_Bid.ty e, kit_Bid_Bid⟩
        · exact ⟨_, O_Only.ty e, kit_Only_Bid⟩
        · exact ⟨_, O_SoMany.ty e, kit_SoMany_Bid⟩
        · exact ⟨_, O_UpTo.ty e, kit_UpTo_Bid⟩
      | node any ts =>
        obtain ⟨dx, l, bs, e, _⟩ := hb
        cases any
        · exact ⟨_, O_OneOf.ty e, kit_OneOf_Bid⟩
        · exact ⟨_, O_AnyOf.ty e, kit_AnyOf_Bid⟩
theorem okE_P_check_bids {f : Addr} {fd : FuncData} (F : Fun K "check_bids" "check_bids" s_P_check_bids f fd) (m_self : mg "check_bids" = some (.ref f)) (m_isinstance : mg "isinstance" = none) (m_list : mg "list" = none)
    (D_P_depth_over : DefOk P w K mg base 10 "depth_over" ["bids"] [] (sp_P_depth_over K c_Bid c_Only c_SoMany c_UpTo c_Several c_AnyOf c_OneOf))
    (D_P_tally_over : DefOk P w K mg base 10 "tally_over" ["bids"] [] (sp_P_tally_over K c_Bid c_Only c_SoMany c_UpTo c_Several c_AnyOf c_OneOf))
    (O_Bid : Own K mg "Bid" c_Bid [])
    (O_Only : Own K mg "Only" c_Only ["bundle", "amount"])
    (O_SoMany : Own K mg "SoMany" c_SoMany ["kind", "least", "amount"])
    (O_UpTo : Own K mg "UpTo" c_UpTo ["kind", "most", "each"])
    (O_Several : Own K mg "Several" c_Several ["bids"])
    (O_AnyOf : Own K mg "AnyOf" c_AnyOf ["bids"])
    (O_OneOf : Own K mg "OneOf" c_OneOf ["bids"])
    (kit_Bid_Bid : PySem.W.kitOne K (.ref c_Bid) (.ref c_Bid) = some true)
    (kit_Only_Bid : PySem.W.kitOne K (.ref c_Only) (.ref c_Bid) = some true)
    (kit_SoMany_Bid : PySem.W.kitOne K (.ref c_SoMany) (.ref c_Bid) = some true)
    (kit_UpTo_Bid : PySem.W.kitOne K (.ref c_UpTo) (.ref c_Bid) = some true)
    (kit_Several_Bid : PySem.W.kitOne K (.ref c_Several) (.ref c_Bid) = some true)
    (kit_AnyOf_Bid : PySem.W.kitOne K (.ref c_AnyOf) (.ref c_Bid) = some true)
    (kit_OneOf_Bid : PySem.W.kitOne K (.ref c_OneOf) (.ref c_Bid) = some true)
    (OW : OwnCls "NoBid" C bmV "ValueError.__new__" mg base) : DefE P w K mg base 11 "check_bids" ["bids"] (spE_P_check_bids K C c_Bid c_Only c_SoMany c_UpTo c_Several c_AnyOf c_OneOf) := by
  refine F.def_E m_self (bnd1 F fun _ _ _ _ _ _ _ => rfl) sc_P_check_bids (fun vs H Q E h => ?_) (fun cdv A outer s H vs Q E hr h => ?_)
  · obtain ⟨v, rfl, _⟩ := h; rfl
  obtain ⟨v, rfl, hb, q⟩ := h
  refine ⟨_, (R.pss_cons (R.ps_if (R.pt_not (R.pt_val (R.pe_isTy rfl m_isinstance rfl m_list (boot_list) (R.pv 0)))) (R.pss_one (R.ps_raise (E := E) PySem.F.excBase_ValueError OW rfl rfl rfl (R.pa_c R.pe_str R.pa_nil) rfl rfl rfl (fun _ _ z => z))) R.pss_nil)
    (R.pss_cons (R.ps_for passes_for rfl (R.pi_list (R.pv 0)) (R.pg_name (i := 1) sc_P_check_bids.nd rfl (Or.inl rfl)) (R.pss_one (R.ps_if (R.pt_not (R.pt_val (R.pe_isOwn rfl m_isinstance rfl O_Bid.at_ (R.pv 1)))) (R.pss_one (R.ps_raise (E := E) PySem.F.excBase_ValueError OW rfl rfl rfl (R.pa_c R.pe_str R.pa_nil) rfl rfl rfl (fun _ _ z => z))) R.pss_nil)))
    (R.pss_cons (R.ps_if (R.pt_cmpR op_gt (R.pe_callD D_P_depth_over hr (by first | decide | omega) rfl (R.pa_c (R.pv 0) R.pa_nil)) R.pe_int (nomark _)) (R.pss_one (R.ps_raise (E := E) PySem.F.excBase_ValueError OW rfl rfl rfl (R.pa_c R.pe_str R.pa_nil) rfl rfl rfl (fun _ _ z => z))) R.pss_nil)
    (R.pss_one (R.ps_if (R.pt_cmpR op_gt (R.pe_callD D_P_tally_over hr (by first | decide | omega) rfl (R.pa_c (R.pv 0) R.pa_nil)) R.pe_int (nomark _)) (R.pss_one (R.ps_raise (E := E) PySem.F.excBase_ValueError OW rfl rfl rfl (R.pa_c R.pe_str R.pa_nil) rfl rfl rfl (fun _ _ z => z))) R.pss_nil))))), ?_⟩
  rcases hb with ⟨t, ht, hk⟩ | ⟨l, xs, j, y, ty, rfl, hl, hj, hy, hyk, hgood⟩ | ⟨l, bs, ts, A, rfl, hl, hB, few, hd⟩
  · exact ⟨_, rfl, _, t, false, rfl, ht, hk, _, rfl, iteT ⟨(by show 1 ≤ sizeLine; decide), fun a ha => q _ a (Same.refl _) ha⟩⟩
  · refine ⟨_, rfl, _, _, true, rfl, TyOf.lst hl, kit_self', _, rfl, iteF ?_⟩
    refine ⟨_, rfl, l, rfl, ⟨_, SqL.of hl⟩, ?_⟩
    refine for_list (xs := xs) (fun i σ H' => H' = H ∧ i ≤ j ∧ ∃ y, σ = [some (.ref l), y]) ?_ ?_ ?_ ?_
    · exact ⟨rfl, Nat.zero_le _, _, rfl⟩
    · rintro i σ H' _ ⟨rfl, _⟩; exact SqL.of hl
    · rintro i v σ H' hv ⟨rfl, hij, z, rfl⟩
      by_cases c : i = j
      · subst c
        rw [hj] at hv; cases hv
        exact ⟨_, rfl, _, ty, false, rfl, hy, hyk, _, rfl, iteT ⟨(by show 1 ≤ sizeLine; decide), fun a ha => q _ a (Same.refl _) ha⟩⟩
      · obtain ⟨t', h1, h2⟩ := hgood i v (by omega) hv
        exact ⟨_, rfl, _, t', true, rfl, h1, h2, _, rfl, iteF ⟨rfl, by omega, _, rfl⟩⟩
    · rintro σ H' ⟨rfl, hij, z, rfl⟩
      have := (List.getElem?_eq_some_iff.mp hj).1
      omega
  · refine ⟨_, rfl, _, _, true, rfl, TyOf.lst hl, kit_self', _, rfl, iteF ?_⟩
    refine ⟨_, rfl, l, rfl, ⟨_, SqL.of hl⟩, ?_⟩
    refine for_list (xs := bs.map V.ref) (fun i σ H' => H' = H ∧ ∃ y, σ = [some (.ref l), y]) ?_ ?_ ?_ ?_
    · exact ⟨rfl, _, rfl⟩
    · rintro i σ H' _ ⟨rfl, _⟩; exact SqL.of hl
    · rintro i v σ H' hv ⟨rfl, y, rfl⟩
      obtain ⟨b, t, rfl, hb, ht, ib⟩ := hB.at hv
      obtain ⟨t, ht, hk⟩ := is_bid O_Bid O_Only O_SoMany O_UpTo O_Several O_AnyOf O_OneOf kit_Bid_Bid kit_Only_Bid kit_SoMany_Bid kit_UpTo_Bid kit_AnyOf_Bid kit_OneOf_Bid ib
      exact ⟨_, rfl, _, t, true, rfl, ht, hk, _, rfl, iteF ⟨rfl, _, rfl⟩⟩
    · rintro σ H' ⟨rfl, y, rfl⟩
      refine ⟨_, rfl, l, bs, ts, A, rfl, hl, hB, few, fun H1 s1 => ⟨_, _, rfl, rfl, _, rfl, ?_⟩⟩
      rcases hd with hd | ⟨hd, hy⟩
      · rw [decide_eq_true (show (4 : Int) < ((1 + depthL ts : Nat) : Int) by omega)]
        exact iteT ⟨(by show 1 ≤ sizeLine; decide), fun a ha => q _ a s1 ha⟩
      · rw [decide_eq_false (show ¬ (4 : Int) < ((1 + depthL ts : Nat) : Int) by omega)]
        refine iteF ?_
        refine ⟨_, rfl, l, bs, ts, A, rfl, s1 _ _ hl, hB.imp fun x y _ z => z.same s1, few, fun H2 s2 => ⟨_, _, rfl, rfl, _, rfl, ?_⟩⟩
        rw [decide_eq_true (show (24 : Int) < ((1 + tallyL ts : Nat) : Int) by omega)]
        exact iteT ⟨(by show 1 ≤ sizeLine; decide), fun a ha => q _ a (s1.trans s2) ha⟩
theorem okE_M_Only___init__ {f : Addr} {fd : FuncData} (F : Fun K "__init__" "Only.__init__" s_M_Only___init__ f fd)
    (DE_P_check_bundle : DefE P w K mg base 3 "check_bundle" ["bundle"] (spE_P_check_bundle K C))
    (DE_P_check_amount : DefE P w K mg base 3 "check_amount" ["amount"] (spE_P_check_amount K C))
    (O_Bid : Own K mg "Bid" c_Bid [])
    (O_Only : Own K mg "Only" c_Only ["bundle", "amount"])
    (O_SoMany : Own K mg "SoMany" c_SoMany ["kind", "least", "amount"])
    (O_UpTo : Own K mg "UpTo" c_UpTo ["kind", "most", "each"])
    (O_Several : Own K mg "Several" c_Several ["bids"])
    (O_AnyOf : Own K mg "AnyOf" c_AnyOf ["bids"])
    (O_OneOf : Own K mg "OneOf" c_OneOf ["bids"])
    (OW : OwnCls "NoBid" C bmV "ValueError.__new__" mg base) : FnOk P w K mg base (CXE P w) 4 f fd ["self", "bundle", "amount"] (spE_M_Only___init__ K C) := by
  refine F.ok_E sc_M_Only___init__ (fun vs H Q E h => ?_) (fun cdv A outer s H vs Q E hr h => ?_)
  · obtain ⟨v, u1, u2, rfl, _⟩ := h; rfl
  obtain ⟨v, u1, u2, rfl, hb, q⟩ := h
  refine ⟨_, (R.pss_cons (R.ps_expr (R.pe_callE (E := E) DE_P_check_bundle hr (by first | decide | omega) rfl (R.pa_c (R.pv 1) R.pa_nil) rfl rfl rfl (fun _ _ z => z)))
    (R.pss_cons (R.ps_expr (R.pe_callE (E := E) DE_P_check_amount hr (by first | decide | omega) rfl (R.pa_c (R.pv 2) R.pa_nil) rfl rfl rfl (fun _ _ z => z)))
    (R.pss_cons (R.ps_fld (R.pv 0) (R.pv 1))
    (R.pss_one (R.ps_fld (R.pv 0) (R.pv 2)))))), ?_⟩
  rcases hb with hb | ⟨f1, hb⟩
  · exact ⟨_, rfl, u1, rfl, .inr ⟨hb, q⟩⟩
  · exact ⟨_, rfl, u1, rfl, .inl ⟨f1, _, rfl, u2, rfl, .inr ⟨hb, q⟩⟩⟩
theorem okE_M_SoMany___init__ {f : Addr} {fd : FuncData} (F : Fun K "__init__" "SoMany.__init__" s_M_SoMany___init__ f fd)
    (DE_P_check_bundle : DefE P w K mg base 3 "check_bundle" ["bundle"] (spE_P_check_bundle K C))
    (DE_P_check_so_many : DefE P w K mg base 3 "check_so_many" ["number"] (spE_P_check_so_many K C))
    (DE_P_check_amount : DefE P w K mg base 3 "check_amount" ["amount"] (spE_P_check_amount K C))
    (O_Bid : Own K mg "Bid" c_Bid [])
    (O_Only : Own K mg "Only" c_Only ["bundle", "amount"])
    (O_SoMany : Own K mg "SoMany" c_SoMany ["kind", "least", "amount"])
    (O_UpTo : Own K mg "UpTo" c_UpTo ["kind", "most", "each"])
    (O_Several : Own K mg "Several" c_Several ["bids"])
    (O_AnyOf : Own K mg "AnyOf" c_AnyOf ["bids"])
    (O_OneOf : Own K mg "OneOf" c_OneOf ["bids"])
    (OW : OwnCls "NoBid" C bmV "ValueError.__new__" mg base) : FnOk P w K mg base (CXE P w) 4 f fd ["self", "kind", "least", "amount"] (spE_M_SoMany___init__ K C) := by
  refine F.ok_E sc_M_SoMany___init__ (fun vs H Q E h => ?_) (fun cdv A outer s H vs Q E hr h => ?_)
  · obtain ⟨v, u1, u2, u3, rfl, _⟩ := h; rfl
  obtain ⟨v, u1, u2, u3, rfl, hb, q⟩ := h
  refine ⟨_, (R.pss_cons (R.ps_expr (R.pe_callE (E := E) DE_P_check_bundle hr (by first | decide | omega) rfl (R.pa_c (R.pv 1) R.pa_nil) rfl rfl rfl (fun _ _ z => z)))
    (R.pss_cons (R.ps_expr (R.pe_callE (E := E) DE_P_check_so_many hr (by first | decide | omega) rfl (R.pa_c (R.pv 2) R.pa_nil) rfl rfl rfl (fun _ _ z => z)))
    (R.pss_cons (R.ps_expr (R.pe_callE (E := E) DE_P_check_amount hr (by first | decide | omega) rfl (R.pa_c (R.pv 3) R.pa_nil) rfl rfl rfl (fun _ _ z => z)))
    (R.pss_cons (R.ps_fld (R.pv 0) (R.pv 1))
    (R.pss_cons (R.ps_fld (R.pv 0) (R.pv 2))
    (R.pss_one (R.ps_fld (R.pv 0) (R.pv 3)))))))), ?_⟩
  rcases hb with hb | ⟨f1, hb | ⟨f2, hb⟩⟩
  · exact ⟨_, rfl, u1, rfl, .inr ⟨hb, q⟩⟩
  · exact ⟨_, rfl, u1, rfl, .inl ⟨f1, _, rfl, u2, rfl, .inr ⟨hb, q⟩⟩⟩
  · exact ⟨_, rfl, u1, rfl, .inl ⟨f1, _, rfl, u2, rfl, .inl ⟨f2, _, rfl, u3, rfl, .inr ⟨hb, q⟩⟩⟩⟩
theorem okE_M_UpTo___init__ {f : Addr} {fd : FuncData} (F : Fun K "__init__" "UpTo.__init__" s_M_UpTo___init__ f fd)
    (DE_P_check_bundle : DefE P w K mg base 3 "check_bundle" ["bundle"] (spE_P_check_bundle K C))
    (DE_P_check_so_many : DefE P w K mg base 3 "check_so_many" ["number"] (spE_P_check_so_many K C))
    (DE_P_check_amount : DefE P w K mg base 3 "check_amount" ["amount"] (spE_P_check_amount K C))
    (O_Bid : Own K mg "Bid" c_Bid [])
    (O_Only : Own K mg "Only" c_Only ["bundle", "amount"])
    (O_SoMany : Own K mg "SoMany" c_SoMany ["kind", "least", "amount"])
    (O_UpTo : Own K mg "UpTo" c_UpTo ["kind", "most", "each"])
    (O_Several : Own K mg "Several" c_Several ["bids"])
    (O_AnyOf : Own K mg "AnyOf" c_AnyOf ["bids"])
    (O_OneOf : Own K mg "OneOf" c_OneOf ["bids"])
    (OW : OwnCls "NoBid" C bmV "ValueError.__new__" mg base) : FnOk P w K mg base (CXE P w) 4 f fd ["self", "kind", "most", "each"] (spE_M_UpTo___init__ K C) := by
  refine F.ok_E sc_M_UpTo___init__ (fun vs H Q E h => ?_) (fun cdv A outer s H vs Q E hr h => ?_)
  · obtain ⟨v, u1, u2, u3, rfl, _⟩ := h; rfl
  obtain ⟨v, u1, u2, u3, rfl, hb, q⟩ := h
  refine ⟨_, (R.pss_cons (R.ps_expr (R.pe_callE (E := E) DE_P_check_bundle hr (by first | decide | omega) rfl (R.pa_c (R.pv 1) R.pa_nil) rfl rfl rfl (fun _ _ z => z)))
    (R.pss_cons (R.ps_expr (R.pe_callE (E := E) DE_P_check_so_many hr (by first | decide | omega) rfl (R.pa_c (R.pv 2) R.pa_nil) rfl rfl rfl (fun _ _ z => z)))
    (R.pss_cons (R.ps_expr (R.pe_callE (E := E) DE_P_check_amount hr (by first | decide | omega) rfl (R.pa_c (R.pv 3) R.pa_nil) rfl rfl rfl (fun _ _ z => z)))
    (R.pss_cons (R.ps_fld (R.pv 0) (R.pv 1))
    (R.pss_cons (R.ps_fld (R.pv 0) (R.pv 2))
    (R.pss_one (R.ps_fld (R.pv 0) (R.pv 3)))))))), ?_⟩
  rcases hb with hb | ⟨f1, hb | ⟨f2, hb⟩⟩
  · exact ⟨_, rfl, u1, rfl, .inr ⟨hb, q⟩⟩
  · exact ⟨_, rfl, u1, rfl, .inl ⟨f1, _, rfl, u2, rfl, .inr ⟨hb, q⟩⟩⟩
  · exact ⟨_, rfl, u1, rfl, .inl ⟨f1, _, rfl, u2, rfl, .inl ⟨f2, _, rfl, u3, rfl, .inr ⟨hb, q⟩⟩⟩⟩
theorem okE_M_Several___init__ {f : Addr} {fd : FuncData} (F : Fun K "__init__" "Several.__init__" s_M_Several___init__ f fd) (m_list : mg "list" = none)
    (DE_P_check_bids : DefE P w K mg base 11 "check_bids" ["bids"] (spE_P_check_bids K C c_Bid c_Only c_SoMany c_UpTo c_Several c_AnyOf c_OneOf))
    (O_Bid : Own K mg "Bid" c_Bid [])
    (O_Only : Own K mg "Only" c_Only ["bundle", "amount"])
    (O_SoMany : Own K mg "SoMany" c_SoMany ["kind", "least", "amount"])
    (O_UpTo : Own K mg "UpTo" c_UpTo ["kind", "most", "each"])
    (O_Several : Own K mg "Several" c_Several ["bids"])
    (O_AnyOf : Own K mg "AnyOf" c_AnyOf ["bids"])
    (O_OneOf : Own K mg "OneOf" c_OneOf ["bids"])
    (OW : OwnCls "NoBid" C bmV "ValueError.__new__" mg base) : FnOk P w K mg base (CXE P w) 12 f fd ["self", "bids"] (spE_M_Several___init__ K C c_Bid c_Only c_SoMany c_UpTo c_Several c_AnyOf c_OneOf) := by
  refine F.ok_E sc_M_Several___init__ (fun vs H Q E h => ?_) (fun cdv A outer s H vs Q E hr h => ?_)
  · obtain ⟨w, v, rfl, _⟩ := h; rfl
  obtain ⟨w, v, rfl, hb, q⟩ := h
  refine ⟨_, (R.pss_cons (R.ps_expr (R.pe_callE (E := E) DE_P_check_bids hr (by first | decide | omega) rfl (R.pa_c (R.pv 1) R.pa_nil) rfl rfl rfl (fun _ _ z => z)))
    (R.pss_one (R.ps_fld (R.pv 0) (R.pe_cTy call_list_of rfl m_list (boot_list) (R.pa_c (R.pv 1) R.pa_nil))))), ?_⟩
  exact ⟨_, rfl, v, rfl, hb, q⟩
theorem depthL_le {n : Nat} : ∀ {ts : List Tr}, (∀ t ∈ ts, depthT t ≤ n) → depthL ts ≤ n
  | [], _ => Nat.zero_le _
  | t :: ts, h => by
    have h1 := h t (List.mem_cons_self ..)
    have h2 := depthL_le fun u hu => h u (List.mem_cons_of_mem _ hu)
    show max (depthT t) (depthL ts) ≤ n
    omega
theorem IsTr.deep {c1 c2 c3 c4 c5 c6 : Addr} {A : Addr → Prop} {H : Hp} : ∀ (d : Nat) {a : Addr} {t : Tr}, IsTr c1 c2 c3 c4 c5 c6 A H d a t → depthT t ≤ d
  | 0, _, _, h => h.elim
  | d + 1, a, .leaf f, h => by show 1 ≤ d + 1; omega
  | d + 1, a, .node any ts, h => by
    obtain ⟨dx, l, bs, e1, e2, e3, e4⟩ := h
    have : depthL ts ≤ d := depthL_le fun t ht => by obtain ⟨x, hx⟩ := e4.mem ht; exact IsTr.deep d hx
    show 1 + depthL ts ≤ d + 1
    omega
theorem deepL {c1 c2 c3 c4 c5 c6 : Addr} {A : Addr → Prop} {H : Hp} {d : Nat} {bs : List Addr} {ts : List Tr} (h : All2 (IsTr c1 c2 c3 c4 c5 c6 A H d) bs ts) : depthL ts ≤ d := depthL_le fun t ht => by obtain ⟨x, hx⟩ := h.mem ht; exact IsTr.deep d hx
theorem made_any {A : Addr → Prop} {c_Bid c_Only c_SoMany c_UpTo c_Several c_AnyOf c_OneOf : Addr} {H H1 : Hp} {x dx lb c : Addr} {bs : List Addr} {ts : List Tr} {any : Bool} (nx : H x = none) (nd : H dx = none) (s1 : Same (upd (upd H dx (.own x)) x (.ins c dx [])) H1) (hb : H1 lb = none) (hB : All2 (IsTr c_Bid c_Only c_SoMany c_UpTo c_AnyOf c_OneOf A H 3) bs ts) (hc : c = if any = true then c_AnyOf else c_OneOf) :
    Same H (upd (upd H1 lb (.lst (bs.map V.ref))) x (.ins c dx (fsSev lb))) ∧ IsTr c_Bid c_Only c_SoMany c_UpTo c_AnyOf c_OneOf (fun _ => True) (upd (upd H1 lb (.lst (bs.map V.ref))) x (.ins c dx (fsSev lb))) 4 x (.node any ts) := by
  obtain ⟨S, _, T⟩ := made_tr (c_Several := c_Several) nx nd s1 hb hB hc
  exact ⟨S, T.imp fun _ _ _ _ => trivial⟩
theorem ok_L_made {f : Addr} {fd : FuncData} (F : Fun K "_law_made" "_law_made" s_L_made f fd) (m_self : mg "_law_made" = some (.ref f))
    (O_Bid : Own K mg "Bid" c_Bid [])
    (O_Only : Own K mg "Only" c_Only ["bundle", "amount"])
    (O_SoMany : Own K mg "SoMany" c_SoMany ["kind", "least", "amount"])
    (O_UpTo : Own K mg "UpTo" c_UpTo ["kind", "most", "each"])
    (O_Several : Own K mg "Several" c_Several ["bids"])
    (O_AnyOf : Own K mg "AnyOf" c_AnyOf ["bids"])
    (O_OneOf : Own K mg "OneOf" c_OneOf ["bids"])
    (MK_OneOf : MakeD P w K mg base 12 "OneOf" c_OneOf ["self", "bids"] (sp_M_Several___init__ K c_OneOf c_Bid c_Only c_SoMany c_UpTo c_Several c_AnyOf c_OneOf))
    (MK_Only : MakeD P w K mg base 4 "Only" c_Only ["self", "bundle", "amount"] (sp_M_Only___init__ K c_Only))
    (MK_SoMany : MakeD P w K mg base 4 "SoMany" c_SoMany ["self", "kind", "least", "amount"] (sp_M_SoMany___init__ K c_SoMany))
    (MK_UpTo : MakeD P w K mg base 4 "UpTo" c_UpTo ["self", "kind", "most", "each"] (sp_M_UpTo___init__ K c_UpTo))
    (MK_AnyOf : MakeD P w K mg base 12 "AnyOf" c_AnyOf ["self", "bids"] (sp_M_Several___init__ K c_AnyOf c_Bid c_Only c_SoMany c_UpTo c_Several c_AnyOf c_OneOf)) : DefOk P w K mg base 14 "_law_made" ["_law_way", "_law_parts"] [] (sp_L_made K c_Bid c_Only c_SoMany c_UpTo c_Several c_AnyOf c_OneOf) := by
  refine F.def_okQ m_self (bnd2 F fun _ _ _ _ _ _ _ _ => rfl) sc_L_made (fun vs H Q E h => ?_) (fun cdv A outer s H vs Q E hr h => ?_)
  · obtain ⟨way, lp, us, t, rfl, _⟩ := h; rfl
  obtain ⟨way, lp, us, t, rfl, hl, hM, q⟩ := h
  refine ⟨_, (R.pss_cons (R.ps_if (R.pt_cmpR op_eq (R.pv 0) R.pe_int (nomark _)) (R.pss_one (R.ps_ret (R.pe_makeD MK_Only hr (by first | decide | omega) rfl (R.pa_c (R.pe_ix (R.ixL K) (R.pv 1) R.pe_int (fun _ _ => rfl)) (R.pa_c (R.pe_ix (R.ixL K) (R.pv 1) R.pe_int (fun _ _ => rfl)) R.pa_nil))))) R.pss_nil)
    (R.pss_cons (R.ps_if (R.pt_cmpR op_eq (R.pv 0) R.pe_int (nomark _)) (R.pss_one (R.ps_ret (R.pe_makeD MK_SoMany hr (by first | decide | omega) rfl (R.pa_c (R.pe_ix (R.ixL K) (R.pv 1) R.pe_int (fun _ _ => rfl)) (R.pa_c (R.pe_ix (R.ixL K) (R.pv 1) R.pe_int (fun _ _ => rfl)) (R.pa_c (R.pe_ix (R.ixL K) (R.pv 1) R.pe_int (fun _ _ => rfl)) R.pa_nil)))))) R.pss_nil)
    (R.pss_cons (R.ps_if (R.pt_cmpR op_eq (R.pv 0) R.pe_int (nomark _)) (R.pss_one (R.ps_ret (R.pe_makeD MK_UpTo hr (by first | decide | omega) rfl (R.pa_c (R.pe_ix (R.ixL K) (R.pv 1) R.pe_int (fun _ _ => rfl)) (R.pa_c (R.pe_ix (R.ixL K) (R.pv 1) R.pe_int (fun _ _ => rfl)) (R.pa_c (R.pe_ix (R.ixL K) (R.pv 1) R.pe_int (fun _ _ => rfl)) R.pa_nil)))))) R.pss_nil)
    (R.pss_cons (R.ps_if (R.pt_cmpR op_eq (R.pv 0) R.pe_int (nomark _)) (R.pss_one (R.ps_ret (R.pe_makeD MK_AnyOf hr (by first | decide | omega) rfl (R.pa_c (R.pe_ix (R.ixL K) (R.pv 1) R.pe_int (fun _ _ => rfl)) R.pa_nil)))) R.pss_nil)
    (R.pss_one (R.ps_ret (R.pe_makeD MK_OneOf hr (by first | decide | omega) rfl (R.pa_c (R.pe_ix (R.ixL K) (R.pv 1) R.pe_int (fun _ _ => rfl)) R.pa_nil)))))))), ?_⟩
  have sx : ∀ {x dx : Addr} {o : HO}, H x = none → H dx = none → Same H (upd (upd H dx (.own x)) x o) := fun nx nd => ((Same.refl H).upd nd _).upd nx _
  rcases hM with ⟨rfl, b, m, rfl, ok, rfl⟩ | ⟨rfl, k, l, m, rfl, ok, rfl⟩ | ⟨rfl, k, l, m, rfl, ok, rfl⟩ | ⟨hw, l, bs, ts, rfl, e2, hB, hy, rfl⟩
  · refine ⟨_, rfl, rfl, _, rfl, iteT ?_⟩
    obtain ⟨b1, b2, hm⟩ := id ok
    refine ⟨_, rfl, lp, _, _, _, rfl, rfl, SqL.of hl, rfl, _, rfl, lp, _, _, _, rfl, rfl, SqL.of hl, rfl, fun x dx nx nd _ => ?_⟩
    exact ⟨x, dx, b, m, rfl, b1, b2, hm, upd_same, rfl, q x _ (made_same nx nd) ⟨ok, dx, upd_same⟩⟩
  · refine ⟨_, rfl, rfl, _, rfl, iteF ⟨_, rfl, rfl, _, rfl, iteT ?_⟩⟩
    obtain ⟨k1, k2, l1, l2, hm⟩ := id ok
    refine ⟨_, rfl, lp, _, _, _, rfl, rfl, SqL.of hl, rfl, _, rfl, lp, _, _, _, rfl, rfl, SqL.of hl, rfl, _, rfl, lp, _, _, _, rfl, rfl, SqL.of hl, rfl, fun x dx nx nd _ => ?_⟩
    exact ⟨x, dx, k, l, m, rfl, k1, k2, l1, l2, hm, upd_same, rfl, q x _ (made_same nx nd) ⟨ok, dx, upd_same⟩⟩
  · refine ⟨_, rfl, rfl, _, rfl, iteF ⟨_, rfl, rfl, _, rfl, iteF ⟨_, rfl, rfl, _, rfl, iteT ?_⟩⟩⟩
    obtain ⟨k1, k2, l1, l2, hm⟩ := id ok
    refine ⟨_, rfl, lp, _, _, _, rfl, rfl, SqL.of hl, rfl, _, rfl, lp, _, _, _, rfl, rfl, SqL.of hl, rfl, _, rfl, lp, _, _, _, rfl, rfl, SqL.of hl, rfl, fun x dx nx nd _ => ?_⟩
    exact ⟨x, dx, k, l, m, rfl, k1, k2, l1, l2, hm, upd_same, rfl, q x _ (made_same nx nd) ⟨ok, dx, upd_same⟩⟩
  · have hd := deepL hB
    rcases hw with rfl | rfl
    · refine ⟨_, rfl, rfl, _, rfl, iteF ⟨_, rfl, rfl, _, rfl, iteF ⟨_, rfl, rfl, _, rfl, iteF ⟨_, rfl, rfl, _, rfl, iteT ?_⟩⟩⟩⟩
      refine ⟨_, rfl, lp, _, _, _, rfl, rfl, SqL.of hl, rfl, fun x dx nx nd _ => ?_⟩
      refine ⟨x, dx, l, bs, ts, _, 3, rfl, upd_same, .inl rfl, sx nx nd _ _ e2, hB.imp fun y u _ z => z.same (sx nx nd), hd, hy, fun H1 lb s1 hb => ⟨rfl, ?_⟩⟩
      obtain ⟨S, T⟩ := made_any (c_Several := c_Several) (any := true) nx nd s1 hb hB rfl
      exact q x _ S T
    · refine ⟨_, rfl, rfl, _, rfl, iteF ⟨_, rfl, rfl, _, rfl, iteF ⟨_, rfl, rfl, _, rfl, iteF ⟨_, rfl, rfl, _, rfl, iteF ?_⟩⟩⟩⟩
      refine ⟨_, rfl, lp, _, _, _, rfl, rfl, SqL.of hl, rfl, fun x dx nx nd _ => ?_⟩
      refine ⟨x, dx, l, bs, ts, _, 3, rfl, upd_same, .inr rfl, sx nx nd _ _ e2, hB.imp fun y u _ z => z.same (sx nx nd), hd, hy, fun H1 lb s1 hb => ⟨rfl, ?_⟩⟩
      obtain ⟨S, T⟩ := made_any (c_Several := c_Several) (any := false) nx nd s1 hb hB rfl
      exact q x _ S T
theorem okE_L_made {f : Addr} {fd : FuncData} (F : Fun K "_law_made" "_law_made" s_L_made f fd) (m_self : mg "_law_made" = some (.ref f))
    (O_Bid : Own K mg "Bid" c_Bid [])
    (O_Only : Own K mg "Only" c_Only ["bundle", "amount"])
    (O_SoMany : Own K mg "SoMany" c_SoMany ["kind", "least", "amount"])
    (O_UpTo : Own K mg "UpTo" c_UpTo ["kind", "most", "each"])
    (O_Several : Own K mg "Several" c_Several ["bids"])
    (O_AnyOf : Own K mg "AnyOf" c_AnyOf ["bids"])
    (O_OneOf : Own K mg "OneOf" c_OneOf ["bids"])
    (ME_OneOf : MakeE P w K mg base 12 "OneOf" c_OneOf ["self", "bids"] (spE_M_Several___init__ K C c_Bid c_Only c_SoMany c_UpTo c_Several c_AnyOf c_OneOf))
    (ME_Only : MakeE P w K mg base 4 "Only" c_Only ["self", "bundle", "amount"] (spE_M_Only___init__ K C))
    (ME_SoMany : MakeE P w K mg base 4 "SoMany" c_SoMany ["self", "kind", "least", "amount"] (spE_M_SoMany___init__ K C))
    (ME_UpTo : MakeE P w K mg base 4 "UpTo" c_UpTo ["self", "kind", "most", "each"] (spE_M_UpTo___init__ K C))
    (ME_AnyOf : MakeE P w K mg base 12 "AnyOf" c_AnyOf ["self", "bids"] (spE_M_Several___init__ K C c_Bid c_Only c_SoMany c_UpTo c_Several c_AnyOf c_OneOf))
    (OW : OwnCls "NoBid" C bmV "ValueError.__new__" mg base) : DefE P w K mg base 14 "_law_made" ["_law_way", "_law_parts"] (spE_L_made K C c_Bid c_Only c_SoMany c_UpTo c_Several c_AnyOf c_OneOf) := by
  refine F.def_E m_self (bnd2 F fun _ _ _ _ _ _ _ _ => rfl) sc_L_made (fun vs H Q E h => ?_) (fun cdv A outer s H vs Q E hr h => ?_)
  · obtain ⟨way, lp, us, rfl, _⟩ := h; rfl
  obtain ⟨way, lp, us, rfl, hl, hM, q⟩ := h
  refine ⟨_, (R.pss_cons (R.ps_if (R.pt_cmpR op_eq (R.pv 0) R.pe_int (nomark _)) (R.pss_one (R.ps_ret (R.pe_makeE (E := E) ME_Only hr (by first | decide | omega) rfl (R.pa_c (R.pe_ix (R.ixL K) (R.pv 1) R.pe_int (fun _ _ => rfl)) (R.pa_c (R.pe_ix (R.ixL K) (R.pv 1) R.pe_int (fun _ _ => rfl)) R.pa_nil)) rfl rfl rfl (fun _ _ z => z)))) R.pss_nil)
    (R.pss_cons (R.ps_if (R.pt_cmpR op_eq (R.pv 0) R.pe_int (nomark _)) (R.pss_one (R.ps_ret (R.pe_makeE (E := E) ME_SoMany hr (by first | decide | omega) rfl (R.pa_c (R.pe_ix (R.ixL K) (R.pv 1) R.pe_int (fun _ _ => rfl)) (R.pa_c (R.pe_ix (R.ixL K) (R.pv 1) R.pe_int (fun _ _ => rfl)) (R.pa_c (R.pe_ix (R.ixL K) (R.pv 1) R.pe_int (fun _ _ => rfl)) R.pa_nil))) rfl rfl rfl (fun _ _ z => z)))) R.pss_nil)
    (R.pss_cons (R.ps_if (R.pt_cmpR op_eq (R.pv 0) R.pe_int (nomark _)) (R.pss_one (R.ps_ret (R.pe_makeE (E := E) ME_UpTo hr (by first | decide | omega) rfl (R.pa_c (R.pe_ix (R.ixL K) (R.pv 1) R.pe_int (fun _ _ => rfl)) (R.pa_c (R.pe_ix (R.ixL K) (R.pv 1) R.pe_int (fun _ _ => rfl)) (R.pa_c (R.pe_ix (R.ixL K) (R.pv 1) R.pe_int (fun _ _ => rfl)) R.pa_nil))) rfl rfl rfl (fun _ _ z => z)))) R.pss_nil)
    (R.pss_cons (R.ps_if (R.pt_cmpR op_eq (R.pv 0) R.pe_int (nomark _)) (R.pss_one (R.ps_ret (R.pe_makeE (E := E) ME_AnyOf hr (by first | decide | omega) rfl (R.pa_c (R.pe_ix (R.ixL K) (R.pv 1) R.pe_int (fun _ _ => rfl)) R.pa_nil) rfl rfl rfl (fun _ _ z => z)))) R.pss_nil)
    (R.pss_one (R.ps_ret (R.pe_makeE (E := E) ME_OneOf hr (by first | decide | omega) rfl (R.pa_c (R.pe_ix (R.ixL K) (R.pv 1) R.pe_int (fun _ _ => rfl)) R.pa_nil) rfl rfl rfl (fun _ _ z => z)))))))), ?_⟩
  have sx : ∀ {x dx : Addr} {o : HO}, H x = none → H dx = none → Same H (upd (upd H dx (.own x)) x o) := fun nx nd => ((Same.refl H).upd nd _).upd nx _
  rcases hM with ⟨rfl, u1, u2, rfl, hb⟩ | ⟨rfl | rfl, u1, u2, u3, rfl, hb⟩ | ⟨rfl | rfl, u, rfl, hb⟩
  · refine ⟨_, rfl, rfl, _, rfl, iteT ?_⟩
    exact ⟨_, rfl, lp, _, _, _, rfl, rfl, SqL.of hl, rfl, _, rfl, lp, _, _, _, rfl, rfl, SqL.of hl, rfl, fun x dx nx nd _ => ⟨_, u1, u2, rfl, hb.same (sx nx nd), q.same (sx nx nd)⟩⟩
  · refine ⟨_, rfl, rfl, _, rfl, iteF ⟨_, rfl, rfl, _, rfl, iteT ?_⟩⟩
    exact ⟨_, rfl, lp, _, _, _, rfl, rfl, SqL.of hl, rfl, _, rfl, lp, _, _, _, rfl, rfl, SqL.of hl, rfl, _, rfl, lp, _, _, _, rfl, rfl, SqL.of hl, rfl, fun x dx nx nd _ => ⟨_, u1, u2, u3, rfl, hb.same (sx nx nd), q.same (sx nx nd)⟩⟩
  · refine ⟨_, rfl, rfl, _, rfl, iteF ⟨_, rfl, rfl, _, rfl, iteF ⟨_, rfl, rfl, _, rfl, iteT ?_⟩⟩⟩
    exact ⟨_, rfl, lp, _, _, _, rfl, rfl, SqL.of hl, rfl, _, rfl, lp, _, _, _, rfl, rfl, SqL.of hl, rfl, _, rfl, lp, _, _, _, rfl, rfl, SqL.of hl, rfl, fun x dx nx nd _ => ⟨_, u1, u2, u3, rfl, hb.same (sx nx nd), q.same (sx nx nd)⟩⟩
  · refine ⟨_, rfl, rfl, _, rfl, iteF ⟨_, rfl, rfl, _, rfl, iteF ⟨_, rfl, rfl, _, rfl, iteF ⟨_, rfl, rfl, _, rfl, iteT ?_⟩⟩⟩⟩
    exact ⟨_, rfl, lp, _, _, _, rfl, rfl, SqL.of hl, rfl, fun x dx nx nd _ => ⟨_, u, rfl, hb.same (sx nx nd), q.same (sx nx nd)⟩⟩
  · refine ⟨_, rfl, rfl, _, rfl, iteF ⟨_, rfl, rfl, _, rfl, iteF ⟨_, rfl, rfl, _, rfl, iteF ⟨_, rfl, rfl, _, rfl, iteF ?_⟩⟩⟩⟩
    exact ⟨_, rfl, lp, _, _, _, rfl, rfl, SqL.of hl, rfl, fun x dx nx nd _ => ⟨_, u, rfl, hb.same (sx nx nd), q.same (sx nx nd)⟩⟩
theorem ok_L_other {C : Addr} {f : Addr} {fd : FuncData} (F : Fun K "_law_other" "_law_other" s_L_other f fd) (m_self : mg "_law_other" = some (.ref f)) (m_isinstance : mg "isinstance" = none) (Z : ClE K mg C) : DefH P w K mg base 1 "_law_other" ["_law_e"] (sp_L_other K C) := by
  obtain ⟨d_NoBundle, C_NoBundle, k_NoBundle⟩ := Z.nNoBundle
  obtain ⟨d_NoName, C_NoName, k_NoName⟩ := Z.nNoName
  obtain ⟨d_NoNumber, C_NoNumber, k_NoNumber⟩ := Z.nNoNumber
  obtain ⟨d_NoPaper, C_NoPaper, k_NoPaper⟩ := Z.nNoPaper
  obtain ⟨d_NoRow, C_NoRow, k_NoRow⟩ := Z.nNoRow
  obtain ⟨d_BadStep, C_BadStep, k_BadStep⟩ := Z.nBadStep
  obtain ⟨d_NoText, C_NoText, k_NoText⟩ := Z.nNoText
  obtain ⟨d_TooLate, C_TooLate, k_TooLate⟩ := Z.nTooLate
  obtain ⟨d_TooMany, C_TooMany, k_TooMany⟩ := Z.nTooMany
  refine F.def_H m_self (F.binds (ps := ["_law_e"]) fun _ _ _ _ _ _ us hl => match us, hl with | [_], _ => rfl) sc_L_other (fun vs H Q E h => ?_) (fun cdv A outer s H vs Q E hr h => ?_)
  · obtain ⟨a, rfl, _⟩ := h; rfl
  obtain ⟨a, rfl, ha, q⟩ := h
  have kA : PySem.W.kitAny K (.ref C) ([d_NoBundle, d_NoName, d_NoNumber, d_NoPaper, d_NoRow].map Value.ref) = some false := by simp only [List.map, PySem.W.kitAny, k_NoBundle, k_NoName, k_NoNumber, k_NoPaper, k_NoRow]
  have kB : PySem.W.kitAny K (.ref C) ([d_BadStep, d_NoText, d_TooLate, d_TooMany].map Value.ref) = some false := by simp only [List.map, PySem.W.kitAny, k_BadStep, k_NoText, k_TooLate, k_TooMany]
  refine ⟨_, (R.pss_cons (R.ps_if (R.pt_val (R.pe_isOT rfl m_isinstance (R.pv 0) (R.pe_tup (R.pa_c (R.pe_cls rfl C_NoBundle) (R.pa_c (R.pe_cls rfl C_NoName) (R.pa_c (R.pe_cls rfl C_NoNumber) (R.pa_c (R.pe_cls rfl C_NoPaper) (R.pa_c (R.pe_cls rfl C_NoRow) R.pa_nil)))))))) (R.pss_one (R.ps_ret R.pe_bl)) R.pss_nil)
    (R.pss_one (R.ps_ret (R.pe_isOT rfl m_isinstance (R.pv 0) (R.pe_tup (R.pa_c (R.pe_cls rfl C_BadStep) (R.pa_c (R.pe_cls rfl C_NoText) (R.pa_c (R.pe_cls rfl C_TooLate) (R.pa_c (R.pe_cls rfl C_TooMany) R.pa_nil))))))))), ?_⟩
  refine ⟨_, rfl, (by show 5 ≤ sizeLine; decide), fun p hp => ⟨a, p, C, [d_NoBundle, d_NoName, d_NoNumber, d_NoPaper, d_NoRow], false, rfl, same_new hp _ _ _ ha, upd_same, Z.exk, kA, _, rfl, iteF ?_⟩⟩
  have s1 := same_new hp (.tup ([d_NoBundle, d_NoName, d_NoNumber, d_NoPaper, d_NoRow].map V.ref))
  exact ⟨_, rfl, (by show 4 ≤ sizeLine; decide), fun p2 hp2 => ⟨a, p2, C, [d_BadStep, d_NoText, d_TooLate, d_TooMany], false, rfl, same_new hp2 _ _ _ (s1 _ _ ha), upd_same, Z.exk, kB, q _ (s1.trans (same_new hp2 _))⟩⟩
theorem ok_L_by_class {f : Addr} {fd : FuncData} (F : Fun K "_law_by_class" "_law_by_class" s_L_by_class f fd) (m_self : mg "_law_by_class" = some (.ref f)) (m_isinstance : mg "isinstance" = none) (m_ValueError : mg "ValueError" = none)
    (DE_L_made : DefE P w K mg base 14 "_law_made" ["_law_way", "_law_parts"] (spE_L_made K C c_Bid c_Only c_SoMany c_UpTo c_Several c_AnyOf c_OneOf)) (D_L_other : DefH P w K mg base 1 "_law_other" ["_law_e"] (sp_L_other K C)) (Z : ClE K mg C) : DefOk P w K mg base 15 "_law_by_class" ["_law_way", "_law_parts"] [] (sp_L_by_class K c_Bid c_Only c_SoMany c_UpTo c_Several c_AnyOf c_OneOf) := by
  obtain ⟨d_HallError, C_HallError, k_hall⟩ := Z.halk
  have C_NoBid := Z.self
  have Z_NoBid := Z.exd
  refine F.def_okQ m_self (bnd2 F fun _ _ _ _ _ _ _ _ => rfl) sc_L_by_class (fun vs H Q E h => ?_) (fun cdv A outer s H vs Q E hr h => ?_)
  · obtain ⟨way, lp, us, rfl, _⟩ := h; rfl
  obtain ⟨way, lp, us, rfl, hl, hb, q⟩ := h
  refine ⟨_, (R.pss_cons (R.ps_try (i := 2) DE_L_made hr (by decide) rfl rfl C_NoBid Z_NoBid sc_L_by_class.nd rfl rfl rfl rfl rfl (R.pa_c (R.pv 0) (R.pa_c (R.pv 1) R.pa_nil)) (fun v => (R.pss_one (R.ps_ret (R.pe_and (R.pe_isiC rfl m_isinstance rfl C_HallError (R.pv 2)) (R.pe_and (R.pe_isiT rfl m_isinstance rfl m_ValueError boot_ValueError (R.pv 2)) (R.pe_one (R.pe_not (R.pe_callH D_L_other (markH hr (by decide)) rfl (R.pa_c (R.pv 2) R.pa_nil))))))))))
    (R.pss_one (R.ps_ret R.pe_bl))), ?_⟩
  refine ⟨_, rfl, _, rfl, way, lp, us, rfl, hl, hb, fun H1 a s1 ha => ⟨a, C, rfl, rfl, Z.slf, ?_⟩⟩
  have e : upd H1 a (excO a C) a = some (excO a C) := upd_same
  refine ⟨_, rfl, a, C, true, rfl, e, Z.exk, k_hall, _, rfl, iteT ?_⟩
  refine ⟨_, rfl, a, C, true, rfl, e, Z.exk, Z.val, _, rfl, iteT ?_⟩
  exact ⟨_, rfl, a, rfl, e, fun H2 s2 => ⟨_, rfl, q _ ((s1.trans (same_new ha _)).trans s2)⟩⟩
theorem ok_L_by_base {f : Addr} {fd : FuncData} (F : Fun K "_law_by_base" "_law_by_base" s_L_by_base f fd) (m_self : mg "_law_by_base" = some (.ref f)) (m_isinstance : mg "isinstance" = none)
    (DE_L_made : DefE P w K mg base 14 "_law_made" ["_law_way", "_law_parts"] (spE_L_made K C c_Bid c_Only c_SoMany c_UpTo c_Several c_AnyOf c_OneOf)) (Z : ClE K mg C) : DefOk P w K mg base 15 "_law_by_base" ["_law_way", "_law_parts"] [] (sp_L_by_base K c_Bid c_Only c_SoMany c_UpTo c_Several c_AnyOf c_OneOf) := by
  obtain ⟨d_HallError, C_HallError, Z_HallError, hsub⟩ := Z.hall
  have C_NoBid := Z.self
  refine F.def_okQ m_self (bnd2 F fun _ _ _ _ _ _ _ _ => rfl) sc_L_by_base (fun vs H Q E h => ?_) (fun cdv A outer s H vs Q E hr h => ?_)
  · obtain ⟨way, lp, us, rfl, _⟩ := h; rfl
  obtain ⟨way, lp, us, rfl, hl, hb, q⟩ := h
  refine ⟨_, (R.pss_cons (R.ps_try (i := 2) DE_L_made hr (by decide) rfl rfl C_HallError Z_HallError sc_L_by_base.nd rfl rfl rfl rfl rfl (R.pa_c (R.pv 0) (R.pa_c (R.pv 1) R.pa_nil)) (fun v => (R.pss_one (R.ps_ret (R.pe_isiC rfl m_isinstance rfl C_NoBid (R.pv 2))))))
    (R.pss_one (R.ps_ret R.pe_bl))), ?_⟩
  refine ⟨_, rfl, _, rfl, way, lp, us, rfl, hl, hb, fun H1 a s1 ha => ⟨a, C, rfl, rfl, hsub, ?_⟩⟩
  exact ⟨_, rfl, a, C, true, rfl, upd_same, Z.exk, kit_self, q _ (s1.trans (same_new ha _))⟩
theorem ok_L_refused {f : Addr} {fd : FuncData} (F : Fun K "_law_refused" "_law_refused" s_L_refused f fd) (m_self : mg "_law_refused" = some (.ref f))
    (D_L_by_class : DefOk P w K mg base 15 "_law_by_class" ["_law_way", "_law_parts"] [] (sp_L_by_class K c_Bid c_Only c_SoMany c_UpTo c_Several c_AnyOf c_OneOf))
    (D_L_by_base : DefOk P w K mg base 15 "_law_by_base" ["_law_way", "_law_parts"] [] (sp_L_by_base K c_Bid c_Only c_SoMany c_UpTo c_Several c_AnyOf c_OneOf)) : DefOk P w K mg base 16 "_law_refused" ["_law_way", "_law_parts"] [] (sp_L_refused K c_Bid c_Only c_SoMany c_UpTo c_Several c_AnyOf c_OneOf) := by
  refine F.def_okQ m_self (bnd2 F fun _ _ _ _ _ _ _ _ => rfl) sc_L_refused (fun vs H Q E h => ?_) (fun cdv A outer s H vs Q E hr h => ?_)
  · obtain ⟨way, lp, us, rfl, _⟩ := h; rfl
  obtain ⟨way, lp, us, rfl, hl, hb, q⟩ := h
  refine ⟨_, (R.pss_one (R.ps_ret (R.pe_and (R.pe_callD D_L_by_class hr (by first | decide | omega) rfl (R.pa_c (R.pv 0) (R.pa_c (R.pv 1) R.pa_nil))) (R.pe_one (R.pe_callD D_L_by_base hr (by first | decide | omega) rfl (R.pa_c (R.pv 0) (R.pa_c (R.pv 1) R.pa_nil))))))), ?_⟩
  refine ⟨_, rfl, _, rfl, way, lp, us, rfl, hl, hb, fun H1 s1 => ⟨_, rfl, iteT ?_⟩⟩
  exact ⟨_, rfl, _, rfl, way, lp, us, rfl, s1 _ _ hl, hb.same s1, fun H2 s2 => q _ (s1.trans s2)⟩
theorem tab_one {g : Nat → Int} (h : Good g) : tab g 0 = [0] := by
  show [g 0] = [0]
  rw [h.zero]
theorem ok_L_taken {f : Addr} {fd : FuncData} (F : Fun K "_law_taken" "_law_taken" s_L_taken f fd) (m_self : mg "_law_taken" = some (.ref f)) (m_isinstance : mg "isinstance" = none)
    (D_L_made : DefOk P w K mg base 14 "_law_made" ["_law_way", "_law_parts"] [] (sp_L_made K c_Bid c_Only c_SoMany c_UpTo c_Several c_AnyOf c_OneOf))
    (O_Bid : Own K mg "Bid" c_Bid [])
    (O_Only : Own K mg "Only" c_Only ["bundle", "amount"])
    (O_SoMany : Own K mg "SoMany" c_SoMany ["kind", "least", "amount"])
    (O_UpTo : Own K mg "UpTo" c_UpTo ["kind", "most", "each"])
    (O_Several : Own K mg "Several" c_Several ["bids"])
    (O_AnyOf : Own K mg "AnyOf" c_AnyOf ["bids"])
    (O_OneOf : Own K mg "OneOf" c_OneOf ["bids"])
    (hT_worths : ∀ C sp, T_worths K c_Bid c_Only c_SoMany c_UpTo c_Several c_AnyOf c_OneOf C sp → ∃ ps, MethD P w K mg base 11 C "worths" ps sp)
    (kit_Bid_Bid : PySem.W.kitOne K (.ref c_Bid) (.ref c_Bid) = some true)
    (kit_Only_Bid : PySem.W.kitOne K (.ref c_Only) (.ref c_Bid) = some true)
    (kit_SoMany_Bid : PySem.W.kitOne K (.ref c_SoMany) (.ref c_Bid) = some true)
    (kit_UpTo_Bid : PySem.W.kitOne K (.ref c_UpTo) (.ref c_Bid) = some true)
    (kit_Several_Bid : PySem.W.kitOne K (.ref c_Several) (.ref c_Bid) = some true)
    (kit_AnyOf_Bid : PySem.W.kitOne K (.ref c_AnyOf) (.ref c_Bid) = some true)
    (kit_OneOf_Bid : PySem.W.kitOne K (.ref c_OneOf) (.ref c_Bid) = some true) : DefOk P w K mg base 15 "_law_taken" ["_law_way", "_law_parts"] [] (sp_L_taken K c_Bid c_Only c_SoMany c_UpTo c_Several c_AnyOf c_OneOf) := by
  refine F.def_okQ m_self (bnd2 F fun _ _ _ _ _ _ _ _ => rfl) sc_L_taken (fun vs H Q E h => ?_) (fun cdv A outer s H vs Q E hr h => ?_)
  · obtain ⟨way, lp, us, t, rfl, _⟩ := h; rfl
  obtain ⟨way, lp, us, t, rfl, hl, hM, q⟩ := h
  refine ⟨_, (R.pss_cons (R.ps_tryN (R.pss_one (R.ps_set (i := 2) sc_L_taken.nd rfl (Or.inl rfl) (R.pe_callD D_L_made hr (by first | decide | omega) rfl (R.pa_c (R.pv 0) (R.pa_c (R.pv 1) R.pa_nil))))))
    (R.pss_one (R.ps_ret (R.pe_and (R.pe_isOwn rfl m_isinstance rfl O_Bid.at_ (R.pv 2)) (R.pe_one (R.pe_cmpR (op_eqI hr.units0) (R.pe_methV (R.pv 2) hT_worths hr (by first | decide | omega) (R.pa_c R.pe_int R.pa_nil)) (R.pe_lst (R.pa_c R.pe_int R.pa_nil)) (nomark _))))))), ?_⟩
  refine ⟨_, rfl, _, rfl, way, lp, us, t, rfl, hl, hM, fun x H1 s1 hT => ?_⟩
  obtain ⟨ty, h1, h2⟩ := is_bid O_Bid O_Only O_SoMany O_UpTo O_Several O_AnyOf O_OneOf kit_Bid_Bid kit_Only_Bid kit_SoMany_Bid kit_UpTo_Bid kit_AnyOf_Bid kit_OneOf_Bid hT
  refine ⟨_, rfl, _, ty, true, rfl, h1, h2, _, rfl, iteT ?_⟩
  obtain ⟨CC, dx, ff, sp, g1, g2, g3, g4⟩ := ask_worths K (c_Several := c_Several) (n := 0) (by decide) (IsTr.to 4 5 hT (by have := IsTr.deep 4 hT; omega))
  refine ⟨_, rfl, x, CC, dx, ff, sp, rfl, g1, g2, g3, g4 _ fun l2 H2 s2 hl2 e2 => ?_⟩
  rw [tab_one (worthT_good t (IsTr.ok _ hT))] at e2
  refine ⟨(by show 1 ≤ sizeLine; decide), fun l3 h3 => ?_⟩
  have s3 := same_new h3 (.lst [V.int 0])
  exact ⟨l2, l3, [0], [0], rfl, rfl, SqL.of (s3 _ _ e2), SqL.of upd_same, q _ ((s1.trans s2).trans s3)⟩
end
end My


set_option Elab.async false
set_option linter.all false
set_option maxRecDepth 100000
set_option maxHeartbeats 4000000
namespace My
open PySem PySem.Spec PyProof.Rows L2 GM
section
variable {P : Program} {w : World} {K : PySem.W.Frag} {mg : Str → Option Value} {base : Heap}
variable {c_Bid c_Only c_SoMany c_UpTo c_Several c_AnyOf c_OneOf C : Addr}
theorem ok_L_within {f : Addr} {fd : FuncData} (F : Fun K "_law_within" "_law_within" s_L_within f fd) (m_self : mg "_law_within" = some (.ref f)) : DefOk P w K mg base 1 "_law_within" ["_law_cell_here", "_law_low", "_law_high"] [] (sp_L_within K) := by
  refine F.def_okQ m_self (bnd3 F fun _ _ _ _ _ _ _ _ _ => rfl) sc_L_within (fun vs H Q E h => ?_) (fun cdv A outer s H vs Q E hr h => ?_)
  · obtain ⟨c, lo, hi, rfl, _⟩ := h; rfl
  obtain ⟨c, lo, hi, rfl, hle, q⟩ := h
  refine ⟨_, (R.pss_cons (R.ps_if (R.pt_cmpR op_eq (R.pe_op op_mod (R.pv 0) R.pe_int) R.pe_int (nomark _)) (R.pss_one (R.ps_ret (R.pv 1))) R.pss_nil)
    (R.pss_cons (R.ps_if (R.pt_cmpR op_eq (R.pe_op op_mod (R.pv 0) R.pe_int) R.pe_int (nomark _)) (R.pss_one (R.ps_ret (R.pv 2))) R.pss_nil)
    (R.pss_one (R.ps_ret (R.pe_op op_add (R.pv 1) (R.pe_op (opE op_mod) (R.pe_op op_fdiv (R.pv 0) R.pe_int) (R.pe_op op_add (R.pe_op op_sub (R.pv 2) (R.pv 1)) R.pe_int))))))), ?_⟩
  refine ⟨_, rfl, _, _, rfl, rfl, (by show (0 : Int) < 8; decide), rfl, _, rfl, ?_⟩
  refine ite2 (fun _ => ⟨_, rfl, q lo (Int.le_refl _) hle⟩) (fun _ => ?_)
  refine ⟨_, rfl, _, _, rfl, rfl, (by show (0 : Int) < 8; decide), rfl, _, rfl, ?_⟩
  refine ite2 (fun _ => ⟨_, rfl, q hi hle (Int.le_refl _)⟩) (fun _ => ?_)
  have p : 0 < hi - lo + 1 := by omega
  have a1 := Int.emod_nonneg (c / 8) (show hi - lo + 1 ≠ 0 by omega)
  have a2 := Int.emod_lt_of_pos (c / 8) p
  exact ⟨_, rfl, _, rfl, _, _, rfl, rfl, ⟨by decide, by decide⟩, _, rfl, _, rfl, _, _, rfl, rfl, _, _, rfl, rfl, _, _, .int (c / 8 % (hi - lo + 1)), rfl, rfl, p, rfl, _, _, rfl, rfl, q _ (by omega) (by omega)⟩
theorem lt12 : ∀ z < 12, z = 0 ∨ z = 1 ∨ z = 2 ∨ z = 3 ∨ z = 4 ∨ z = 5 ∨ z = 6 ∨ z = 7 ∨ z = 8 ∨ z = 9 ∨ z = 10 ∨ z = 11 := by decide
theorem ok_L_odd {f : Addr} {fd : FuncData} (F : Fun K "_law_odd" "_law_odd" s_L_odd f fd) (m_self : mg "_law_odd" = some (.ref f)) : DefOk P w K mg base 1 "_law_odd" ["_law_cell_here", "_law_low", "_law_high"] [] (sp_L_odd K) := by
  refine F.def_okQ m_self (bnd3 F fun _ _ _ _ _ _ _ _ _ => rfl) sc_L_odd (fun vs H Q E h => ?_) (fun cdv A outer s H vs Q E hr h => ?_)
  · obtain ⟨c, lo, hi, rfl, _⟩ := h; rfl
  obtain ⟨c, lo, hi, rfl, hle, q⟩ := h
  refine ⟨_, (R.pss_cons (R.ps_set (i := 3) sc_L_odd.nd rfl (Or.inl rfl) (R.pe_op (opE op_mod) (R.pe_op op_fdiv (R.pv 0) R.pe_int) (R.pe_op op_pow R.pe_int R.pe_int)))
    (R.pss_cons (R.ps_set (i := 4) sc_L_odd.nd rfl (Or.inl rfl) (R.pe_lst (R.pa_c (R.pe_op (opE0 op_sub) (R.pv 1) R.pe_int) (R.pa_c (R.pe_op (opE0 op_add) (R.pv 2) R.pe_int) (R.pa_c (R.pe_op (opE0 op_sub) (R.pe_op op_sub (R.pv 1) R.pe_int) (R.pv 3)) (R.pa_c (R.pe_op (opE0 op_add) (R.pe_op op_add (R.pv 2) R.pe_int) (R.pv 3)) R.pa_nil))))))
    (R.pss_cons (R.ps_set (i := 4) sc_L_odd.nd rfl (Or.inl rfl) (R.pe_op op_cat (R.pv 4) (R.pe_lst (R.pa_c R.pe_non (R.pa_c R.pe_bl (R.pa_c R.pe_bl (R.pa_c R.pe_str (R.pa_c (R.pe_tup (R.pa_c R.pe_int R.pa_nil)) (R.pa_c (R.pe_lst (R.pa_c R.pe_int R.pa_nil)) (R.pa_c R.pe_dnewK (R.pa_c R.pe_str R.pa_nil)))))))))))
    (R.pss_one (R.ps_ret (R.pe_ix (R.ixL K) (R.pv 4) (R.pe_op (opE op_mod) (R.pv 0) R.pe_int) (fun _ _ => rfl))))))), ?_⟩
  obtain ⟨z, ez, hz⟩ := mod_nat c 12 (by decide)
  obtain ⟨F, hF, f0⟩ : ∃ F, c / 12 % (10 ^ 40 : Int) = F ∧ 0 ≤ F := ⟨_, rfl, Int.emod_nonneg (c / 12) (by decide)⟩
  refine ⟨_, rfl, _, _, rfl, rfl, ⟨by decide, by decide⟩, _, _, rfl, rfl, ⟨by decide, by decide, by decide⟩, _, _, .int F, rfl, rfl, (by show (0 : Int) < 10 ^ 40; decide), congrArg V.int hF, ?_⟩
  refine ⟨_, rfl, _, _, .int (lo - 1), rfl, rfl, rfl, _, rfl, _, _, .int (hi + 1), rfl, rfl, rfl, _, rfl, _, _, rfl, rfl, _, rfl, _, _, .int (lo - 2 - F), rfl, rfl, rfl, _, rfl, _, _, rfl, rfl, _, rfl, _, _, .int (hi + 2 + F), rfl, rfl, rfl, (by show 4 ≤ sizeLine; decide), fun l1 h1 => ?_⟩
  have s1 := same_new h1 (.lst [.int (lo - 1), .int (hi + 1), .int (lo - 2 - F), .int (hi + 2 + F)])
  have e1 : upd H l1 (.lst [.int (lo - 1), .int (hi + 1), .int (lo - 2 - F), .int (hi + 2 + F)]) l1 = some (.lst [.int (lo - 1), .int (hi + 1), .int (lo - 2 - F), .int (hi + 2 + F)]) := upd_same
  generalize upd H l1 (.lst [.int (lo - 1), .int (hi + 1), .int (lo - 2 - F), .int (hi + 2 + F)]) = H1 at s1 e1 ⊢
  refine ⟨_, rfl, (by show 1 ≤ sizeLine; decide), fun p hp => ⟨(by show 1 ≤ sizeLine; decide), fun l2 h2 => fun d hd => ⟨(by show 8 ≤ sizeLine; decide), fun l3 h3 => ?_⟩⟩⟩
  have s2 := same_new hp (.tup [.int 3])
  have e2 : upd H1 p (.tup [.int 3]) p = some (.tup [.int 3]) := upd_same
  generalize upd H1 p (.tup [.int 3]) = H2 at s2 e2 h2 hd h3 ⊢
  have s3 := same_new h2 (.lst [.int 3])
  have e3 : upd H2 l2 (.lst [.int 3]) l2 = some (.lst [.int 3]) := upd_same
  generalize upd H2 l2 (.lst [.int 3]) = H3 at s3 e3 hd h3 ⊢
  have s4 := same_new hd (.dK [])
  have e4 : upd H3 d (.dK []) d = some (.dK []) := upd_same
  generalize upd H3 d (.dK []) = H4 at s4 e4 h3 ⊢
  have s5 := same_new h3 (.lst [.non, .bl true, .bl false, .str "3", .ref p, .ref l2, .ref d, .str ""])
  have e5 : upd H4 l3 (.lst [.non, .bl true, .bl false, .str "3", .ref p, .ref l2, .ref d, .str ""]) l3 = some (.lst [.non, .bl true, .bl false, .str "3", .ref p, .ref l2, .ref d, .str ""]) := upd_same
  generalize upd H4 l3 (.lst [.non, .bl true, .bl false, .str "3", .ref p, .ref l2, .ref d, .str ""]) = H5 at s5 e5 ⊢
  have S25 := ((s2.trans s3).trans s4).trans s5
  refine ⟨l1, l3, _, _, rfl, rfl, S25 _ _ e1, e5, (by show 12 ≤ sizeLine; decide), fun l4 h4 => ?_⟩
  have s6 := same_new h4 (.lst ([V.int (lo - 1), .int (hi + 1), .int (lo - 2 - F), .int (hi + 2 + F)] ++ [V.non, .bl true, .bl false, .str "3", .ref p, .ref l2, .ref d, .str ""]))
  have S := (s1.trans S25).trans s6
  have t2 := ((s3.trans s4).trans s5).trans s6
  have t3 := (s4.trans s5).trans s6
  have t4 := s5.trans s6
  obtain ⟨v, ew, hb⟩ : ∃ v, atI ([V.int (lo - 1), .int (hi + 1), .int (lo - 2 - F), .int (hi + 2 + F)] ++ [V.non, .bl true, .bl false, .str "3", .ref p, .ref l2, .ref d, .str ""]) (z : Int) = some v ∧ Bad K lo hi (upd H5 l4 (.lst ([V.int (lo - 1), .int (hi + 1), .int (lo - 2 - F), .int (hi + 2 + F)] ++ [V.non, .bl true, .bl false, .str "3", .ref p, .ref l2, .ref d, .str ""]))) v := by
    rcases lt12 z hz with e | e | e | e | e | e | e | e | e | e | e | e <;> subst e
    · exact ⟨_, rfl, .inr ⟨_, rfl, .inl (by omega)⟩⟩
    · exact ⟨_, rfl, .inr ⟨_, rfl, .inr (by omega)⟩⟩
    · exact ⟨_, rfl, .inr ⟨_, rfl, .inl (by omega)⟩⟩
    · exact ⟨_, rfl, .inr ⟨_, rfl, .inr (by omega)⟩⟩
    · exact ⟨_, rfl, .inl ⟨.non, TyOf.non, by decide⟩⟩
    · exact ⟨_, rfl, .inl ⟨.bl, TyOf.bl _, by decide⟩⟩
    · exact ⟨_, rfl, .inl ⟨.bl, TyOf.bl _, by decide⟩⟩
    · exact ⟨_, rfl, .inl ⟨.str, TyOf.str _, by decide⟩⟩
    · exact ⟨_, rfl, .inl ⟨.tup, TyOf.tup (t2 _ _ e2), by decide⟩⟩
    · exact ⟨_, rfl, .inl ⟨.lst, TyOf.lst (t3 _ _ e3), by decide⟩⟩
    · exact ⟨_, rfl, .inl ⟨.dct, TyOf.dK (t4 _ _ e4), by decide⟩⟩
    · exact ⟨_, rfl, .inl ⟨.str, TyOf.str _, by decide⟩⟩
  exact ⟨_, rfl, _, rfl, _, _, nv z, rfl, rfl, (by show (0 : Int) < 12; decide), congrArg V.int ez, l4, _, _, _, rfl, rfl, SqL.of upd_same, ew, q v _ S hb⟩
theorem TyOf.put {H : Hp} {m : Addr} {zs ws : List V} {v : V} {u : Value} (hm : H m = some (.lst zs)) (h : TyOf K H v u) : TyOf K (upd H m (.lst ws)) v u := by
  cases h with
  | non => exact .non
  | bl x => exact .bl x
  | int i => exact .int i
  | str x => exact .str x
  | flt x => exact .flt x
  | @lst a xs e =>
    by_cases c : a = m
    · subst c; exact .lst upd_same
    · exact .lst (by rw [upd_ne c]; exact e)
  | frz e => exact .frz (by rw [upd_ne (fun q => by rw [q, hm] at e; cases e)]; exact e)
  | tup e => exact .tup (by rw [upd_ne (fun q => by rw [q, hm] at e; cases e)]; exact e)
  | dK e => exact .dK (by rw [upd_ne (fun q => by rw [q, hm] at e; cases e)]; exact e)
  | dT e => exact .dT (by rw [upd_ne (fun q => by rw [q, hm] at e; cases e)]; exact e)
  | ins e a b c d f => exact .ins (by rw [upd_ne (fun q => by rw [q, hm] at e; cases e)]; exact e) a b c d f
noncomputable def bnds (way : Nat) : List (Int × Int) := if way = 0 then [(1, 63), (0, 10 ^ 9)] else [(1, 63), (1, 6), (0, 10 ^ 9)]
noncomputable def InB (g : Int) (b : Int × Int) : Prop := b.1 ≤ g ∧ g ≤ b.2
theorem two_of {gs : List Int} {b1 b2 : Int × Int} (h : All2 InB gs [b1, b2]) : ∃ g1 g2, gs = [g1, g2] ∧ InB g1 b1 ∧ InB g2 b2 := by
  match gs, h with
  | [g1, g2], h => exact ⟨g1, g2, rfl, h.2 0 _ _ rfl rfl, h.2 1 _ _ rfl rfl⟩
  | [], h => exact absurd h.1 (by simp)
  | [_], h => exact absurd h.1 (by simp)
  | _ :: _ :: _ :: _, h => exact absurd h.1 (by simp)
theorem three_of {gs : List Int} {b1 b2 b3 : Int × Int} (h : All2 InB gs [b1, b2, b3]) : ∃ g1 g2 g3, gs = [g1, g2, g3] ∧ InB g1 b1 ∧ InB g2 b2 ∧ InB g3 b3 := by
  match gs, h with
  | [g1, g2, g3], h => exact ⟨g1, g2, g3, rfl, h.2 0 _ _ rfl rfl, h.2 1 _ _ rfl rfl, h.2 2 _ _ rfl rfl⟩
  | [], h => exact absurd h.1 (by simp)
  | [_], h => exact absurd h.1 (by simp)
  | [_, _], h => exact absurd h.1 (by simp)
  | _ :: _ :: _ :: _ :: _, h => exact absurd h.1 (by simp)
theorem nat_of {g : Int} (h : 0 ≤ g) : V.int g = nv g.toNat := by show V.int g = V.int ((g.toNat : Nat) : Int); rw [Int.toNat_of_nonneg h]
theorem fits {c_Bid c_Only c_SoMany c_UpTo c_Several c_AnyOf c_OneOf : Addr} {H : Hp} {way : Nat} {gs : List Int} (hw : way < 3) (h : All2 InB gs (bnds way)) : ∃ t, Made c_Bid c_Only c_SoMany c_UpTo c_Several c_AnyOf c_OneOf H way (gs.map V.int) t := by
  rcases (by omega : way = 0 ∨ way = 1 ∨ way = 2) with e | e | e <;> subst e
  · obtain ⟨g1, g2, rfl, ⟨i1, j1⟩, ⟨i2, j2⟩⟩ := two_of h
    have i1' : 1 ≤ g1 := i1
    have j1' : g1 ≤ 63 := j1
    exact ⟨_, .inl ⟨rfl, g1.toNat, g2, by rw [← nat_of (by omega)]; rfl, ⟨by omega, by omega, ⟨i2, j2⟩⟩, rfl⟩⟩
  · obtain ⟨g1, g2, g3, rfl, ⟨i1, j1⟩, ⟨i2, j2⟩, ⟨i3, j3⟩⟩ := three_of h
    have i1' : 1 ≤ g1 := i1
    have j1' : g1 ≤ 63 := j1
    have i2' : 1 ≤ g2 := i2
    have j2' : g2 ≤ 6 := j2
    exact ⟨_, .inr (.inl ⟨rfl, g1.toNat, g2.toNat, g3, by rw [← nat_of (by omega), ← nat_of (by omega)]; rfl, ⟨by omega, by omega, by omega, by omega, ⟨i3, j3⟩⟩, rfl⟩)⟩
  · obtain ⟨g1, g2, g3, rfl, ⟨i1, j1⟩, ⟨i2, j2⟩, ⟨i3, j3⟩⟩ := three_of h
    have i1' : 1 ≤ g1 := i1
    have j1' : g1 ≤ 63 := j1
    have i2' : 1 ≤ g2 := i2
    have j2' : g2 ≤ 6 := j2
    exact ⟨_, .inr (.inr (.inl ⟨rfl, g1.toNat, g2.toNat, g3, by rw [← nat_of (by omega), ← nat_of (by omega)]; rfl, ⟨by omega, by omega, by omega, by omega, ⟨i3, j3⟩⟩, rfl⟩))⟩
theorem spoilt {c_Bid c_Only c_SoMany c_UpTo c_Several c_AnyOf c_OneOf : Addr} {H : Hp} {way : Nat} {gs : List Int} {j : Nat} {b : Int × Int} {v : V} (hw : way < 3) (h : All2 InB gs (bnds way)) (hj : (bnds way)[j]? = some b) (hb : Bad K b.1 b.2 H v) : BadMade K c_Bid c_Only c_SoMany c_UpTo c_Several c_AnyOf c_OneOf H way ((gs.map V.int).set j v) := by
  have three : ∀ {gs : List Int}, All2 InB gs [(1, 63), (1, 6), (0, 10 ^ 9)] → ([(1, 63), (1, 6), (0, 10 ^ 9)] : List (Int × Int))[j]? = some b → ∃ u1 u2 u3, (gs.map V.int).set j v = [u1, u2, u3] ∧ Bad3 K H u1 u2 u3 := by
    intro gs h hj
    obtain ⟨g1, g2, g3, rfl, ⟨i1, j1⟩, ⟨i2, j2⟩, ⟨i3, j3⟩⟩ := three_of h
    match j, hj with
    | 0, hj => cases hj; exact ⟨_, _, _, rfl, .inl hb⟩
    | 1, hj => cases hj; exact ⟨_, _, _, rfl, .inr ⟨⟨_, rfl, i1, j1⟩, .inl hb⟩⟩
    | 2, hj => cases hj; exact ⟨_, _, _, rfl, .inr ⟨⟨_, rfl, i1, j1⟩, .inr ⟨⟨_, rfl, i2, j2⟩, hb⟩⟩⟩
    | _ + 3, hj => simp at hj
  rcases (by omega : way = 0 ∨ way = 1 ∨ way = 2) with e | e | e <;> subst e
  · obtain ⟨g1, g2, rfl, ⟨i1, j1⟩, ⟨i2, j2⟩⟩ := two_of h
    match j, hj with
    | 0, hj => cases hj; exact .inl ⟨rfl, _, _, rfl, .inl hb⟩
    | 1, hj => cases hj; exact .inl ⟨rfl, _, _, rfl, .inr ⟨⟨_, rfl, i1, j1⟩, hb⟩⟩
    | _ + 2, hj => simp [bnds] at hj
  · exact .inr (.inl ⟨.inl rfl, three h hj⟩)
  · exact .inr (.inl ⟨.inr rfl, three h hj⟩)
theorem bnds_le (way : Nat) : ∀ b ∈ bnds way, b.1 ≤ b.2 := by
  by_cases h : way = 0
  · rw [bnds, if_pos h]; decide
  · rw [bnds, if_neg h]; decide
theorem bnds_len (way : Nat) : 0 < (bnds way).length ∧ (bnds way).length ≤ 3 := by
  by_cases h : way = 0
  · rw [bnds, if_pos h]; decide
  · rw [bnds, if_neg h]; decide
/-- tuples of bounds -/
noncomputable def BndsAt (H : Hp) (ps : List Addr) (bd : List (Int × Int)) : Prop := All2 (fun p b => H p = some (.tup [.int b.1, .int b.2])) ps bd
theorem ok_L_numbers {f : Addr} {fd : FuncData} (F : Fun K "_law_numbers" "_law_numbers" s_L_numbers f fd) (m_self : mg "_law_numbers" = some (.ref f)) (m_range : mg "range" = none) (m_list : mg "list" = none) (m_len : mg "len" = none)
    (D_L_odd : DefOk P w K mg base 1 "_law_odd" ["_law_cell_here", "_law_low", "_law_high"] [] (sp_L_odd K))
    (D_L_cell : DefOk P w K mg base 1 "_law_cell" ["_law_script", "_law_k"] [] (sp_L_cell K))
    (D_L_taken : DefOk P w K mg base 15 "_law_taken" ["_law_way", "_law_parts"] [] (sp_L_taken K c_Bid c_Only c_SoMany c_UpTo c_Several c_AnyOf c_OneOf))
    (D_L_refused : DefOk P w K mg base 16 "_law_refused" ["_law_way", "_law_parts"] [] (sp_L_refused K c_Bid c_Only c_SoMany c_UpTo c_Several c_AnyOf c_OneOf))
    (D_L_within : DefOk P w K mg base 1 "_law_within" ["_law_cell_here", "_law_low", "_law_high"] [] (sp_L_within K)) : DefOk P w K mg base 17 "_law_numbers" ["_law_script", "_law_way"] [] (sp_L_numbers K) := by
  refine F.def_okQ m_self (bnd2 F fun _ _ _ _ _ _ _ _ => rfl) sc_L_numbers (fun vs H Q E h => ?_) (fun cdv A outer s H vs Q E hr h => ?_)
  · obtain ⟨a, ns, way, rfl, _⟩ := h; rfl
  obtain ⟨a, ns, way, rfl, hS, hw, q⟩ := h
  obtain ⟨t2, ht2, rt2⟩ : ∃ tt, QSs (cxOf CX0 P w K mg base ["_law_script", "_law_way", "_law_bounds", "_law_good", "_law_k", "_law_at", "_law_bad"] "_law_numbers" (defScope s_L_numbers) f cdv A outer s H E).nox ((defBody s_L_numbers).drop 2) tt ∧
      ∀ (H1 : Hp) (lb : Addr) (ps : List Addr), SqL K H1 a (ns.map V.int) → H1 lb = some (.lst (ps.map V.ref)) → BndsAt H1 ps (bnds way) →
        tt { nx := fun _ H' => Q .non H', rt := Q } [some (.ref a), some (nv way), some (.ref lb), none, none, none, none] H1 := by
    refine ⟨_, (R.pss_cons (R.ps_set (i := 3) sc_L_numbers.nd rfl (Or.inl rfl) (R.pe_lst R.pa_nil))
    (R.pss_cons (R.ps_for PassesOwn.never rfl (R.pi_range1 rfl m_range (R.pa_c (R.pe_cB call_len_seq rfl m_len PySem.boot_len (R.pa_c (R.pv 2) R.pa_nil)) R.pa_nil)) (R.pg_name (i := 4) sc_L_numbers.nd rfl (Or.inl rfl)) (R.pss_one (R.ps_expr (R.pe_append (R.pv 3) (R.pa_c (R.pe_callD D_L_within hr (by first | decide | omega) rfl (R.pa_c (R.pe_callD D_L_cell hr (by first | decide | omega) rfl (R.pa_c (R.pv 0) (R.pa_c (R.pe_op (opE0 op_add) R.pe_int (R.pv 4)) R.pa_nil))) (R.pa_c (R.pe_ix ix_tup (R.pe_ix (R.ixL K) (R.pv 2) (R.pv 4) (fun _ _ => rfl)) R.pe_int (fun _ _ => rfl)) (R.pa_c (R.pe_ix ix_tup (R.pe_ix (R.ixL K) (R.pv 2) (R.pv 4) (fun _ _ => rfl)) R.pe_int (fun _ _ => rfl)) R.pa_nil)))) R.pa_nil)))))
    (R.pss_cons (R.ps_set (i := 5) sc_L_numbers.nd rfl (Or.inl rfl) (R.pe_op (opE op_mod) (R.pe_callD D_L_cell hr (by first | decide | omega) rfl (R.pa_c (R.pv 0) (R.pa_c R.pe_int R.pa_nil))) (R.pe_cB call_len_seq rfl m_len PySem.boot_len (R.pa_c (R.pv 3) R.pa_nil))))
    (R.pss_cons (R.ps_set (i := 6) sc_L_numbers.nd rfl (Or.inl rfl) (R.pe_cTy call_list_of rfl m_list (boot_list) (R.pa_c (R.pv 3) R.pa_nil)))
    (R.pss_cons (R.ps_asg (R.pe_callD D_L_odd hr (by first | decide | omega) rfl (R.pa_c (R.pe_callD D_L_cell hr (by first | decide | omega) rfl (R.pa_c (R.pv 0) (R.pa_c R.pe_int R.pa_nil))) (R.pa_c (R.pe_ix ix_tup (R.pe_ix (R.ixL K) (R.pv 2) (R.pv 5) (fun _ _ => rfl)) R.pe_int (fun _ _ => rfl)) (R.pa_c (R.pe_ix ix_tup (R.pe_ix (R.ixL K) (R.pv 2) (R.pv 5) (fun _ _ => rfl)) R.pe_int (fun _ _ => rfl)) R.pa_nil)))) (R.pg_setL (R.pv 6) (R.pv 5)))
    (R.pss_one (R.ps_ret (R.pe_and (R.pe_callD D_L_taken hr (by first | decide | omega) rfl (R.pa_c (R.pv 1) (R.pa_c (R.pv 3) R.pa_nil))) (R.pe_and (R.pe_callD D_L_refused hr (by first | decide | omega) rfl (R.pa_c (R.pv 1) (R.pa_c (R.pv 6) R.pa_nil))) (R.pe_one (R.pe_callD D_L_taken hr (by first | decide | omega) rfl (R.pa_c (R.pv 1) (R.pa_c (R.pv 3) R.pa_nil))))))))))))), ?_⟩
    intro H1 lb ps hS1 eb hP
    obtain ⟨b0, b3⟩ := bnds_len way
    have pl : (ps.map V.ref).length = (bnds way).length := by rw [List.length_map, hP.1]
    refine ⟨(by show 0 ≤ sizeLine; decide), fun lg hg => ?_⟩
    have s1 := same_new hg (.lst [])
    refine ⟨_, rfl, lb, _, rfl, .inl (SqL.of (s1 _ _ eb)), _, rfl, by omega, by omega, ?_⟩
    rw [Int.toNat_natCast, pl]
    refine for_range (n := (bnds way).length) (lo := 0) (fun i σ H' => Same H1 H' ∧ (∃ gs : List Int, H' lg = some (.lst (gs.map V.int)) ∧ All2 InB gs ((bnds way).take i)) ∧ ∃ y, σ = [some (.ref a), some (nv way), some (.ref lb), some (.ref lg), y, none, none]) ?_ ?_ ?_
    · exact ⟨s1, ⟨[], upd_same, All2.nil⟩, _, rfl⟩
    · rintro k σ H2 hk ⟨s2, ⟨gs, eg, hG⟩, y, rfl⟩
      rw [Int.zero_add]
      have hk' : k < ps.length := by rw [hP.1]; exact hk
      have zp : (ps.map V.ref)[k]? = some (V.ref ps[k]) := by rw [List.getElem?_map, List.getElem?_eq_getElem hk']; rfl
      have hbk : (bnds way)[k]? = some (bnds way)[k] := List.getElem?_eq_getElem hk
      refine ⟨_, rfl, .inl ⟨rfl, _, SqL.of eg⟩, ?_⟩
      refine ⟨_, rfl, _, rfl, _, _, nv (1 + k), rfl, rfl, rfl, a, ns, 1 + k, rfl, s2.seq hS1, by omega, fun H3 s3 => ?_⟩
      have S3 := s2.trans s3
      have ep := hP.2 k ps[k] _ (List.getElem?_eq_getElem hk') hbk
      refine ⟨_, rfl, _, rfl, lb, _, _, _, rfl, rfl, SqL.of (S3 _ _ eb), at_nat zp, ps[k], _, _, _, rfl, rfl, SqT.of (S3 _ _ ep), rfl, ?_⟩
      refine ⟨_, rfl, _, rfl, lb, _, _, _, rfl, rfl, SqL.of (S3 _ _ eb), at_nat zp, ps[k], _, _, _, rfl, rfl, SqT.of (S3 _ _ ep), rfl, ?_⟩
      refine ⟨_, _, _, rfl, bnds_le way _ (List.getElem_mem hk), fun i h1 h2 => ?_⟩
      have gl : gs.length ≤ 3 := by rw [hG.1, List.length_take]; omega
      refine ⟨lg, _, _, rfl, rfl, s3 _ _ eg, by rw [List.length_map]; exact small1000 (by omega), S3.upd hg _, ⟨gs ++ [i], by rw [upd_same, List.map_append]; rfl, ?_⟩, _, rfl⟩
      rw [List.take_succ, hbk]
      exact hG.snoc ⟨h1, h2⟩
    · rintro σ H2 ⟨s2, ⟨gs, eg, hG⟩, y, rfl⟩
      rw [List.take_length] at hG
      have gl : gs.length = (bnds way).length := hG.1
      have hS2 := s2.seq hS1
      have gml : (gs.map V.int).length = gs.length := List.length_map _
      obtain ⟨t, made⟩ := fits (c_Bid := c_Bid) (c_Only := c_Only) (c_SoMany := c_SoMany) (c_UpTo := c_UpTo) (c_Several := c_Several) (c_AnyOf := c_AnyOf) (c_OneOf := c_OneOf) (H := H2) hw hG
      refine ⟨_, rfl, a, ns, 4, rfl, hS2, by decide, fun H3 s3 => ?_⟩
      obtain ⟨j, ej, hj⟩ := mod_nat (cellN ns 4) gs.length (by omega)
      have hj' : j < (bnds way).length := by omega
      have hbj : (bnds way)[j]? = some (bnds way)[j] := List.getElem?_eq_getElem hj'
      have hjp : j < ps.length := by rw [hP.1]; exact hj'
      have zp : (ps.map V.ref)[j]? = some (V.ref ps[j]) := by rw [List.getElem?_map, List.getElem?_eq_getElem hjp]; rfl
      refine ⟨_, rfl, lg, _, rfl, .inl (SqL.of (s3 _ _ eg)), _, _, nv j, rfl, rfl, (by show (0 : Int) < (((gs.map V.int).length : Nat) : Int); rw [gml]; omega), by rw [gml]; exact congrArg V.int ej, ?_⟩
      have S3 := s2.trans s3
      refine ⟨_, rfl, lg, _, rfl, .inl (SqL.of (s3 _ _ eg)), fun ld hd => ?_⟩
      have s4 := same_new hd (.lst (gs.map V.int))
      have e4 : upd H3 ld (.lst (gs.map V.int)) ld = some (.lst (gs.map V.int)) := upd_same
      generalize upd H3 ld (.lst (gs.map V.int)) = H4 at s4 e4 ⊢
      have S4 := S3.trans s4
      refine ⟨_, rfl, a, ns, 5, rfl, S4.seq hS1, by decide, fun H5 s5 => ?_⟩
      have S5 := S4.trans s5
      have ep := hP.2 j ps[j] _ (List.getElem?_eq_getElem hjp) hbj
      refine ⟨_, rfl, _, rfl, lb, _, _, _, rfl, rfl, SqL.of (S5 _ _ eb), at_nat zp, ps[j], _, _, _, rfl, rfl, SqT.of (S5 _ _ ep), rfl, ?_⟩
      refine ⟨_, rfl, _, rfl, lb, _, _, _, rfl, rfl, SqL.of (S5 _ _ eb), at_nat zp, ps[j], _, _, _, rfl, rfl, SqT.of (S5 _ _ ep), rfl, ?_⟩
      refine ⟨_, _, _, rfl, bnds_le way _ (List.getElem_mem hj'), fun v H6 s6 hb => ?_⟩
      have e6 := (s5.trans s6) _ _ e4
      refine ⟨_, rfl, _, rfl, ld, _, _, j, rfl, rfl, e6, ?_, ?_⟩
      · unfold ixN
        rw [if_pos (by omega), if_pos (by rw [gml]; omega)]
        rw [Int.toNat_natCast]
      have S26 : Same H2 H6 := ((s3.trans s4).trans s5).trans s6
      have dlg : lg ≠ ld := ne_of_none (s3 _ _ eg) hd
      have s26d : Same H2 (upd H6 ld (.lst ((gs.map V.int).set j v))) := S26.upd (s3.free hd) _
      have S7 : Same H3 (upd H6 ld (.lst ((gs.map V.int).set j v))) := ((s4.trans s5).trans s6).upd hd _
      have hb7 : Bad K (bnds way)[j].1 (bnds way)[j].2 (upd H6 ld (.lst ((gs.map V.int).set j v))) v := by
        rcases hb with ⟨n, hk, hn⟩ | hb
        · refine .inl ⟨n, ?_, hn⟩
          exact TyOf.put e6 hk
        · exact .inr hb
      have e7 : upd H6 ld (.lst ((gs.map V.int).set j v)) ld = some (.lst ((gs.map V.int).set j v)) := upd_same
      generalize upd H6 ld (.lst ((gs.map V.int).set j v)) = H7 at s26d S7 hb7 e7 ⊢
      have sp := spoilt (c_Bid := c_Bid) (c_Only := c_Only) (c_SoMany := c_SoMany) (c_UpTo := c_UpTo) (c_Several := c_Several) (c_AnyOf := c_AnyOf) (c_OneOf := c_OneOf) hw hG hbj hb7
      refine ⟨_, rfl, _, rfl, way, lg, _, t, rfl, s26d _ _ eg, made.same s26d, fun H8 s8 => ⟨_, rfl, iteT ?_⟩⟩
      refine ⟨_, rfl, _, rfl, way, ld, _, rfl, s8 _ _ e7, sp.same s8, fun H9 s9 => ⟨_, rfl, iteT ?_⟩⟩
      exact ⟨_, rfl, _, rfl, way, lg, _, t, rfl, ((s26d.trans s8).trans s9) _ _ eg, made.same ((s26d.trans s8).trans s9), fun H' _ => q _⟩
  refine ⟨_, (R.pss_cons (R.ps_set (i := 2) sc_L_numbers.nd rfl (Or.inl rfl) (R.pe_lst (R.pa_c (R.pe_tup (R.pa_c R.pe_int (R.pa_c R.pe_int R.pa_nil))) (R.pa_c (R.pe_tup (R.pa_c R.pe_int (R.pa_c R.pe_int R.pa_nil))) (R.pa_c (R.pe_tup (R.pa_c R.pe_int (R.pa_c (R.pe_op op_pow R.pe_int R.pe_int) R.pa_nil))) R.pa_nil)))))
    (R.pss_cons (R.ps_if (R.pt_cmpR op_eq (R.pv 1) R.pe_int (nomark _)) (R.pss_one (R.ps_set (i := 2) sc_L_numbers.nd rfl (Or.inl rfl) (R.pe_lst (R.pa_c (R.pe_tup (R.pa_c R.pe_int (R.pa_c R.pe_int R.pa_nil))) (R.pa_c (R.pe_tup (R.pa_c R.pe_int (R.pa_c (R.pe_op op_pow R.pe_int R.pe_int) R.pa_nil))) R.pa_nil))))) R.pss_nil)
    ht2)), ?_⟩
  refine ⟨(by show 2 ≤ sizeLine; decide), fun p1 h1 => ⟨(by show 2 ≤ sizeLine; decide), fun p2 h2 => ⟨_, _, rfl, rfl, ⟨by decide, by decide, by decide⟩, (by show 2 ≤ sizeLine; decide), fun p3 h3 => ⟨(by show 3 ≤ sizeLine; decide), fun lb hb => ?_⟩⟩⟩⟩
  have s1 := same_new h1 (.tup [.int 1, .int 63])
  have s2 := same_new h2 (.tup [.int 1, .int 6])
  have s3 := same_new h3 (.tup [.int 0, .int (10 ^ 9)])
  have s4 := same_new hb (.lst [V.ref p1, .ref p2, .ref p3])
  have S := ((s1.trans s2).trans s3).trans s4
  refine ⟨_, rfl, rfl, _, rfl, ?_⟩
  refine ite2 (fun c => ?_) (fun c => ?_)
  · have c' : V.int (way : Int) = V.int 0 := of_decide_eq_true c
    have w0 : way = 0 := by injection c' with c'; omega
    refine ⟨(by show 2 ≤ sizeLine; decide), fun p4 h4 => ⟨_, _, rfl, rfl, ⟨by decide, by decide, by decide⟩, (by show 2 ≤ sizeLine; decide), fun p5 h5 => ⟨(by show 2 ≤ sizeLine; decide), fun lb2 hb2 => ?_⟩⟩⟩
    have s5 := same_new h4 (.tup [.int 1, .int 63])
    have s6 := same_new h5 (.tup [.int 0, .int (10 ^ 9)])
    have s7 := same_new hb2 (.lst [V.ref p4, .ref p5])
    refine rt2 _ lb2 [p4, p5] ((((S.trans s5).trans s6).trans s7).seq hS) upd_same ?_
    rw [bnds, if_pos w0]
    exact All2.append (xs := [p4]) (ys := [(1, 63)]) (.one ((s6.trans s7) _ _ upd_same)) (.one (s7 _ _ upd_same))
  · have w0 : way ≠ 0 := fun e => c (by rw [e]; rfl)
    refine rt2 _ lb [p1, p2, p3] (S.seq hS) upd_same ?_
    rw [bnds, if_neg w0]
    exact All2.append (xs := [p1, p2]) (ys := [(1, 63), (1, 6)]) (All2.append (xs := [p1]) (ys := [(1, 63)]) (.one (((s2.trans s3).trans s4) _ _ upd_same)) (.one ((s3.trans s4) _ _ upd_same))) (.one (s4 _ _ upd_same))
end
end My


set_option Elab.async false
set_option linter.all false
set_option maxRecDepth 100000
set_option maxHeartbeats 4000000
namespace My
open PySem PySem.Spec PyProof.Rows L2 GM
/-- what isinstance says of values that are no bids, no lists -/
structure KitL (K : PySem.W.Frag) (c_Bid c_Only c_SoMany c_UpTo c_Several c_AnyOf c_OneOf : Addr) : Prop where
  b : ∀ n : Nm, PySem.W.kitOne K (.type n.s) (.ref c_Bid) = some false
  l1 : PySem.W.kitOne K (.ref c_Bid) (.type "list") = some false
  l2 : PySem.W.kitOne K (.ref c_Only) (.type "list") = some false
  l3 : PySem.W.kitOne K (.ref c_SoMany) (.type "list") = some false
  l4 : PySem.W.kitOne K (.ref c_UpTo) (.type "list") = some false
theorem nolist {K : PySem.W.Frag} {n : Nm} (h : n ≠ .lst) : PySem.W.kitOne K (.type n.s) (.type "list") = some false := by
  have e : PySem.W.kitOne K (.type n.s) (.type "list") = some (isN n .lst) := by rw [kitOne_bT]; exact bT_all n .lst
  rw [e]
  cases n <;> first | rfl | exact absurd rfl h
theorem one_of {c1 c2 c3 c4 c5 c6 : Addr} {A : Addr → Prop} {H : Hp} {a : Addr} {t : Tr} (h : IsTr c1 c2 c3 c4 c5 c6 A H 1 a t) : depthT t = 1 ∧ tallyT t = 1 := by
  cases t with
  | leaf f => exact ⟨rfl, rfl⟩
  | node any ts =>
    obtain ⟨dx, l, bs, e1, e2, e3, e4⟩ := h
    cases ts with
    | nil => exact ⟨rfl, rfl⟩
    | cons t ts =>
      obtain ⟨x, hx⟩ := e4.mem (List.mem_cons_self (a := t) (l := ts))
      exact hx.elim
theorem ones_of {c1 c2 c3 c4 c5 c6 : Addr} {A : Addr → Prop} {H : Hp} : ∀ {ts : List Tr}, (∀ t ∈ ts, ∃ a, IsTr c1 c2 c3 c4 c5 c6 A H 1 a t) → tallyL ts = ts.length ∧ depthL ts ≤ 1
  | [], _ => ⟨rfl, Nat.zero_le _⟩
  | t :: ts, h => by
    obtain ⟨a, ha⟩ := h t (List.mem_cons_self ..)
    obtain ⟨d1, t1⟩ := one_of ha
    obtain ⟨i1, i2⟩ := ones_of fun u hu => h u (List.mem_cons_of_mem _ hu)
    refine ⟨?_, ?_⟩
    · show tallyT t + tallyL ts = ts.length + 1
      omega
    · show max (depthT t) (depthL ts) ≤ 1
      omega
theorem ones {c1 c2 c3 c4 c5 c6 : Addr} {A : Addr → Prop} {H : Hp} {bs : List Addr} {ts : List Tr} (h : All2 (IsTr c1 c2 c3 c4 c5 c6 A H 1) bs ts) : tallyL ts = ts.length ∧ depthL ts ≤ 1 := ones_of fun t ht => h.mem ht
theorem up_to {c1 c2 c3 c4 c5 c6 : Addr} {A : Addr → Prop} {H : Hp} {bs : List Addr} {ts : List Tr} {d e : Nat} (h : All2 (IsTr c1 c2 c3 c4 c5 c6 A H d) bs ts) (le : depthL ts ≤ e) : All2 (IsTr c1 c2 c3 c4 c5 c6 A H e) bs ts := h.imp fun x y hy z => IsTr.to d e z (Nat.le_trans (depth_mem hy) le)
theorem free_all {c1 c2 c3 c4 c5 c6 : Addr} {H : Hp} {bs : List Addr} {ts : List Tr} {d : Nat} (h : All2 (IsTr c1 c2 c3 c4 c5 c6 (fun _ => False) H d) bs ts) : All2 (IsTr c1 c2 c3 c4 c5 c6 (fun _ => True) H d) bs ts := h.imp fun x y _ z => z.imp fun _ _ h _ => h.elim
theorem made_list {c_Bid c_Only c_SoMany c_UpTo c_Several c_AnyOf c_OneOf : Addr} {H : Hp} {way : Nat} (hw : way = 3 ∨ way = 4) {l : Addr} {bs : List Addr} {ts : List Tr} (e : H l = some (.lst (bs.map V.ref))) (hB : All2 (IsTr c_Bid c_Only c_SoMany c_UpTo c_AnyOf c_OneOf (fun _ => True) H 3) bs ts) (hy : tallyL ts ≤ 23) : Made c_Bid c_Only c_SoMany c_UpTo c_Several c_AnyOf c_OneOf H way [.ref l] (.node (decide (way = 3)) ts) :=
  .inr (.inr (.inr ⟨hw, l, bs, ts, rfl, e, hB, hy, rfl⟩))
section
variable {P : Program} {w : World} {K : PySem.W.Frag} {mg : Str → Option Value} {base : Heap}
variable {c_Bid c_Only c_SoMany c_UpTo c_Several c_AnyOf c_OneOf C : Addr}
theorem ok_L_some {f : Addr} {fd : FuncData} (F : Fun K "_law_some" "_law_some" s_L_some f fd) (m_self : mg "_law_some" = some (.ref f)) (m_range : mg "range" = none)
    (D_L_cell : DefOk P w K mg base 1 "_law_cell" ["_law_script", "_law_k"] [] (sp_L_cell K))
    (O_Bid : Own K mg "Bid" c_Bid [])
    (O_Only : Own K mg "Only" c_Only ["bundle", "amount"])
    (O_SoMany : Own K mg "SoMany" c_SoMany ["kind", "least", "amount"])
    (O_UpTo : Own K mg "UpTo" c_UpTo ["kind", "most", "each"])
    (O_Several : Own K mg "Several" c_Several ["bids"])
    (O_AnyOf : Own K mg "AnyOf" c_AnyOf ["bids"])
    (O_OneOf : Own K mg "OneOf" c_OneOf ["bids"])
    (MK_Bid : Make0 K mg "Bid" c_Bid)
    (MK_Only : MakeD P w K mg base 4 "Only" c_Only ["self", "bundle", "amount"] (sp_M_Only___init__ K c_Only))
    (MK_SoMany : MakeD P w K mg base 4 "SoMany" c_SoMany ["self", "kind", "least", "amount"] (sp_M_SoMany___init__ K c_SoMany))
    (MK_UpTo : MakeD P w K mg base 4 "UpTo" c_UpTo ["self", "kind", "most", "each"] (sp_M_UpTo___init__ K c_UpTo)) : DefOk P w K mg base 6 "_law_some" ["_law_script", "_law_many"] [] (sp_L_some K c_Bid c_Only c_SoMany c_UpTo c_Several c_AnyOf c_OneOf) := by
  refine F.def_okQ m_self (bnd2 F fun _ _ _ _ _ _ _ _ => rfl) sc_L_some (fun vs H Q E h => ?_) (fun cdv A outer s H vs Q E hr h => ?_)
  · obtain ⟨a, ns, m, rfl, _⟩ := h; rfl
  obtain ⟨a, ns, m, rfl, hS, hm, q⟩ := h
  refine ⟨_, (R.pss_cons (R.ps_set (i := 2) sc_L_some.nd rfl (Or.inl rfl) (R.pe_lst R.pa_nil))
    (R.pss_cons (R.ps_for PassesOwn.never rfl (R.pi_range1 rfl m_range (R.pa_c (R.pv 1) R.pa_nil)) (R.pg_name (i := 3) sc_L_some.nd rfl (Or.inl rfl)) (R.pss_cons (R.ps_set (i := 4) sc_L_some.nd rfl (Or.inl rfl) (R.pe_callD D_L_cell hr (by first | decide | omega) rfl (R.pa_c (R.pv 0) (R.pa_c (R.pe_op (opE0 op_add) R.pe_int (R.pv 3)) R.pa_nil))))
      (R.pss_cons (R.ps_set (i := 5) sc_L_some.nd rfl (Or.inl rfl) (R.pe_op (opE0 op_add) R.pe_int (R.pe_op (opE op_mod) (R.pe_op op_fdiv (R.pv 4) R.pe_int) R.pe_int)))
      (R.pss_one (R.ps_expr (R.pe_append (R.pv 2) (R.pa_c (R.pe_ix (R.ixL K) (R.pe_lst (R.pa_c (R.pe_mk0 MK_Bid rfl) (R.pa_c (R.pe_makeD MK_Only hr (by first | decide | omega) rfl (R.pa_c (R.pv 5) (R.pa_c R.pe_int R.pa_nil))) (R.pa_c (R.pe_makeD MK_SoMany hr (by first | decide | omega) rfl (R.pa_c (R.pv 5) (R.pa_c R.pe_int (R.pa_c R.pe_int R.pa_nil)))) (R.pa_c (R.pe_makeD MK_UpTo hr (by first | decide | omega) rfl (R.pa_c (R.pv 5) (R.pa_c R.pe_int (R.pa_c R.pe_int R.pa_nil)))) R.pa_nil))))) (R.pe_op (opE op_mod) (R.pv 4) R.pe_int) (fun _ _ => rfl)) R.pa_nil)))))))
    (R.pss_one (R.ps_ret (R.pv 2))))), ?_⟩
  refine ⟨(by show 0 ≤ sizeLine; decide), fun l hl => ?_⟩
  have s0 := same_new hl (.lst [])
  refine ⟨_, rfl, _, rfl, by omega, by omega, ?_⟩
  rw [Int.toNat_natCast]
  refine for_range (n := m) (lo := 0) (fun i σ H' => Same H H' ∧ (∃ (bs : List Addr) (ts : List Tr), ts.length = i ∧ H' l = some (.lst (bs.map V.ref)) ∧ All2 (IsTr c_Bid c_Only c_SoMany c_UpTo c_AnyOf c_OneOf (fun _ => False) H' 1) bs ts) ∧ ∃ y3 y4 y5, σ = [some (.ref a), some (nv m), some (.ref l), y3, y4, y5]) ?_ ?_ ?_
  · exact ⟨s0, ⟨[], [], rfl, upd_same, All2.nil⟩, _, _, _, rfl⟩
  · rintro k σ H1 hk ⟨s1, ⟨bs, ts, tl, el, hB⟩, y3, y4, y5, rfl⟩
    rw [Int.zero_add]
    refine ⟨_, rfl, _, rfl, _, _, nv (9 + k), rfl, rfl, rfl, a, ns, 9 + k, rfl, s1.seq hS, by omega, fun H2 s2 => ?_⟩
    generalize cellN ns (9 + k) = c
    obtain ⟨b, eb, hb⟩ := mod_nat (c / 4) 63 (by decide)
    obtain ⟨z, ez, hz⟩ := mod_nat c 4 (by decide)
    refine ⟨_, rfl, _, _, rfl, rfl, ⟨by decide, by decide⟩, _, _, nv b, rfl, rfl, (by show (0 : Int) < 63; decide), congrArg V.int eb, _, _, nv (1 + b), rfl, rfl, rfl, ?_⟩
    have el2 := s2 _ _ el
    have hB2 := hB.imp fun x y _ z => z.same s2
    refine ⟨_, rfl, .inl ⟨rfl, _, SqL.of el2⟩, ?_⟩
    refine fun x1 d1 n1 m1 _ => ?_
    have s3 : Same H2 (upd (upd H2 d1 (.own x1)) x1 (.ins c_Bid d1 [])) := ((Same.refl H2).upd m1 _).upd n1 _
    have e3 : upd (upd H2 d1 (.own x1)) x1 (.ins c_Bid d1 []) x1 = some (.ins c_Bid d1 []) := upd_same
    generalize upd (upd H2 d1 (.own x1)) x1 (.ins c_Bid d1 []) = H3 at s3 e3 ⊢
    refine ⟨_, rfl, fun x2 d2 n2 m2 _ => ⟨x2, d2, 1 + b, 5, rfl, by omega, by omega, ⟨by decide, by decide⟩, upd_same, rfl, ?_⟩⟩
    have s4 : Same H3 (upd (upd (upd H3 d2 (.own x2)) x2 (.ins c_Only d2 [])) x2 (.ins c_Only d2 (fsOnly (1 + b) 5))) := made_same n2 m2
    have e4 : upd (upd (upd H3 d2 (.own x2)) x2 (.ins c_Only d2 [])) x2 (.ins c_Only d2 (fsOnly (1 + b) 5)) x2 = some (.ins c_Only d2 (fsOnly (1 + b) 5)) := upd_same
    generalize upd (upd (upd H3 d2 (.own x2)) x2 (.ins c_Only d2 [])) x2 (.ins c_Only d2 (fsOnly (1 + b) 5)) = H4 at s4 e4 ⊢
    refine ⟨_, rfl, fun x3 d3 n3 m3 _ => ⟨x3, d3, 1 + b, 2, 7, rfl, by omega, by omega, by decide, by decide, ⟨by decide, by decide⟩, upd_same, rfl, ?_⟩⟩
    have s5 : Same H4 (upd (upd (upd H4 d3 (.own x3)) x3 (.ins c_SoMany d3 [])) x3 (.ins c_SoMany d3 (fsSome (1 + b) 2 7))) := made_same n3 m3
    have e5 : upd (upd (upd H4 d3 (.own x3)) x3 (.ins c_SoMany d3 [])) x3 (.ins c_SoMany d3 (fsSome (1 + b) 2 7)) x3 = some (.ins c_SoMany d3 (fsSome (1 + b) 2 7)) := upd_same
    generalize upd (upd (upd H4 d3 (.own x3)) x3 (.ins c_SoMany d3 [])) x3 (.ins c_SoMany d3 (fsSome (1 + b) 2 7)) = H5 at s5 e5 ⊢
    refine ⟨_, rfl, fun x4 d4 n4 m4 _ => ⟨x4, d4, 1 + b, 3, 0, rfl, by omega, by omega, by decide, by decide, ⟨by decide, by decide⟩, upd_same, rfl, ?_⟩⟩
    have s6 : Same H5 (upd (upd (upd H5 d4 (.own x4)) x4 (.ins c_UpTo d4 [])) x4 (.ins c_UpTo d4 (fsMost (1 + b) 3 0))) := made_same n4 m4
    have e6 : upd (upd (upd H5 d4 (.own x4)) x4 (.ins c_UpTo d4 [])) x4 (.ins c_UpTo d4 (fsMost (1 + b) 3 0)) x4 = some (.ins c_UpTo d4 (fsMost (1 + b) 3 0)) := upd_same
    generalize upd (upd (upd H5 d4 (.own x4)) x4 (.ins c_UpTo d4 [])) x4 (.ins c_UpTo d4 (fsMost (1 + b) 3 0)) = H6 at s6 e6 ⊢
    refine ⟨(by show 4 ≤ sizeLine; decide), fun l4 h4 => ?_⟩
    have s7 := same_new h4 (.lst [V.ref x1, .ref x2, .ref x3, .ref x4])
    obtain ⟨x, t, ew, hT⟩ : ∃ (x : Addr) (t : Tr), atI [V.ref x1, .ref x2, .ref x3, .ref x4] (z : Int) = some (.ref x) ∧ IsTr c_Bid c_Only c_SoMany c_UpTo c_AnyOf c_OneOf (fun _ => False) (upd H6 l4 (.lst [V.ref x1, .ref x2, .ref x3, .ref x4])) 1 x t := by
      rcases (by omega : z = 0 ∨ z = 1 ∨ z = 2 ∨ z = 3) with e | e | e | e <;> subst e
      · exact ⟨x1, .leaf .none, rfl, trivial, d1, ((((s4.trans s5).trans s6).trans s7) _ _ e3)⟩
      · exact ⟨x2, .leaf (.only (1 + b) 5), rfl, ⟨by omega, by omega, ⟨by decide, by decide⟩⟩, d2, (((s5.trans s6).trans s7) _ _ e4)⟩
      · exact ⟨x3, .leaf (.some (1 + b) 2 7), rfl, ⟨by omega, by omega, by decide, by decide, ⟨by decide, by decide⟩⟩, d3, ((s6.trans s7) _ _ e5)⟩
      · exact ⟨x4, .leaf (.most (1 + b) 3 0), rfl, ⟨by omega, by omega, by decide, by decide, ⟨by decide, by decide⟩⟩, d4, (s7 _ _ e6)⟩
    refine ⟨_, rfl, _, _, nv z, rfl, rfl, (by show (0 : Int) < 4; decide), congrArg V.int ez, l4, _, _, _, rfl, rfl, SqL.of upd_same, ew, ?_⟩
    have S27 := (((s3.trans s4).trans s5).trans s6).trans s7
    generalize upd H6 l4 (.lst [V.ref x1, .ref x2, .ref x3, .ref x4]) = H7 at s7 hT S27 ⊢
    have el7 := S27 _ _ el2
    have bl := hB.1
    refine ⟨l, _, _, rfl, rfl, el7, by rw [List.length_map]; exact small1000 (by omega), ((s1.trans s2).trans S27).upd hl _, ⟨bs ++ [x], ts ++ [t], by rw [List.length_append, tl]; rfl, by rw [upd_same, List.map_append]; rfl, ?_⟩, _, _, _, rfl⟩
    exact ((hB2.imp fun x y _ z => z.same S27).snoc hT).imp fun x y _ z => z.put el7 (fun z => z)
  · rintro σ H1 ⟨s1, ⟨bs, ts, tl, el, hB⟩, y3, y4, y5, rfl⟩
    exact ⟨_, rfl, q l H1 bs ts s1 hl el tl hB⟩
theorem ok_L_lists {f : Addr} {fd : FuncData} (F : Fun K "_law_lists" "_law_lists" s_L_lists f fd) (m_self : mg "_law_lists" = some (.ref f)) (m_list : mg "list" = none) (m_len : mg "len" = none)
    (D_L_some : DefOk P w K mg base 6 "_law_some" ["_law_script", "_law_many"] [] (sp_L_some K c_Bid c_Only c_SoMany c_UpTo c_Several c_AnyOf c_OneOf))
    (D_L_cell : DefOk P w K mg base 1 "_law_cell" ["_law_script", "_law_k"] [] (sp_L_cell K))
    (D_L_taken : DefOk P w K mg base 15 "_law_taken" ["_law_way", "_law_parts"] [] (sp_L_taken K c_Bid c_Only c_SoMany c_UpTo c_Several c_AnyOf c_OneOf))
    (D_L_refused : DefOk P w K mg base 16 "_law_refused" ["_law_way", "_law_parts"] [] (sp_L_refused K c_Bid c_Only c_SoMany c_UpTo c_Several c_AnyOf c_OneOf)) 
    (O_Bid : Own K mg "Bid" c_Bid [])
    (O_Only : Own K mg "Only" c_Only ["bundle", "amount"])
    (O_SoMany : Own K mg "SoMany" c_SoMany ["kind", "least", "amount"])
    (O_UpTo : Own K mg "UpTo" c_UpTo ["kind", "most", "each"])
    (O_Several : Own K mg "Several" c_Several ["bids"])
    (O_AnyOf : Own K mg "AnyOf" c_AnyOf ["bids"])
    (O_OneOf : Own K mg "OneOf" c_OneOf ["bids"]) (KK : PySem.W.kitOne K (.ref c_Bid) (.ref c_Bid) = some true ∧ PySem.W.kitOne K (.ref c_Only) (.ref c_Bid) = some true ∧ PySem.W.kitOne K (.ref c_SoMany) (.ref c_Bid) = some true ∧ PySem.W.kitOne K (.ref c_UpTo) (.ref c_Bid) = some true ∧ PySem.W.kitOne K (.ref c_AnyOf) (.ref c_Bid) = some true ∧ PySem.W.kitOne K (.ref c_OneOf) (.ref c_Bid) = some true) (ZK : KitL K c_Bid c_Only c_SoMany c_UpTo c_Several c_AnyOf c_OneOf) : DefOk P w K mg base 17 "_law_lists" ["_law_script", "_law_way"] [] (sp_L_lists K) := by
  obtain ⟨kit_Bid_Bid, kit_Only_Bid, kit_SoMany_Bid, kit_UpTo_Bid, kit_AnyOf_Bid, kit_OneOf_Bid⟩ := KK
  refine F.def_okQ m_self (bnd2 F fun _ _ _ _ _ _ _ _ => rfl) sc_L_lists (fun vs H Q E h => ?_) (fun cdv A outer s H vs Q E hr h => ?_)
  · obtain ⟨a, ns, way, rfl, _⟩ := h; rfl
  obtain ⟨a, ns, way, rfl, hS, hw, q⟩ := h
  obtain ⟨t6, ht6, rt6⟩ : ∃ tt, QSs (cxOf CX0 P w K mg base ["_law_script", "_law_way", "_law_good", "_law_cell_here", "_law_bad", "_law_at"] "_law_lists" (defScope s_L_lists) f cdv A outer s H E).nox ((defBody s_L_lists).drop 6) tt ∧
      ∀ (H1 : Hp) (lg : Addr) (bs : List Addr) (ts : List Tr) (bad : V) (x3 x5 : Option V), H1 lg = some (.lst (bs.map V.ref)) → All2 (IsTr c_Bid c_Only c_SoMany c_UpTo c_AnyOf c_OneOf (fun _ => False) H1 1) bs ts → ts.length ≤ 6 → BadBids K c_Bid c_Only c_SoMany c_UpTo c_Several c_AnyOf c_OneOf H1 bad →
        tt { nx := fun _ H' => Q .non H', rt := Q } [some (.ref a), some (nv way), some (.ref lg), x3, some bad, x5] H1 := by
    refine ⟨_, (R.pss_one (R.ps_ret (R.pe_and (R.pe_callD D_L_taken hr (by first | decide | omega) rfl (R.pa_c (R.pv 1) (R.pa_c (R.pe_lst (R.pa_c (R.pv 2) R.pa_nil)) R.pa_nil))) (R.pe_and (R.pe_callD D_L_refused hr (by first | decide | omega) rfl (R.pa_c (R.pv 1) (R.pa_c (R.pe_lst (R.pa_c (R.pv 4) R.pa_nil)) R.pa_nil))) (R.pe_one (R.pe_callD D_L_taken hr (by first | decide | omega) rfl (R.pa_c (R.pv 1) (R.pa_c (R.pe_lst (R.pa_c (R.pv 2) R.pa_nil)) R.pa_nil)))))))), ?_⟩
    intro H1 lg bs ts bad x3 x5 eg hB tl hbad
    obtain ⟨o1, o2⟩ := ones hB
    have md := made_list (c_Bid := c_Bid) (c_Only := c_Only) (c_SoMany := c_SoMany) (c_UpTo := c_UpTo) (c_Several := c_Several) (c_AnyOf := c_AnyOf) (c_OneOf := c_OneOf) hw eg (up_to (free_all hB) (by omega)) (by omega)
    refine ⟨_, rfl, _, rfl, (by show 1 ≤ sizeLine; decide), fun l1 h1 => ⟨way, l1, _, _, rfl, upd_same, md.same (same_new h1 _), fun H2 s2 => ⟨_, rfl, iteT ?_⟩⟩⟩
    have S2 := (same_new h1 (.lst [V.ref lg])).trans s2
    refine ⟨_, rfl, _, rfl, (by show 1 ≤ sizeLine; decide), fun l3 h3 => ⟨way, l3, _, rfl, upd_same, .inr (.inr ⟨hw, bad, rfl, hbad.same (S2.trans (same_new h3 _))⟩), fun H4 s4 => ⟨_, rfl, iteT ?_⟩⟩⟩
    have S4 := S2.trans ((same_new h3 (.lst [bad])).trans s4)
    exact ⟨_, rfl, _, rfl, (by show 1 ≤ sizeLine; decide), fun l5 h5 => ⟨way, l5, _, _, rfl, upd_same, md.same (S4.trans (same_new h5 _)), fun H' _ => q _⟩⟩
  obtain ⟨t5, ht5, rt5⟩ : ∃ tt, QSs (cxOf CX0 P w K mg base ["_law_script", "_law_way", "_law_good", "_law_cell_here", "_law_bad", "_law_at"] "_law_lists" (defScope s_L_lists) f cdv A outer s H E).nox ((defBody s_L_lists).drop 5) tt ∧
      ∀ (H1 : Hp) (lg : Addr) (bs : List Addr) (ts : List Tr) (bad : V) (c : Int) (x5 : Option V), H1 lg = some (.lst (bs.map V.ref)) → All2 (IsTr c_Bid c_Only c_SoMany c_UpTo c_AnyOf c_OneOf (fun _ => False) H1 1) bs ts → ts.length ≤ 6 → 0 < ts.length → BadBids K c_Bid c_Only c_SoMany c_UpTo c_Several c_AnyOf c_OneOf H1 bad →
        tt { nx := fun _ H' => Q .non H', rt := Q } [some (.ref a), some (nv way), some (.ref lg), some (.int c), some bad, x5] H1 := by
    refine ⟨_, (R.pss_cons (R.ps_if (R.pt_cmpR op_eq (R.pe_op op_mod (R.pe_op op_fdiv (R.pv 3) R.pe_int) R.pe_int) R.pe_int (nomark _)) (R.pss_one (R.ps_set (i := 4) sc_L_lists.nd rfl (Or.inl rfl) (R.pe_ix (R.ixL K) (R.pe_lst (R.pa_c R.pe_non (R.pa_c R.pe_int (R.pa_c R.pe_bl (R.pa_c R.pe_str (R.pa_c (R.pe_tup (R.pa_c (R.pe_ix (R.ixL K) (R.pv 2) R.pe_int (fun _ _ => rfl)) R.pa_nil)) (R.pa_c R.pe_dnewK (R.pa_c (R.pe_ix (R.ixL K) (R.pv 2) R.pe_int (fun _ _ => rfl)) (R.pa_c (R.pe_tup R.pa_nil) R.pa_nil))))))))) (R.pe_op (opE op_mod) (R.pv 3) R.pe_int) (fun _ _ => rfl)))) R.pss_nil)
    ht6), ?_⟩
    intro H1 lg bs ts bad c x5 eg hB tl t0 hbad
    refine ⟨_, rfl, _, _, rfl, rfl, ⟨by decide, by decide⟩, _, _, rfl, rfl, (by show (0 : Int) < 2; decide), rfl, _, rfl, ?_⟩
    refine ite2 (fun _ => ?_) (fun _ => rt6 H1 lg bs ts bad _ _ eg hB tl hbad)
    have b0 : 0 < bs.length := by rw [hB.1]; exact t0
    have zb : (bs.map V.ref)[0]? = some (V.ref bs[0]) := by rw [List.getElem?_map, List.getElem?_eq_getElem b0]; rfl
    have hT0 := hB.2 0 bs[0] ts[0] (List.getElem?_eq_getElem b0) (List.getElem?_eq_getElem t0)
    obtain ⟨z, ez, hz⟩ := mod_nat c 8 (by decide)
    refine ⟨_, rfl, lg, _, _, _, rfl, rfl, SqL.of eg, at_nat (k := 0) zb, (by show 1 ≤ sizeLine; decide), fun p hp => fun d hd => ?_⟩
    have s2 := same_new hp (.tup [V.ref bs[0]])
    have e2 : upd H1 p (.tup [V.ref bs[0]]) p = some (.tup [V.ref bs[0]]) := upd_same
    generalize upd H1 p (.tup [V.ref bs[0]]) = H2 at s2 e2 hd ⊢
    have s3 := same_new hd (.dK [])
    have e3 : upd H2 d (.dK []) d = some (.dK []) := upd_same
    generalize upd H2 d (.dK []) = H3 at s3 e3 ⊢
    have eg3 := (s2.trans s3) _ _ eg
    refine ⟨_, rfl, lg, _, _, _, rfl, rfl, SqL.of eg3, at_nat (k := 0) zb, (by show 0 ≤ sizeLine; decide), fun p4 h4 => ⟨(by show 8 ≤ sizeLine; decide), fun l5 h5 => ?_⟩⟩
    have s4 := same_new h4 (.tup [])
    have e4 : upd H3 p4 (.tup []) p4 = some (.tup []) := upd_same
    generalize upd H3 p4 (.tup []) = H4 at s4 e4 h5 ⊢
    have s5 := same_new h5 (.lst [V.non, .int 5, .bl true, .str "ab", .ref p, .ref d, .ref bs[0], .ref p4])
    have S := ((s2.trans s3).trans s4).trans s5
    obtain ⟨v, ew, hv⟩ : ∃ v, atI [V.non, .int 5, .bl true, .str "ab", .ref p, .ref d, .ref bs[0], .ref p4] (z : Int) = some v ∧ BadBids K c_Bid c_Only c_SoMany c_UpTo c_Several c_AnyOf c_OneOf (upd H4 l5 (.lst [V.non, .int 5, .bl true, .str "ab", .ref p, .ref d, .ref bs[0], .ref p4])) v := by
      rcases (by omega : z = 0 ∨ z = 1 ∨ z = 2 ∨ z = 3 ∨ z = 4 ∨ z = 5 ∨ z = 6 ∨ z = 7) with e | e | e | e | e | e | e | e <;> subst e
      · exact ⟨_, rfl, .inl ⟨_, TyOf.non, nolist (n := .non) (by decide)⟩⟩
      · exact ⟨_, rfl, .inl ⟨_, TyOf.int _, nolist (n := .int) (by decide)⟩⟩
      · exact ⟨_, rfl, .inl ⟨_, TyOf.bl _, nolist (n := .bl) (by decide)⟩⟩
      · exact ⟨_, rfl, .inl ⟨_, TyOf.str _, nolist (n := .str) (by decide)⟩⟩
      · exact ⟨_, rfl, .inl ⟨_, TyOf.tup (((s3.trans s4).trans s5) _ _ e2), nolist (n := .tup) (by decide)⟩⟩
      · exact ⟨_, rfl, .inl ⟨_, TyOf.dK ((s4.trans s5) _ _ e3), nolist (n := .dct) (by decide)⟩⟩
      · refine ⟨_, rfl, .inl ?_⟩
        have hT := hT0.same S
        have nt : ∃ t, TyOf K (upd H4 l5 (.lst [V.non, .int 5, .bl true, .str "ab", .ref p, .ref d, .ref bs[0], .ref p4])) (.ref bs[0]) t ∧ PySem.W.kitOne K t (.type "list") = some false := by
          generalize ts[0] = t at hT
          cases t with
          | leaf f =>
            obtain ⟨_, hb⟩ := hT
            cases f <;> obtain ⟨dx, e⟩ := hb
            · exact ⟨_, O_Bid.ty e, ZK.l1⟩
            · exact ⟨_, O_Only.ty e, ZK.l2⟩
            · exact ⟨_, O_SoMany.ty e, ZK.l3⟩
            · exact ⟨_, O_UpTo.ty e, ZK.l4⟩
          | node any us =>
            obtain ⟨dx, l, bs', e1', e2', _⟩ := hT
            exact e2'.elim
        exact nt
      · exact ⟨_, rfl, .inl ⟨_, TyOf.tup (s5 _ _ e4), nolist (n := .tup) (by decide)⟩⟩
    refine ⟨_, rfl, _, _, nv z, rfl, rfl, (by show (0 : Int) < 8; decide), congrArg V.int ez, l5, _, _, _, rfl, rfl, SqL.of upd_same, ew, ?_⟩
    exact rt6 _ lg bs ts v _ _ (S _ _ eg) (hB.imp fun x y _ z => z.same S) tl hv
  refine ⟨_, (R.pss_cons (R.ps_set (i := 2) sc_L_lists.nd rfl (Or.inl rfl) (R.pe_callD D_L_some hr (by first | decide | omega) rfl (R.pa_c (R.pv 0) (R.pa_c (R.pe_op (opE0 op_add) R.pe_int (R.pe_op (opE op_mod) (R.pe_callD D_L_cell hr (by first | decide | omega) rfl (R.pa_c (R.pv 0) (R.pa_c R.pe_int R.pa_nil))) R.pe_int)) R.pa_nil))))
    (R.pss_cons (R.ps_set (i := 3) sc_L_lists.nd rfl (Or.inl rfl) (R.pe_callD D_L_cell hr (by first | decide | omega) rfl (R.pa_c (R.pv 0) (R.pa_c R.pe_int R.pa_nil))))
    (R.pss_cons (R.ps_set (i := 4) sc_L_lists.nd rfl (Or.inl rfl) (R.pe_cTy call_list_of rfl m_list (boot_list) (R.pa_c (R.pv 2) R.pa_nil)))
    (R.pss_cons (R.ps_set (i := 5) sc_L_lists.nd rfl (Or.inl rfl) (R.pe_op (opE op_mod) (R.pe_op op_fdiv (R.pv 3) R.pe_int) (R.pe_cB call_len_seq rfl m_len PySem.boot_len (R.pa_c (R.pv 2) R.pa_nil))))
    (R.pss_cons (R.ps_asg (R.pe_ix (R.ixL K) (R.pe_lst (R.pa_c R.pe_non (R.pa_c R.pe_int (R.pa_c R.pe_bl (R.pa_c R.pe_str (R.pa_c (R.pe_tup (R.pa_c R.pe_int (R.pa_c R.pe_int R.pa_nil))) (R.pa_c (R.pe_lst R.pa_nil) (R.pa_c (R.pe_lst (R.pa_c (R.pe_ix (R.ixL K) (R.pv 2) R.pe_int (fun _ _ => rfl)) R.pa_nil)) (R.pa_c R.pe_dnewK R.pa_nil))))))))) (R.pe_op (opE op_mod) (R.pv 3) R.pe_int) (fun _ _ => rfl)) (R.pg_setL (R.pv 4) (R.pv 5)))
    ht5))))), ?_⟩
  obtain ⟨r, er, hr'⟩ := mod_nat (cellN ns 1) 6 (by decide)
  refine ⟨_, rfl, _, rfl, a, ns, 1, rfl, hS, by decide, fun H1 s1 => ⟨_, _, nv r, rfl, rfl, (by show (0 : Int) < 6; decide), congrArg V.int er, _, _, nv (1 + r), rfl, rfl, rfl, a, ns, 1 + r, rfl, s1.seq hS, by omega, fun lg H2 bs ts s2 nlg eg tl hB => ?_⟩⟩
  have bl := hB.1
  refine ⟨_, rfl, a, ns, 2, rfl, (s1.trans s2).seq hS, by decide, fun H3 s3 => ?_⟩
  generalize cellN ns 2 = c
  have eg3 := s3 _ _ eg
  refine ⟨_, rfl, lg, _, rfl, .inl (SqL.of eg3), fun ld hd => ?_⟩
  have s4 := same_new hd (.lst (bs.map V.ref))
  have e4 : upd H3 ld (.lst (bs.map V.ref)) ld = some (.lst (bs.map V.ref)) := upd_same
  have ngd : lg ≠ ld := ne_of_none eg3 hd
  generalize upd H3 ld (.lst (bs.map V.ref)) = H4 at s4 e4 ⊢
  have eg4 := s4 _ _ eg3
  have hB4 := hB.imp fun x y _ z => z.same (s3.trans s4)
  have bml : (bs.map V.ref).length = bs.length := List.length_map _
  obtain ⟨j, ej, hj⟩ := mod_nat (c / 16) bs.length (by omega)
  refine ⟨_, rfl, _, _, rfl, rfl, ⟨by decide, by decide⟩, _, rfl, lg, _, rfl, .inl (SqL.of eg4), _, _, nv j, rfl, rfl, (by show (0 : Int) < (((bs.map V.ref).length : Nat) : Int); rw [bml]; omega), by rw [bml]; exact congrArg V.int ej, ?_⟩
  have b0 : 0 < bs.length := by omega
  have zb : (bs.map V.ref)[0]? = some (V.ref bs[0]) := by rw [List.getElem?_map, List.getElem?_eq_getElem b0]; rfl
  obtain ⟨z, ez, hz⟩ := mod_nat c 8 (by decide)
  refine ⟨(by show 2 ≤ sizeLine; decide), fun p5 h5 => ⟨(by show 0 ≤ sizeLine; decide), fun l6 h6 => ?_⟩⟩
  have s5 := same_new h5 (.tup [V.int 1, .int 5])
  have e5 : upd H4 p5 (.tup [V.int 1, .int 5]) p5 = some (.tup [V.int 1, .int 5]) := upd_same
  generalize upd H4 p5 (.tup [V.int 1, .int 5]) = H5 at s5 e5 h6 ⊢
  have s6 := same_new h6 (.lst [])
  have e6 : upd H5 l6 (.lst []) l6 = some (.lst []) := upd_same
  generalize upd H5 l6 (.lst []) = H6 at s6 e6 ⊢
  refine ⟨_, rfl, lg, _, _, _, rfl, rfl, SqL.of ((s5.trans s6) _ _ eg4), at_nat (k := 0) zb, (by show 1 ≤ sizeLine; decide), fun l7 h7 => fun d8 h8 => ⟨(by show 8 ≤ sizeLine; decide), fun l9 h9 => ?_⟩⟩
  have s7 := same_new h7 (.lst [V.ref bs[0]])
  have e7 : upd H6 l7 (.lst [V.ref bs[0]]) l7 = some (.lst [V.ref bs[0]]) := upd_same
  generalize upd H6 l7 (.lst [V.ref bs[0]]) = H7 at s7 e7 h8 h9 ⊢
  have s8 := same_new h8 (.dK [])
  have e8 : upd H7 d8 (.dK []) d8 = some (.dK []) := upd_same
  generalize upd H7 d8 (.dK []) = H8 at s8 e8 h9 ⊢
  have s9 := same_new h9 (.lst [V.non, .int 0, .bl true, .str "a for 5", .ref p5, .ref l6, .ref l7, .ref d8])
  obtain ⟨v, n, ew, hv⟩ : ∃ v n, atI [V.non, .int 0, .bl true, .str "a for 5", .ref p5, .ref l6, .ref l7, .ref d8] (z : Int) = some v ∧ KindIs K (upd H8 l9 (.lst [V.non, .int 0, .bl true, .str "a for 5", .ref p5, .ref l6, .ref l7, .ref d8])) v n := by
    rcases (by omega : z = 0 ∨ z = 1 ∨ z = 2 ∨ z = 3 ∨ z = 4 ∨ z = 5 ∨ z = 6 ∨ z = 7) with e | e | e | e | e | e | e | e <;> subst e
    · exact ⟨_, .non, rfl, TyOf.non⟩
    · exact ⟨_, .int, rfl, TyOf.int _⟩
    · exact ⟨_, .bl, rfl, TyOf.bl _⟩
    · exact ⟨_, .str, rfl, TyOf.str _⟩
    · exact ⟨_, .tup, rfl, TyOf.tup ((((s6.trans s7).trans s8).trans s9) _ _ e5)⟩
    · exact ⟨_, .lst, rfl, TyOf.lst (((s7.trans s8).trans s9) _ _ e6)⟩
    · exact ⟨_, .lst, rfl, TyOf.lst ((s8.trans s9) _ _ e7)⟩
    · exact ⟨_, .dct, rfl, TyOf.dK (s9 _ _ e8)⟩
  refine ⟨_, rfl, _, _, nv z, rfl, rfl, (by show (0 : Int) < 8; decide), congrArg V.int ez, l9, _, _, _, rfl, rfl, SqL.of upd_same, ew, ?_⟩
  have S49 := (((s5.trans s6).trans s7).trans s8).trans s9
  generalize upd H8 l9 (.lst [V.non, .int 0, .bl true, .str "a for 5", .ref p5, .ref l6, .ref l7, .ref d8]) = H9 at s9 S49 hv ⊢
  have e9 := S49 _ _ e4
  refine ⟨_, rfl, _, rfl, ld, _, _, j, rfl, rfl, e9, ?_, ?_⟩
  · unfold ixN
    rw [if_pos (by omega), if_pos (by rw [bml]; omega)]
    rw [Int.toNat_natCast]
  have hB9 := hB4.imp fun x y _ z => z.same S49
  have hBz : All2 (IsTr c_Bid c_Only c_SoMany c_UpTo c_AnyOf c_OneOf (fun _ => False) (upd H9 ld (.lst ((bs.map V.ref).set j v))) 1) bs ts := hB9.imp fun x y _ z => z.put e9 (fun z => z)
  refine rt5 _ lg bs ts (.ref ld) c _ (by rw [upd_ne ngd]; exact S49 _ _ eg4) hBz (by omega) (by omega) (.inr (.inl ⟨ld, _, j, v, _, rfl, upd_same, ?_, TyOf.put e9 hv, ZK.b n, fun i y hi hy => ?_⟩))
  · rw [List.getElem?_set_self (by rw [bml]; exact hj)]
  · rw [List.getElem?_set_ne (by omega)] at hy
    obtain ⟨b, t, rfl, hb, ht, ib⟩ := hBz.at hy
    exact is_bid O_Bid O_Only O_SoMany O_UpTo O_Several O_AnyOf O_OneOf kit_Bid_Bid kit_Only_Bid kit_SoMany_Bid kit_UpTo_Bid kit_AnyOf_Bid kit_OneOf_Bid ib
end
end My


set_option Elab.async false
set_option linter.all false
set_option maxRecDepth 100000
set_option maxHeartbeats 4000000
namespace My
open PySem PySem.Spec PyProof.Rows L2 GM
section
variable {P : Program} {w : World} {K : PySem.W.Frag} {mg : Str → Option Value} {base : Heap}
variable {c_Bid c_Only c_SoMany c_UpTo c_Several c_AnyOf c_OneOf C : Addr}
theorem cut_to (bs : List Addr) (n : Nat) : cutV (bs.map V.ref) none (some (n : Int)) = (bs.take n).map V.ref := by
  unfold cutV
  rw [HT.sIx_none, HT.sIx_nat, List.drop_zero, Nat.sub_zero, List.length_map, List.map_take]
  rcases Nat.le_total n bs.length with h | h
  · rw [Nat.min_eq_left h]
  · rw [Nat.min_eq_right h, List.take_of_length_le (by rw [List.length_map]; exact Nat.le_refl _), List.take_of_length_le (by rw [List.length_map]; exact h)]
theorem a2c {α β : Type} {R : α → β → Prop} {x : α} {y : β} {xs : List α} {ys : List β} (h : R x y) (g : All2 R xs ys) : All2 R (x :: xs) (y :: ys) := All2.append (.one h) g
theorem ok_L_deep {f : Addr} {fd : FuncData} (F : Fun K "_law_deep" "_law_deep" s_L_deep f fd) (m_self : mg "_law_deep" = some (.ref f)) (m_range : mg "range" = none)
    (D_L_cell : DefOk P w K mg base 1 "_law_cell" ["_law_script", "_law_k"] [] (sp_L_cell K))
    (D_L_made : DefOk P w K mg base 14 "_law_made" ["_law_way", "_law_parts"] [] (sp_L_made K c_Bid c_Only c_SoMany c_UpTo c_Several c_AnyOf c_OneOf))
    (D_L_refused : DefOk P w K mg base 16 "_law_refused" ["_law_way", "_law_parts"] [] (sp_L_refused K c_Bid c_Only c_SoMany c_UpTo c_Several c_AnyOf c_OneOf))
    (D_L_taken : DefOk P w K mg base 15 "_law_taken" ["_law_way", "_law_parts"] [] (sp_L_taken K c_Bid c_Only c_SoMany c_UpTo c_Several c_AnyOf c_OneOf))
    (O_Bid : Own K mg "Bid" c_Bid [])
    (O_Only : Own K mg "Only" c_Only ["bundle", "amount"])
    (O_SoMany : Own K mg "SoMany" c_SoMany ["kind", "least", "amount"])
    (O_UpTo : Own K mg "UpTo" c_UpTo ["kind", "most", "each"])
    (O_Several : Own K mg "Several" c_Several ["bids"])
    (O_AnyOf : Own K mg "AnyOf" c_AnyOf ["bids"])
    (O_OneOf : Own K mg "OneOf" c_OneOf ["bids"])
    (MK_Bid : Make0 K mg "Bid" c_Bid)
    (MK_Only : MakeD P w K mg base 4 "Only" c_Only ["self", "bundle", "amount"] (sp_M_Only___init__ K c_Only))
    (MK_AnyOf : MakeD P w K mg base 12 "AnyOf" c_AnyOf ["self", "bids"] (sp_M_Several___init__ K c_AnyOf c_Bid c_Only c_SoMany c_UpTo c_Several c_AnyOf c_OneOf))
    (MK_OneOf : MakeD P w K mg base 12 "OneOf" c_OneOf ["self", "bids"] (sp_M_Several___init__ K c_OneOf c_Bid c_Only c_SoMany c_UpTo c_Several c_AnyOf c_OneOf))
    (MK_UpTo : MakeD P w K mg base 4 "UpTo" c_UpTo ["self", "kind", "most", "each"] (sp_M_UpTo___init__ K c_UpTo)) : DefOk P w K mg base 17 "_law_deep" ["_law_script", "_law_way"] [] (sp_L_deep K) := by
  refine F.def_okQ m_self (bnd2 F fun _ _ _ _ _ _ _ _ => rfl) sc_L_deep (fun vs H Q E h => ?_) (fun cdv A outer s H vs Q E hr h => ?_)
  · obtain ⟨a, ns, way, rfl, _⟩ := h; rfl
  obtain ⟨a, ns, way, rfl, hS, hw, q⟩ := h
  obtain ⟨t4, ht4, rt4⟩ : ∃ tt, QSs (cxOf CX0 P w K mg base ["_law_script", "_law_way", "_law_cell_here", "_law_bid", "_law_k", "_law_row"] "_law_deep" (defScope s_L_deep) f cdv A outer s H E).nox ((defBody s_L_deep).drop 4) tt ∧
      ∀ (H1 : Hp) (lr : Addr) (bs : List Addr) (ts : List Tr) (x2 x3 x4 : Option V), H1 lr = some (.lst (bs.map V.ref)) → All2 (IsTr c_Bid c_Only c_SoMany c_UpTo c_AnyOf c_OneOf (fun _ => True) H1 4) bs ts → 4 ≤ depthL ts → tallyL ts ≤ 100 →
        tt { nx := fun _ H' => Q .non H', rt := Q } [some (.ref a), some (nv way), x2, x3, x4, some (.ref lr)] H1 := by
    refine ⟨_, (R.pss_one (R.ps_ret (R.pe_and (R.pe_callD D_L_refused hr (by first | decide | omega) rfl (R.pa_c (R.pv 1) (R.pa_c (R.pe_lst (R.pa_c (R.pv 5) R.pa_nil)) R.pa_nil))) (R.pe_one (R.pe_callD D_L_taken hr (by first | decide | omega) rfl (R.pa_c (R.pv 1) (R.pa_c (R.pe_lst (R.pa_c (R.pe_slice sl_list (R.pv 5) R.po_none (R.po_some R.pe_int)) R.pa_nil)) R.pa_nil))))))), ?_⟩
    intro H1 lr bs ts x2 x3 x4 er hB hd hy
    refine ⟨_, rfl, _, rfl, (by show 1 ≤ sizeLine; decide), fun l1 h1 => ⟨way, l1, _, rfl, upd_same, .inr (.inr ⟨hw, .ref lr, rfl, ?_⟩), fun H2 s2 => ⟨_, rfl, iteT ?_⟩⟩⟩
    · exact BadBids.same (same_new h1 _) (.inr (.inr ⟨lr, bs, ts, _, rfl, er, hB, hy, .inl hd⟩))
    have S2 := (same_new h1 (.lst [V.ref lr])).trans s2
    refine ⟨_, rfl, _, rfl, 0, rfl, lr, _, rfl, SqL.of (S2 _ _ er), fun l3 h3 => ?_⟩
    have e0 : cutV (bs.map V.ref) none (some 0) = ([] : List Addr).map V.ref := cut_to bs 0
    rw [e0]
    refine ⟨(by show 1 ≤ sizeLine; decide), fun l4 h4 => ?_⟩
    exact ⟨way, l4, _, _, rfl, upd_same, made_list (bs := []) (ts := []) (c_Bid := c_Bid) (c_Only := c_Only) (c_SoMany := c_SoMany) (c_UpTo := c_UpTo) (c_Several := c_Several) (c_AnyOf := c_AnyOf) (c_OneOf := c_OneOf) hw (same_new h4 _ _ _ upd_same) All2.nil (by decide), fun H' _ => q _⟩
  obtain ⟨t3, ht3, rt3⟩ : ∃ tt, QSs (cxOf CX0 P w K mg base ["_law_script", "_law_way", "_law_cell_here", "_law_bid", "_law_k", "_law_row"] "_law_deep" (defScope s_L_deep) f cdv A outer s H E).nox ((defBody s_L_deep).drop 3) tt ∧
      ∀ (H1 : Hp) (b : Addr) (t : Tr) (x2 x4 x5 : Option V), SqL K H1 a (ns.map V.int) → IsTr c_Bid c_Only c_SoMany c_UpTo c_AnyOf c_OneOf (fun _ => True) H1 4 b t → depthT t = 4 → tallyT t ≤ 7 →
        tt { nx := fun _ H' => Q .non H', rt := Q } [some (.ref a), some (nv way), x2, some (.ref b), x4, x5] H1 := by
    refine ⟨_, (R.pss_cons (R.ps_set (i := 5) sc_L_deep.nd rfl (Or.inl rfl) (R.pe_ix (R.ixL K) (R.pe_lst (R.pa_c (R.pe_lst (R.pa_c (R.pv 3) R.pa_nil)) (R.pa_c (R.pe_lst (R.pa_c (R.pe_mk0 MK_Bid rfl) (R.pa_c (R.pv 3) R.pa_nil))) (R.pa_c (R.pe_lst (R.pa_c (R.pv 3) (R.pa_c (R.pe_mk0 MK_Bid rfl) R.pa_nil))) (R.pa_c (R.pe_lst (R.pa_c (R.pe_makeD MK_Only hr (by first | decide | omega) rfl (R.pa_c R.pe_int (R.pa_c R.pe_int R.pa_nil))) (R.pa_c (R.pe_mk0 MK_Bid rfl) (R.pa_c (R.pv 3) R.pa_nil)))) R.pa_nil))))) (R.pe_op (opE op_mod) (R.pe_callD D_L_cell hr (by first | decide | omega) rfl (R.pa_c (R.pv 0) (R.pa_c R.pe_int R.pa_nil))) R.pe_int) (fun _ _ => rfl)))
    ht4), ?_⟩
    intro H1 b t x2 x4 x5 hS1 hT hd hy
    refine ⟨_, rfl, (by show 1 ≤ sizeLine; decide), fun l1 h1 => ?_⟩
    have s2 := same_new h1 (.lst [V.ref b])
    have e2 : upd H1 l1 (.lst [V.ref b]) l1 = some (.lst [V.ref b]) := upd_same
    generalize upd H1 l1 (.lst [V.ref b]) = H2 at s2 e2 ⊢
    refine fun x1 d1 n1 m1 _ => ?_
    have s3 : Same H2 (upd (upd H2 d1 (.own x1)) x1 (.ins c_Bid d1 [])) := ((Same.refl H2).upd m1 _).upd n1 _
    have e3 : upd (upd H2 d1 (.own x1)) x1 (.ins c_Bid d1 []) x1 = some (.ins c_Bid d1 []) := upd_same
    generalize upd (upd H2 d1 (.own x1)) x1 (.ins c_Bid d1 []) = H3 at s3 e3 ⊢
    refine ⟨_, rfl, (by show 2 ≤ sizeLine; decide), fun l4 h4 => ?_⟩
    have s4 := same_new h4 (.lst [V.ref x1, .ref b])
    have e4 : upd H3 l4 (.lst [V.ref x1, .ref b]) l4 = some (.lst [V.ref x1, .ref b]) := upd_same
    generalize upd H3 l4 (.lst [V.ref x1, .ref b]) = H4 at s4 e4 ⊢
    refine ⟨_, rfl, fun x5 d5 n5 m5 _ => ?_⟩
    have s5 : Same H4 (upd (upd H4 d5 (.own x5)) x5 (.ins c_Bid d5 [])) := ((Same.refl H4).upd m5 _).upd n5 _
    have e5 : upd (upd H4 d5 (.own x5)) x5 (.ins c_Bid d5 []) x5 = some (.ins c_Bid d5 []) := upd_same
    generalize upd (upd H4 d5 (.own x5)) x5 (.ins c_Bid d5 []) = H5 at s5 e5 ⊢
    refine ⟨(by show 2 ≤ sizeLine; decide), fun l6 h6 => ?_⟩
    have s6 := same_new h6 (.lst [V.ref b, .ref x5])
    have e6 : upd H5 l6 (.lst [V.ref b, .ref x5]) l6 = some (.lst [V.ref b, .ref x5]) := upd_same
    generalize upd H5 l6 (.lst [V.ref b, .ref x5]) = H6 at s6 e6 ⊢
    refine fun x7 d7 n7 m7 _ => ⟨x7, d7, 1, 1, rfl, by decide, by decide, ⟨by decide, by decide⟩, upd_same, rfl, ?_⟩
    have s7 : Same H6 (upd (upd (upd H6 d7 (.own x7)) x7 (.ins c_Only d7 [])) x7 (.ins c_Only d7 (fsOnly 1 1))) := made_same n7 m7
    have e7 : upd (upd (upd H6 d7 (.own x7)) x7 (.ins c_Only d7 [])) x7 (.ins c_Only d7 (fsOnly 1 1)) x7 = some (.ins c_Only d7 (fsOnly 1 1)) := upd_same
    generalize upd (upd (upd H6 d7 (.own x7)) x7 (.ins c_Only d7 [])) x7 (.ins c_Only d7 (fsOnly 1 1)) = H7 at s7 e7 ⊢
    refine fun x8 d8 n8 m8 _ => ?_
    have s8 : Same H7 (upd (upd H7 d8 (.own x8)) x8 (.ins c_Bid d8 [])) := ((Same.refl H7).upd m8 _).upd n8 _
    have e8 : upd (upd H7 d8 (.own x8)) x8 (.ins c_Bid d8 []) x8 = some (.ins c_Bid d8 []) := upd_same
    generalize upd (upd H7 d8 (.own x8)) x8 (.ins c_Bid d8 []) = H8 at s8 e8 ⊢
    refine ⟨_, rfl, (by show 3 ≤ sizeLine; decide), fun l9 h9 => ?_⟩
    have s9 := same_new h9 (.lst [V.ref x7, .ref x8, .ref b])
    have e9 : upd H8 l9 (.lst [V.ref x7, .ref x8, .ref b]) l9 = some (.lst [V.ref x7, .ref x8, .ref b]) := upd_same
    generalize upd H8 l9 (.lst [V.ref x7, .ref x8, .ref b]) = H9 at s9 e9 ⊢
    refine ⟨(by show 4 ≤ sizeLine; decide), fun l10 h10 => ?_⟩
    have s10 := same_new h10 (.lst [V.ref l1, .ref l4, .ref l6, .ref l9])
    have u9 := s9.trans s10
    have u8 := s8.trans u9
    have u7 := s7.trans u8
    have u6 := s6.trans u7
    have u5 := s5.trans u6
    have u4 := s4.trans u5
    have u3 := s3.trans u4
    have S := s2.trans u3
    have hT10 := hT.same S
    obtain ⟨z, ez, hz⟩ := mod_nat (cellN ns 2) 4 (by decide)
    have lf : ∀ {x d : Addr}, upd H9 l10 (.lst [V.ref l1, .ref l4, .ref l6, .ref l9]) x = some (.ins c_Bid d []) → IsTr c_Bid c_Only c_SoMany c_UpTo c_AnyOf c_OneOf (fun _ => True) (upd H9 l10 (.lst [V.ref l1, .ref l4, .ref l6, .ref l9])) 4 x (.leaf .none) := fun {x d} e => ⟨trivial, d, e⟩
    obtain ⟨lr, bs, ts, ew, er, hB, hdd, hyy⟩ : ∃ (lr : Addr) (bs : List Addr) (ts : List Tr), atI [V.ref l1, .ref l4, .ref l6, .ref l9] (z : Int) = some (.ref lr) ∧ upd H9 l10 (.lst [V.ref l1, .ref l4, .ref l6, .ref l9]) lr = some (.lst (bs.map V.ref)) ∧ All2 (IsTr c_Bid c_Only c_SoMany c_UpTo c_AnyOf c_OneOf (fun _ => True) (upd H9 l10 (.lst [V.ref l1, .ref l4, .ref l6, .ref l9])) 4) bs ts ∧ 4 ≤ depthL ts ∧ tallyL ts ≤ 100 := by
      rcases (by omega : z = 0 ∨ z = 1 ∨ z = 2 ∨ z = 3) with e | e | e | e <;> subst e
      · exact ⟨l1, [b], [t], rfl, u3 _ _ e2, .one hT10, by show 4 ≤ max (depthT t) 0; omega, by show tallyT t + 0 ≤ 100; omega⟩
      · exact ⟨l4, [x1, b], [.leaf .none, t], rfl, u5 _ _ e4, a2c (lf (u4 _ _ e3)) (.one hT10), by show 4 ≤ max 1 (max (depthT t) 0); omega, by show 1 + (tallyT t + 0) ≤ 100; omega⟩
      · exact ⟨l6, [b, x5], [t, .leaf .none], rfl, u7 _ _ e6, a2c hT10 (.one (lf (u6 _ _ e5))), by show 4 ≤ max (depthT t) (max 1 0); omega, by show tallyT t + (1 + 0) ≤ 100; omega⟩
      · exact ⟨l9, [x7, x8, b], [.leaf (.only 1 1), .leaf .none, t], rfl, s10 _ _ e9, a2c ⟨⟨by decide, by decide, ⟨by decide, by decide⟩⟩, d7, u8 _ _ e7⟩ (a2c (lf (u9 _ _ e8)) (.one hT10)), by show 4 ≤ max 1 (max 1 (max (depthT t) 0)); omega, by show 1 + (1 + (tallyT t + 0)) ≤ 100; omega⟩
    refine ⟨_, rfl, a, ns, 2, rfl, S.seq hS1, by decide, fun H11 s11 => ⟨_, _, nv z, rfl, rfl, (by show (0 : Int) < 4; decide), congrArg V.int ez, l10, _, _, _, rfl, rfl, SqL.of (s11 _ _ upd_same), ew, ?_⟩⟩
    exact rt4 H11 lr bs ts _ _ _ (s11 _ _ er) (hB.imp fun x y _ z => z.same s11) hdd hyy
  refine ⟨_, (R.pss_cons (R.ps_set (i := 2) sc_L_deep.nd rfl (Or.inl rfl) (R.pe_callD D_L_cell hr (by first | decide | omega) rfl (R.pa_c (R.pv 0) (R.pa_c R.pe_int R.pa_nil))))
    (R.pss_cons (R.ps_set (i := 3) sc_L_deep.nd rfl (Or.inl rfl) (R.pe_ix (R.ixL K) (R.pe_lst (R.pa_c (R.pe_mk0 MK_Bid rfl) (R.pa_c (R.pe_makeD MK_Only hr (by first | decide | omega) rfl (R.pa_c R.pe_int (R.pa_c R.pe_int R.pa_nil))) (R.pa_c (R.pe_makeD MK_AnyOf hr (by first | decide | omega) rfl (R.pa_c (R.pe_lst R.pa_nil) R.pa_nil)) (R.pa_c (R.pe_makeD MK_OneOf hr (by first | decide | omega) rfl (R.pa_c (R.pe_lst R.pa_nil) R.pa_nil)) R.pa_nil))))) (R.pe_op (opE op_mod) (R.pv 2) R.pe_int) (fun _ _ => rfl)))
    (R.pss_cons (R.ps_for PassesOwn.never rfl (R.pi_range1 rfl m_range (R.pa_c R.pe_int R.pa_nil)) (R.pg_name (i := 4) sc_L_deep.nd rfl (Or.inl rfl)) (R.pss_cons (R.ps_set (i := 2) sc_L_deep.nd rfl (Or.inl rfl) (R.pe_op op_fdiv (R.pv 2) R.pe_int))
      (R.pss_cons (R.ps_set (i := 5) sc_L_deep.nd rfl (Or.inl rfl) (R.pe_ix (R.ixL K) (R.pe_lst (R.pa_c (R.pe_lst (R.pa_c (R.pv 3) R.pa_nil)) (R.pa_c (R.pe_lst (R.pa_c (R.pe_mk0 MK_Bid rfl) (R.pa_c (R.pv 3) R.pa_nil))) (R.pa_c (R.pe_lst (R.pa_c (R.pv 3) (R.pa_c (R.pe_makeD MK_UpTo hr (by first | decide | omega) rfl (R.pa_c R.pe_int (R.pa_c R.pe_int (R.pa_c R.pe_int R.pa_nil)))) R.pa_nil))) (R.pa_c (R.pe_lst (R.pa_c (R.pv 3) R.pa_nil)) R.pa_nil))))) (R.pe_op (opE op_mod) (R.pv 2) R.pe_int) (fun _ _ => rfl)))
      (R.pss_cons (R.ps_if (R.pt (R.pw_or (R.pt_not (R.pt_val (R.pe_callD D_L_taken hr (by first | decide | omega) rfl (R.pa_c R.pe_int (R.pa_c (R.pe_lst (R.pa_c (R.pv 5) R.pa_nil)) R.pa_nil))))) (R.pw_or1 (R.pt_not (R.pt_val (R.pe_callD D_L_taken hr (by first | decide | omega) rfl (R.pa_c R.pe_int (R.pa_c (R.pe_lst (R.pa_c (R.pv 5) R.pa_nil)) R.pa_nil)))))))) (R.pss_one (R.ps_ret R.pe_bl)) R.pss_nil)
      (R.pss_one (R.ps_set (i := 3) sc_L_deep.nd rfl (Or.inl rfl) (R.pe_callD D_L_made hr (by first | decide | omega) rfl (R.pa_c (R.pe_op (opE0 op_add) R.pe_int (R.pe_op (opE op_mod) (R.pe_op op_add (R.pv 2) (R.pv 4)) R.pe_int)) (R.pa_c (R.pe_lst (R.pa_c (R.pv 5) R.pa_nil)) R.pa_nil)))))))))
    ht3))), ?_⟩
  refine ⟨_, rfl, a, ns, 1, rfl, hS, by decide, fun H1 s1 => ?_⟩
  generalize cellN ns 1 = c0
  refine fun x1 d1 n1 m1 _ => ?_
  have s2 : Same H1 (upd (upd H1 d1 (.own x1)) x1 (.ins c_Bid d1 [])) := ((Same.refl H1).upd m1 _).upd n1 _
  have e2 : upd (upd H1 d1 (.own x1)) x1 (.ins c_Bid d1 []) x1 = some (.ins c_Bid d1 []) := upd_same
  generalize upd (upd H1 d1 (.own x1)) x1 (.ins c_Bid d1 []) = H2 at s2 e2 ⊢
  refine fun x2 d2 n2 m2 _ => ⟨x2, d2, 3, 4, rfl, by decide, by decide, ⟨by decide, by decide⟩, upd_same, rfl, ?_⟩
  have s3 : Same H2 (upd (upd (upd H2 d2 (.own x2)) x2 (.ins c_Only d2 [])) x2 (.ins c_Only d2 (fsOnly 3 4))) := made_same n2 m2
  have e3 : upd (upd (upd H2 d2 (.own x2)) x2 (.ins c_Only d2 [])) x2 (.ins c_Only d2 (fsOnly 3 4)) x2 = some (.ins c_Only d2 (fsOnly 3 4)) := upd_same
  generalize upd (upd (upd H2 d2 (.own x2)) x2 (.ins c_Only d2 [])) x2 (.ins c_Only d2 (fsOnly 3 4)) = H3 at s3 e3 ⊢
  refine ⟨(by show 0 ≤ sizeLine; decide), fun l4 h4 => fun x4 d4 n4 m4 _ => ?_⟩
  have s4 := same_new h4 (.lst [])
  have e4 : upd H3 l4 (.lst []) l4 = some (.lst (([] : List Addr).map V.ref)) := upd_same
  generalize upd H3 l4 (.lst []) = H4 at s4 e4 n4 m4 ⊢
  have sx4 : Same H4 (upd (upd H4 d4 (.own x4)) x4 (.ins c_AnyOf d4 [])) := ((Same.refl H4).upd m4 _).upd n4 _
  refine ⟨x4, d4, l4, [], [], fun _ => True, 3, rfl, upd_same, .inl rfl, sx4 _ _ e4, All2.nil, by decide, by decide, fun H5 lb5 s5 hb5 => ⟨rfl, ?_⟩⟩
  obtain ⟨S5, T5⟩ := made_any (c_Bid := c_Bid) (c_Only := c_Only) (c_SoMany := c_SoMany) (c_UpTo := c_UpTo) (c_Several := c_Several) (c_AnyOf := c_AnyOf) (c_OneOf := c_OneOf) (A := fun _ => True) (ts := []) (bs := []) (any := true) n4 m4 s5 hb5 All2.nil rfl
  generalize upd (upd H5 lb5 (.lst (([] : List Addr).map V.ref))) x4 (.ins c_AnyOf d4 (fsSev lb5)) = H6 at S5 T5 ⊢
  refine ⟨(by show 0 ≤ sizeLine; decide), fun l7 h7 => fun x7 d7 n7 m7 _ => ?_⟩
  have s7 := same_new h7 (.lst [])
  have e7 : upd H6 l7 (.lst []) l7 = some (.lst (([] : List Addr).map V.ref)) := upd_same
  generalize upd H6 l7 (.lst []) = H7 at s7 e7 n7 m7 ⊢
  have sx7 : Same H7 (upd (upd H7 d7 (.own x7)) x7 (.ins c_OneOf d7 [])) := ((Same.refl H7).upd m7 _).upd n7 _
  refine ⟨x7, d7, l7, [], [], fun _ => True, 3, rfl, upd_same, .inr rfl, sx7 _ _ e7, All2.nil, by decide, by decide, fun H8 lb8 s8 hb8 => ⟨rfl, ?_⟩⟩
  obtain ⟨S8, T8⟩ := made_any (c_Bid := c_Bid) (c_Only := c_Only) (c_SoMany := c_SoMany) (c_UpTo := c_UpTo) (c_Several := c_Several) (c_AnyOf := c_AnyOf) (c_OneOf := c_OneOf) (A := fun _ => True) (ts := []) (bs := []) (any := false) n7 m7 s8 hb8 All2.nil rfl
  generalize upd (upd H8 lb8 (.lst (([] : List Addr).map V.ref))) x7 (.ins c_OneOf d7 (fsSev lb8)) = H9 at S8 T8 ⊢
  refine ⟨(by show 4 ≤ sizeLine; decide), fun l10 h10 => ?_⟩
  have s10 := same_new h10 (.lst [V.ref x1, .ref x2, .ref x4, .ref x7])
  have u8 := S8.trans s10
  have u7 := s7.trans u8
  have u5 := S5.trans u7
  have u4 := s4.trans u5
  have u3 := s3.trans u4
  have S := (s1.trans s2).trans u3
  obtain ⟨z, ez, hz⟩ := mod_nat c0 4 (by decide)
  obtain ⟨b, t, ew, hT, hd, hy⟩ : ∃ (b : Addr) (t : Tr), atI [V.ref x1, .ref x2, .ref x4, .ref x7] (z : Int) = some (.ref b) ∧ IsTr c_Bid c_Only c_SoMany c_UpTo c_AnyOf c_OneOf (fun _ => True) (upd H9 l10 (.lst [V.ref x1, .ref x2, .ref x4, .ref x7])) 4 b t ∧ depthT t = 1 ∧ tallyT t ≤ 1 := by
    rcases (by omega : z = 0 ∨ z = 1 ∨ z = 2 ∨ z = 3) with e | e | e | e <;> subst e
    · exact ⟨x1, .leaf .none, rfl, ⟨trivial, d1, u3 _ _ e2⟩, rfl, Nat.le_refl _⟩
    · exact ⟨x2, .leaf (.only 3 4), rfl, ⟨⟨by decide, by decide, ⟨by decide, by decide⟩⟩, d2, u4 _ _ e3⟩, rfl, Nat.le_refl _⟩
    · exact ⟨x4, .node true [], rfl, T5.same u7, rfl, Nat.le_refl _⟩
    · exact ⟨x7, .node false [], rfl, T8.same s10, rfl, Nat.le_refl _⟩
  refine ⟨_, rfl, _, _, nv z, rfl, rfl, (by show (0 : Int) < 4; decide), congrArg V.int ez, l10, _, _, _, rfl, rfl, SqL.of upd_same, ew, ?_⟩
  generalize upd H9 l10 (.lst [V.ref x1, .ref x2, .ref x4, .ref x7]) = H10 at S hT ⊢
  refine ⟨_, rfl, by decide, by decide, ?_⟩
  refine for_range (n := 3) (lo := 0) (fun i σ H' => Same H10 H' ∧ (∃ (b : Addr) (t : Tr) (c : Int) (x4 x5 : Option V), IsTr c_Bid c_Only c_SoMany c_UpTo c_AnyOf c_OneOf (fun _ => True) H' 4 b t ∧ depthT t = 1 + i ∧ tallyT t ≤ 1 + 2 * i ∧ σ = [some (.ref a), some (nv way), some (.int c), some (.ref b), x4, x5])) ?_ ?_ ?_
  · exact ⟨Same.refl _, b, t, c0, none, none, hT, hd, hy, rfl⟩
  · rintro k σ H11 hk ⟨s11, b, t, c, x4', x5', hT, hd, hy, rfl⟩
    rw [Int.zero_add]
    refine ⟨_, rfl, _, _, rfl, rfl, ⟨by decide, by decide⟩, ?_⟩
    refine ⟨_, rfl, (by show 1 ≤ sizeLine; decide), fun l12 h12 => ?_⟩
    have s12 := same_new h12 (.lst [V.ref b])
    have e12 : upd H11 l12 (.lst [V.ref b]) l12 = some (.lst [V.ref b]) := upd_same
    generalize upd H11 l12 (.lst [V.ref b]) = H12 at s12 e12 ⊢
    refine fun y1 f1 n1 m1 _ => ?_
    have s13 : Same H12 (upd (upd H12 f1 (.own y1)) y1 (.ins c_Bid f1 [])) := ((Same.refl H12).upd m1 _).upd n1 _
    have e13 : upd (upd H12 f1 (.own y1)) y1 (.ins c_Bid f1 []) y1 = some (.ins c_Bid f1 []) := upd_same
    generalize upd (upd H12 f1 (.own y1)) y1 (.ins c_Bid f1 []) = H13 at s13 e13 ⊢
    refine ⟨_, rfl, (by show 2 ≤ sizeLine; decide), fun l14 h14 => ?_⟩
    have s14 := same_new h14 (.lst [V.ref y1, .ref b])
    have e14 : upd H13 l14 (.lst [V.ref y1, .ref b]) l14 = some (.lst [V.ref y1, .ref b]) := upd_same
    generalize upd H13 l14 (.lst [V.ref y1, .ref b]) = H14 at s14 e14 ⊢
    refine ⟨_, rfl, fun y5 f5 n5 m5 _ => ⟨y5, f5, 5, 1, 1, rfl, by decide, by decide, by decide, by decide, ⟨by decide, by decide⟩, upd_same, rfl, ?_⟩⟩
    have s15 : Same H14 (upd (upd (upd H14 f5 (.own y5)) y5 (.ins c_UpTo f5 [])) y5 (.ins c_UpTo f5 (fsMost 5 1 1))) := made_same n5 m5
    have e15 : upd (upd (upd H14 f5 (.own y5)) y5 (.ins c_UpTo f5 [])) y5 (.ins c_UpTo f5 (fsMost 5 1 1)) y5 = some (.ins c_UpTo f5 (fsMost 5 1 1)) := upd_same
    generalize upd (upd (upd H14 f5 (.own y5)) y5 (.ins c_UpTo f5 [])) y5 (.ins c_UpTo f5 (fsMost 5 1 1)) = H15 at s15 e15 ⊢
    refine ⟨(by show 2 ≤ sizeLine; decide), fun l16 h16 => ?_⟩
    have s16 := same_new h16 (.lst [V.ref b, .ref y5])
    have e16 : upd H15 l16 (.lst [V.ref b, .ref y5]) l16 = some (.lst [V.ref b, .ref y5]) := upd_same
    generalize upd H15 l16 (.lst [V.ref b, .ref y5]) = H16 at s16 e16 ⊢
    refine ⟨_, rfl, (by show 1 ≤ sizeLine; decide), fun l17 h17 => ?_⟩
    have s17 := same_new h17 (.lst [V.ref b])
    have e17 : upd H16 l17 (.lst [V.ref b]) l17 = some (.lst [V.ref b]) := upd_same
    generalize upd H16 l17 (.lst [V.ref b]) = H17 at s17 e17 ⊢
    refine ⟨(by show 4 ≤ sizeLine; decide), fun l18 h18 => ?_⟩
    have s18 := same_new h18 (.lst [V.ref l12, .ref l14, .ref l16, .ref l17])
    have v17 := s17.trans s18
    have v16 := s16.trans v17
    have v15 := s15.trans v16
    have v14 := s14.trans v15
    have v13 := s13.trans v14
    have S18 := s12.trans v13
    have hT3 : IsTr c_Bid c_Only c_SoMany c_UpTo c_AnyOf c_OneOf (fun _ => True) H11 3 b t := IsTr.to 4 3 hT (by omega)
    have hT18 := hT3.same S18
    obtain ⟨z, ez, hz⟩ := mod_nat (c / 4) 4 (by decide)
    obtain ⟨lr, bs, ts, ew, er, hB, hdd, hyy⟩ : ∃ (lr : Addr) (bs : List Addr) (ts : List Tr), atI [V.ref l12, .ref l14, .ref l16, .ref l17] (z : Int) = some (.ref lr) ∧ upd H17 l18 (.lst [V.ref l12, .ref l14, .ref l16, .ref l17]) lr = some (.lst (bs.map V.ref)) ∧ All2 (IsTr c_Bid c_Only c_SoMany c_UpTo c_AnyOf c_OneOf (fun _ => True) (upd H17 l18 (.lst [V.ref l12, .ref l14, .ref l16, .ref l17])) 3) bs ts ∧ depthL ts = 1 + k ∧ tallyL ts ≤ 2 + 2 * k := by
      rcases (by omega : z = 0 ∨ z = 1 ∨ z = 2 ∨ z = 3) with e | e | e | e <;> subst e
      · exact ⟨l12, [b], [t], rfl, v13 _ _ e12, .one hT18, by show max (depthT t) 0 = 1 + k; omega, by show tallyT t + 0 ≤ 2 + 2 * k; omega⟩
      · exact ⟨l14, [y1, b], [.leaf .none, t], rfl, v15 _ _ e14, a2c ⟨trivial, f1, v14 _ _ e13⟩ (.one hT18), by show max 1 (max (depthT t) 0) = 1 + k; omega, by show 1 + (tallyT t + 0) ≤ 2 + 2 * k; omega⟩
      · exact ⟨l16, [b, y5], [t, .leaf (.most 5 1 1)], rfl, v17 _ _ e16, a2c hT18 (.one ⟨⟨by decide, by decide, by decide, by decide, ⟨by decide, by decide⟩⟩, f5, v16 _ _ e15⟩), by show max (depthT t) (max 1 0) = 1 + k; omega, by show tallyT t + (1 + 0) ≤ 2 + 2 * k; omega⟩
      · exact ⟨l17, [b], [t], rfl, s18 _ _ e17, .one hT18, by show max (depthT t) 0 = 1 + k; omega, by show tallyT t + 0 ≤ 2 + 2 * k; omega⟩
    refine ⟨_, rfl, _, _, nv z, rfl, rfl, (by show (0 : Int) < 4; decide), congrArg V.int ez, l18, _, _, _, rfl, rfl, SqL.of upd_same, ew, ?_⟩
    generalize upd H17 l18 (.lst [V.ref l12, .ref l14, .ref l16, .ref l17]) = H18 at S18 er hB ⊢
    have md : ∀ {w : Nat} {H' : Hp}, (w = 3 ∨ w = 4) → Same H18 H' → Made c_Bid c_Only c_SoMany c_UpTo c_Several c_AnyOf c_OneOf H' w [.ref lr] (.node (decide (w = 3)) ts) := fun hw' S' => (made_list (c_Bid := c_Bid) (c_Only := c_Only) (c_SoMany := c_SoMany) (c_UpTo := c_UpTo) (c_Several := c_Several) (c_AnyOf := c_AnyOf) (c_OneOf := c_OneOf) hw' er hB (by omega)).same S'
    refine ⟨_, rfl, (by show 1 ≤ sizeLine; decide), fun l19 h19 => ⟨3, l19, _, _, rfl, upd_same, md (.inl rfl) (same_new h19 _), fun H20 s20 => ⟨_, rfl, iteF ?_⟩⟩⟩
    have S20 := (same_new h19 (.lst [V.ref lr])).trans s20
    refine ⟨_, rfl, (by show 1 ≤ sizeLine; decide), fun l21 h21 => ⟨4, l21, _, _, rfl, upd_same, md (.inr rfl) (S20.trans (same_new h21 _)), fun H22 s22 => ⟨_, rfl, iteF ?_⟩⟩⟩
    have S22 := S20.trans ((same_new h21 (.lst [V.ref lr])).trans s22)
    obtain ⟨r, er', hr'⟩ := mod_nat (c / 4 + (k : Int)) 2 (by decide)
    refine ⟨_, rfl, _, rfl, _, _, rfl, rfl, _, _, nv r, rfl, rfl, (by show (0 : Int) < 2; decide), congrArg V.int er', _, _, nv (3 + r), rfl, rfl, rfl, _, rfl, (by show 1 ≤ sizeLine; decide), fun l23 h23 => ?_⟩
    refine ⟨3 + r, l23, _, _, rfl, upd_same, md (by omega) (S22.trans (same_new h23 _)), fun x H24 s24 hT24 => ⟨((s11.trans S18).trans S22).trans ((same_new h23 _).trans s24), x, _, c / 4, _, _, hT24, ?_, ?_, rfl⟩⟩
    · show 1 + depthL ts = 1 + (k + 1); omega
    · show 1 + tallyL ts ≤ 1 + 2 * (k + 1); omega
  · rintro σ H11 ⟨s11, b, t, c, x4', x5', hT, hd, hy, rfl⟩
    exact rt3 H11 b t _ _ _ ((S.trans s11).seq hS) hT hd hy
theorem ok_L_full {f : Addr} {fd : FuncData} (F : Fun K "_law_full" "_law_full" s_L_full f fd) (m_self : mg "_law_full" = some (.ref f))
    (D_L_some : DefOk P w K mg base 6 "_law_some" ["_law_script", "_law_many"] [] (sp_L_some K c_Bid c_Only c_SoMany c_UpTo c_Several c_AnyOf c_OneOf))
    (D_L_cell : DefOk P w K mg base 1 "_law_cell" ["_law_script", "_law_k"] [] (sp_L_cell K))
    (D_L_refused : DefOk P w K mg base 16 "_law_refused" ["_law_way", "_law_parts"] [] (sp_L_refused K c_Bid c_Only c_SoMany c_UpTo c_Several c_AnyOf c_OneOf))
    (D_L_taken : DefOk P w K mg base 15 "_law_taken" ["_law_way", "_law_parts"] [] (sp_L_taken K c_Bid c_Only c_SoMany c_UpTo c_Several c_AnyOf c_OneOf))
    (O_Bid : Own K mg "Bid" c_Bid [])
    (O_Only : Own K mg "Only" c_Only ["bundle", "amount"])
    (O_SoMany : Own K mg "SoMany" c_SoMany ["kind", "least", "amount"])
    (O_UpTo : Own K mg "UpTo" c_UpTo ["kind", "most", "each"])
    (O_Several : Own K mg "Several" c_Several ["bids"])
    (O_AnyOf : Own K mg "AnyOf" c_AnyOf ["bids"])
    (O_OneOf : Own K mg "OneOf" c_OneOf ["bids"])
    (MK_AnyOf : MakeD P w K mg base 12 "AnyOf" c_AnyOf ["self", "bids"] (sp_M_Several___init__ K c_AnyOf c_Bid c_Only c_SoMany c_UpTo c_Several c_AnyOf c_OneOf))
    (MK_OneOf : MakeD P w K mg base 12 "OneOf" c_OneOf ["self", "bids"] (sp_M_Several___init__ K c_OneOf c_Bid c_Only c_SoMany c_UpTo c_Several c_AnyOf c_OneOf)) : DefOk P w K mg base 17 "_law_full" ["_law_script", "_law_way"] [] (sp_L_full K) := by
  refine F.def_okQ m_self (bnd2 F fun _ _ _ _ _ _ _ _ => rfl) sc_L_full (fun vs H Q E h => ?_) (fun cdv A outer s H vs Q E hr h => ?_)
  · obtain ⟨a, ns, way, rfl, _⟩ := h; rfl
  obtain ⟨a, ns, way, rfl, hS, hw, q⟩ := h
  refine ⟨_, (R.pss_cons (R.ps_set (i := 2) sc_L_full.nd rfl (Or.inl rfl) (R.pe_op (opE op_mod) (R.pe_callD D_L_cell hr (by first | decide | omega) rfl (R.pa_c (R.pv 0) (R.pa_c R.pe_int R.pa_nil))) R.pe_int))
    (R.pss_cons (R.ps_set (i := 3) sc_L_full.nd rfl (Or.inl rfl) (R.pe_callD D_L_some hr (by first | decide | omega) rfl (R.pa_c (R.pv 0) (R.pa_c R.pe_int R.pa_nil))))
    (R.pss_cons (R.ps_set (i := 4) sc_L_full.nd rfl (Or.inl rfl) (R.pe_lst (R.pa_c (R.pe_makeD MK_AnyOf hr (by first | decide | omega) rfl (R.pa_c (R.pe_slice sl_list (R.pv 3) R.po_none (R.po_some (R.pv 2))) R.pa_nil)) (R.pa_c (R.pe_makeD MK_OneOf hr (by first | decide | omega) rfl (R.pa_c (R.pe_slice sl_list (R.pv 3) R.po_none (R.po_some (R.pe_op (opE0 op_sub) R.pe_int (R.pv 2)))) R.pa_nil)) R.pa_nil))))
    (R.pss_cons (R.ps_if (R.pt (R.pw_or (R.pt_not (R.pt_val (R.pe_callD D_L_taken hr (by first | decide | omega) rfl (R.pa_c (R.pv 1) (R.pa_c (R.pe_lst (R.pa_c (R.pv 4) R.pa_nil)) R.pa_nil))))) (R.pw_or1 (R.pt_not (R.pt_val (R.pe_callD D_L_taken hr (by first | decide | omega) rfl (R.pa_c (R.pv 1) (R.pa_c (R.pe_lst (R.pa_c (R.pe_slice sl_list (R.pv 3) R.po_none (R.po_some R.pe_int)) R.pa_nil)) R.pa_nil)))))))) (R.pss_one (R.ps_ret R.pe_bl)) R.pss_nil)
    (R.pss_cons (R.ps_set (i := 5) sc_L_full.nd rfl (Or.inl rfl) (R.pe_ix (R.ixL K) (R.pe_lst (R.pa_c (R.pe_op op_cat (R.pe_lst (R.pa_c (R.pe_ix (R.ixL K) (R.pv 3) R.pe_int (fun _ _ => rfl)) R.pa_nil)) (R.pv 4)) (R.pa_c (R.pe_op op_cat (R.pv 4) (R.pe_lst (R.pa_c (R.pe_ix (R.ixL K) (R.pv 3) R.pe_int (fun _ _ => rfl)) R.pa_nil))) R.pa_nil))) (R.pe_op (opE op_mod) (R.pe_callD D_L_cell hr (by first | decide | omega) rfl (R.pa_c (R.pv 0) (R.pa_c R.pe_int R.pa_nil))) R.pe_int) (fun _ _ => rfl)))
    (R.pss_one (R.ps_ret (R.pe_and (R.pe_callD D_L_refused hr (by first | decide | omega) rfl (R.pa_c (R.pv 1) (R.pa_c (R.pe_lst (R.pa_c (R.pv 5) R.pa_nil)) R.pa_nil))) (R.pe_and (R.pe_callD D_L_refused hr (by first | decide | omega) rfl (R.pa_c (R.pv 1) (R.pa_c (R.pe_lst (R.pa_c (R.pv 3) R.pa_nil)) R.pa_nil))) (R.pe_one (R.pe_callD D_L_taken hr (by first | decide | omega) rfl (R.pa_c (R.pv 1) (R.pa_c (R.pe_lst (R.pa_c (R.pv 4) R.pa_nil)) R.pa_nil))))))))))))), ?_⟩
  obtain ⟨o, eo, ho⟩ := mod_nat (cellN ns 1) 22 (by decide)
  refine ⟨_, rfl, a, ns, 1, rfl, hS, by decide, fun H1 s1 => ⟨_, _, nv o, rfl, rfl, (by show (0 : Int) < 22; decide), congrArg V.int eo, ?_⟩⟩
  refine ⟨_, rfl, a, ns, 24, rfl, s1.seq hS, by decide, fun ls H2 bs ts s2 nls els tl hB0 => ?_⟩
  have hS2 := (s1.trans s2).seq hS
  have hB := free_all hB0
  obtain ⟨y24, d24⟩ := ones hB
  have bl := hB.1
  have b0 : 0 < bs.length := by omega
  have zb : (bs.map V.ref)[0]? = some (V.ref bs[0]) := by rw [List.getElem?_map, List.getElem?_eq_getElem b0]; rfl
  have sub : ∀ n ≤ 24, All2 (IsTr c_Bid c_Only c_SoMany c_UpTo c_AnyOf c_OneOf (fun _ => True) H2 3) (bs.take n) (ts.take n) ∧ tallyL (ts.take n) = n ∧ depthL (ts.take n) ≤ 1 := fun n hn => by
    obtain ⟨i1, i2⟩ := ones (hB.take n)
    refine ⟨up_to (hB.take n) (by omega), ?_, i2⟩
    rw [i1, List.length_take]; omega
  obtain ⟨o1, o2, o3⟩ := sub o (by omega)
  obtain ⟨p1, p2, p3⟩ := sub (21 - o) (by omega)
  refine ⟨_, rfl, _, rfl, (o : Int), rfl, ls, _, rfl, SqL.of els, fun l3 h3 => ?_⟩
  rw [cut_to]
  have s3 := same_new h3 (.lst ((bs.take o).map V.ref))
  have e3 : upd H2 l3 (.lst ((bs.take o).map V.ref)) l3 = some (.lst ((bs.take o).map V.ref)) := upd_same
  generalize upd H2 l3 (.lst ((bs.take o).map V.ref)) = H3 at s3 e3 ⊢
  refine fun x4 d4 n4 m4 _ => ?_
  have sx4 : Same H3 (upd (upd H3 d4 (.own x4)) x4 (.ins c_AnyOf d4 [])) := ((Same.refl H3).upd m4 _).upd n4 _
  have o1' := o1.imp fun x y _ z => z.same s3
  refine ⟨x4, d4, l3, _, _, _, 3, rfl, upd_same, .inl rfl, sx4 _ _ e3, o1'.imp fun x y _ z => z.same sx4, by omega, by omega, fun H5 lb5 s5 hb5 => ⟨rfl, ?_⟩⟩
  obtain ⟨S5, T5⟩ := made_any (c_Several := c_Several) (any := true) n4 m4 s5 hb5 o1' rfl
  generalize upd (upd H5 lb5 (.lst ((bs.take o).map V.ref))) x4 (.ins c_AnyOf d4 (fsSev lb5)) = H6 at S5 T5 ⊢
  have S6 := s3.trans S5
  refine ⟨_, rfl, _, rfl, _, _, nv (21 - o), rfl, rfl, ?_, ((21 - o : Nat) : Int), rfl, ls, _, rfl, SqL.of (S6 _ _ els), fun l7 h7 => ?_⟩
  · show V.int (21 - (o : Int)) = V.int ((21 - o : Nat) : Int)
    congr 1; omega
  rw [cut_to]
  have s7 := same_new h7 (.lst ((bs.take (21 - o)).map V.ref))
  have e7 : upd H6 l7 (.lst ((bs.take (21 - o)).map V.ref)) l7 = some (.lst ((bs.take (21 - o)).map V.ref)) := upd_same
  generalize upd H6 l7 (.lst ((bs.take (21 - o)).map V.ref)) = H7 at s7 e7 ⊢
  refine fun x8 d8 n8 m8 _ => ?_
  have sx8 : Same H7 (upd (upd H7 d8 (.own x8)) x8 (.ins c_OneOf d8 [])) := ((Same.refl H7).upd m8 _).upd n8 _
  have p1' := p1.imp fun x y _ z => z.same (S6.trans s7)
  refine ⟨x8, d8, l7, _, _, _, 3, rfl, upd_same, .inr rfl, sx8 _ _ e7, p1'.imp fun x y _ z => z.same sx8, by omega, by omega, fun H9 lb9 s9 hb9 => ⟨rfl, ?_⟩⟩
  obtain ⟨S9, T9⟩ := made_any (c_Several := c_Several) (any := false) n8 m8 s9 hb9 p1' rfl
  generalize upd (upd H9 lb9 (.lst ((bs.take (21 - o)).map V.ref))) x8 (.ins c_OneOf d8 (fsSev lb9)) = H10 at S9 T9 ⊢
  refine ⟨(by show 2 ≤ sizeLine; decide), fun lr hr2 => ?_⟩
  have s11 := same_new hr2 (.lst [V.ref x4, .ref x8])
  have e11 : upd H10 lr (.lst [V.ref x4, .ref x8]) lr = some (.lst ([x4, x8].map V.ref)) := upd_same
  have S211 := ((S6.trans s7).trans S9).trans s11
  have T5' := (T5.same ((s7.trans S9).trans s11))
  have T9' := T9.same s11
  generalize upd H10 lr (.lst [V.ref x4, .ref x8]) = H11 at s11 e11 S211 T5' T9' ⊢
  have rowT : All2 (IsTr c_Bid c_Only c_SoMany c_UpTo c_AnyOf c_OneOf (fun _ => True) H11 4) [x4, x8] [.node true (ts.take o), .node false (ts.take (21 - o))] := a2c T5' (.one T9')
  have rowD : depthL [Tr.node true (ts.take o), .node false (ts.take (21 - o))] ≤ 2 := by show max (1 + depthL (ts.take o)) (max (1 + depthL (ts.take (21 - o))) 0) ≤ 2; omega
  have rowY : tallyL [Tr.node true (ts.take o), .node false (ts.take (21 - o))] = 23 := by show 1 + tallyL (ts.take o) + (1 + tallyL (ts.take (21 - o)) + 0) = 23; omega
  have row3 := up_to rowT (e := 3) (by omega)
  have mdR := made_list (c_Bid := c_Bid) (c_Only := c_Only) (c_SoMany := c_SoMany) (c_UpTo := c_UpTo) (c_Several := c_Several) (c_AnyOf := c_AnyOf) (c_OneOf := c_OneOf) hw e11 row3 (by omega)
  have els11 := S211 _ _ els
  refine ⟨_, rfl, _, rfl, (by show 1 ≤ sizeLine; decide), fun l12 h12 => ⟨way, l12, _, _, rfl, upd_same, mdR.same (same_new h12 _), fun H13 s13 => ⟨_, rfl, iteF ?_⟩⟩⟩
  have S13 := (same_new h12 (.lst [V.ref lr])).trans s13
  refine ⟨_, rfl, _, rfl, 23, rfl, ls, _, rfl, SqL.of (S13 _ _ els11), fun l14 h14 => ?_⟩
  rw [show cutV (bs.map V.ref) none (some 23) = (bs.take 23).map V.ref from cut_to bs 23]
  have s14 := same_new h14 (.lst ((bs.take 23).map V.ref))
  have e14 : upd H13 l14 (.lst ((bs.take 23).map V.ref)) l14 = some (.lst ((bs.take 23).map V.ref)) := upd_same
  generalize upd H13 l14 (.lst ((bs.take 23).map V.ref)) = H14 at s14 e14 ⊢
  have S14 := S13.trans s14
  obtain ⟨w1, w2, w3⟩ := sub 23 (by decide)
  have mdS := made_list (c_Bid := c_Bid) (c_Only := c_Only) (c_SoMany := c_SoMany) (c_UpTo := c_UpTo) (c_Several := c_Several) (c_AnyOf := c_AnyOf) (c_OneOf := c_OneOf) hw e14 (w1.imp fun x y _ z => z.same (S211.trans S14)) (by omega)
  refine ⟨(by show 1 ≤ sizeLine; decide), fun l15 h15 => ⟨way, l15, _, _, rfl, upd_same, mdS.same (same_new h15 _), fun H16 s16 => ⟨_, rfl, iteF ?_⟩⟩⟩
  have S16 := S14.trans ((same_new h15 (.lst [V.ref l14])).trans s16)
  have hS16 := (S211.trans S16).seq hS2
  have els16 := S16 _ _ els11
  have er16 := S16 _ _ e11
  have rowT16 := rowT.imp fun x y _ z => z.same S16
  have hT0 : IsTr c_Bid c_Only c_SoMany c_UpTo c_AnyOf c_OneOf (fun _ => True) H16 4 bs[0] ts[0] := IsTr.to 1 4 ((hB.2 0 bs[0] ts[0] (List.getElem?_eq_getElem b0) (List.getElem?_eq_getElem (by omega))).same (S211.trans S16)) (by have := one_of (hB.2 0 bs[0] ts[0] (List.getElem?_eq_getElem b0) (List.getElem?_eq_getElem (by omega))); omega)
  obtain ⟨d0, y0⟩ := one_of (hB.2 0 bs[0] ts[0] (List.getElem?_eq_getElem b0) (List.getElem?_eq_getElem (by omega)))
  refine ⟨_, rfl, ls, _, _, _, rfl, rfl, SqL.of els16, at_nat (k := 0) zb, (by show 1 ≤ sizeLine; decide), fun l17 h17 => ?_⟩
  have s17 := same_new h17 (.lst [V.ref bs[0]])
  have e17 : upd H16 l17 (.lst [V.ref bs[0]]) l17 = some (.lst ([bs[0]].map V.ref)) := upd_same
  generalize upd H16 l17 (.lst [V.ref bs[0]]) = H17 at s17 e17 ⊢
  refine ⟨_, rfl, l17, lr, _, _, rfl, rfl, e17, s17 _ _ er16, (by show 3 ≤ sizeLine; decide), fun l18 h18 => ?_⟩
  have s18 := same_new h18 (.lst (([bs[0]].map V.ref) ++ ([x4, x8].map V.ref)))
  have e18 : upd H17 l18 (.lst (([bs[0]].map V.ref) ++ ([x4, x8].map V.ref))) l18 = some (.lst ([bs[0], x4, x8].map V.ref)) := upd_same
  generalize upd H17 l18 (.lst (([bs[0]].map V.ref) ++ ([x4, x8].map V.ref))) = H18 at s18 e18 ⊢
  have S18 := s17.trans s18
  refine ⟨_, rfl, _, rfl, ls, _, _, _, rfl, rfl, SqL.of (S18 _ _ els16), at_nat (k := 0) zb, (by show 1 ≤ sizeLine; decide), fun l19 h19 => ?_⟩
  have s19 := same_new h19 (.lst [V.ref bs[0]])
  have e19 : upd H18 l19 (.lst [V.ref bs[0]]) l19 = some (.lst ([bs[0]].map V.ref)) := upd_same
  generalize upd H18 l19 (.lst [V.ref bs[0]]) = H19 at s19 e19 ⊢
  refine ⟨lr, l19, _, _, rfl, rfl, (S18.trans s19) _ _ er16, e19, (by show 3 ≤ sizeLine; decide), fun l20 h20 => ?_⟩
  have s20 := same_new h20 (.lst (([x4, x8].map V.ref) ++ ([bs[0]].map V.ref)))
  have e20 : upd H19 l20 (.lst (([x4, x8].map V.ref) ++ ([bs[0]].map V.ref))) l20 = some (.lst ([x4, x8, bs[0]].map V.ref)) := upd_same
  generalize upd H19 l20 (.lst (([x4, x8].map V.ref) ++ ([bs[0]].map V.ref))) = H20 at s20 e20 ⊢
  refine ⟨(by show 2 ≤ sizeLine; decide), fun l21 h21 => ?_⟩
  have s21 := same_new h21 (.lst [V.ref l18, .ref l20])
  have S21 := ((S18.trans s19).trans s20).trans s21
  obtain ⟨z, ez, hz⟩ := mod_nat (cellN ns 2) 2 (by decide)
  have rowT21 := rowT16.imp fun x y _ z => z.same S21
  have hT21 := hT0.same S21
  obtain ⟨lm, ew, bm⟩ : ∃ (lm : Addr), atI [V.ref l18, .ref l20] (z : Int) = some (.ref lm) ∧ BadBids K c_Bid c_Only c_SoMany c_UpTo c_Several c_AnyOf c_OneOf (upd H20 l21 (.lst [V.ref l18, .ref l20])) (.ref lm) := by
    rcases (by omega : z = 0 ∨ z = 1) with e | e <;> subst e
    · refine ⟨l18, rfl, .inr (.inr ⟨l18, [bs[0], x4, x8], [ts[0], .node true (ts.take o), .node false (ts.take (21 - o))], _, rfl, ((s19.trans s20).trans s21) _ _ e18, a2c hT21 rowT21, ?_, .inr ⟨?_, ?_⟩⟩)⟩
      · show tallyT ts[0] + tallyL [Tr.node true (ts.take o), .node false (ts.take (21 - o))] ≤ 100; omega
      · show max (depthT ts[0]) (depthL [Tr.node true (ts.take o), .node false (ts.take (21 - o))]) ≤ 3; omega
      · show 24 ≤ tallyT ts[0] + tallyL [Tr.node true (ts.take o), .node false (ts.take (21 - o))]; omega
    · refine ⟨l20, rfl, .inr (.inr ⟨l20, [x4, x8, bs[0]], [.node true (ts.take o), .node false (ts.take (21 - o)), ts[0]], _, rfl, s21 _ _ e20, All2.append rowT21 (.one hT21), ?_, .inr ⟨?_, ?_⟩⟩)⟩
      · show tallyL ([Tr.node true (ts.take o), .node false (ts.take (21 - o))] ++ [ts[0]]) ≤ 100
        rw [tallyL_append]; show _ + (tallyT ts[0] + 0) ≤ 100; omega
      · show depthL ([Tr.node true (ts.take o), .node false (ts.take (21 - o))] ++ [ts[0]]) ≤ 3
        rw [depthL_append]; show max _ (max (depthT ts[0]) 0) ≤ 3; omega
      · show 24 ≤ tallyL ([Tr.node true (ts.take o), .node false (ts.take (21 - o))] ++ [ts[0]])
        rw [tallyL_append]; show 24 ≤ _ + (tallyT ts[0] + 0); omega
  refine ⟨_, rfl, a, ns, 2, rfl, S21.seq hS16, by decide, fun H22 s22 => ⟨_, _, nv z, rfl, rfl, (by show (0 : Int) < 2; decide), congrArg V.int ez, l21, _, _, _, rfl, rfl, SqL.of (s22 _ _ upd_same), ew, ?_⟩⟩
  have S22 := S21.trans s22
  refine ⟨_, rfl, _, rfl, (by show 1 ≤ sizeLine; decide), fun l23 h23 => ⟨way, l23, _, rfl, upd_same, .inr (.inr ⟨hw, _, rfl, bm.same (s22.trans (same_new h23 _))⟩), fun H24 s24 => ⟨_, rfl, iteT ?_⟩⟩⟩
  have S24 := S22.trans ((same_new h23 (.lst [V.ref lm])).trans s24)
  refine ⟨_, rfl, _, rfl, (by show 1 ≤ sizeLine; decide), fun l25 h25 => ⟨way, l25, _, rfl, upd_same, .inr (.inr ⟨hw, .ref ls, rfl, ?_⟩), fun H26 s26 => ⟨_, rfl, iteT ?_⟩⟩⟩
  · refine BadBids.same (same_new h25 _) (.inr (.inr ⟨ls, bs, ts, _, rfl, S24 _ _ els16, (up_to hB (e := 4) (by omega)).imp fun x y _ z => z.same ((S211.trans S16).trans S24), by omega, .inr ⟨by omega, by omega⟩⟩))
  have S26 := S24.trans ((same_new h25 (.lst [V.ref ls])).trans s26)
  exact ⟨_, rfl, _, rfl, (by show 1 ≤ sizeLine; decide), fun l27 h27 => ⟨way, l27, _, _, rfl, upd_same, mdR.same ((S16.trans S26).trans (same_new h27 _)), fun H' _ => q _⟩⟩
theorem ok_law {f : Addr} {fd : FuncData} (F : Fun K "law" "law" s_law f fd) (m_self : mg "law" = some (.ref f))
    (D_L_full : DefOk P w K mg base 17 "_law_full" ["_law_script", "_law_way"] [] (sp_L_full K))
    (D_L_cell : DefOk P w K mg base 1 "_law_cell" ["_law_script", "_law_k"] [] (sp_L_cell K))
    (D_L_numbers : DefOk P w K mg base 17 "_law_numbers" ["_law_script", "_law_way"] [] (sp_L_numbers K))
    (D_L_lists : DefOk P w K mg base 17 "_law_lists" ["_law_script", "_law_way"] [] (sp_L_lists K))
    (D_L_deep : DefOk P w K mg base 17 "_law_deep" ["_law_script", "_law_way"] [] (sp_L_deep K)) : FnOk P w K mg base CX0 18 f fd ["_law_script"] (sp_law K) := by
  refine F.okQ sc_law (fun vs H Q E h => ?_) (fun cdv A outer s H vs Q E hr h => ?_)
  · obtain ⟨a, ns, rfl, _⟩ := h; rfl
  obtain ⟨a, ns, rfl, hS, h63, q⟩ := h
  refine ⟨_, (R.pss_cons (R.ps_set (i := 1) sc_law.nd rfl (Or.inl rfl) (R.pe_op (opE op_mod) (R.pe_callD D_L_cell hr (by first | decide | omega) rfl (R.pa_c (R.pv 0) (R.pa_c R.pe_int R.pa_nil))) R.pe_int))
    (R.pss_cons (R.ps_if (R.pt_cmpR op_lt (R.pv 1) R.pe_int (nomark _)) (R.pss_one (R.ps_ret (R.pe_callD D_L_numbers hr (by first | decide | omega) rfl (R.pa_c (R.pv 0) (R.pa_c (R.pv 1) R.pa_nil))))) R.pss_nil)
    (R.pss_cons (R.ps_set (i := 2) sc_law.nd rfl (Or.inl rfl) (R.pe_op (opE op_mod) (R.pe_op op_fdiv (R.pe_callD D_L_cell hr (by first | decide | omega) rfl (R.pa_c (R.pv 0) (R.pa_c R.pe_int R.pa_nil))) R.pe_int) R.pe_int))
    (R.pss_cons (R.ps_if (R.pt_cmpR op_lt (R.pv 2) R.pe_int (nomark _)) (R.pss_one (R.ps_ret (R.pe_callD D_L_lists hr (by first | decide | omega) rfl (R.pa_c (R.pv 0) (R.pa_c (R.pv 1) R.pa_nil))))) R.pss_nil)
    (R.pss_cons (R.ps_if (R.pt_cmpR op_eq (R.pv 2) R.pe_int (nomark _)) (R.pss_one (R.ps_ret (R.pe_callD D_L_deep hr (by first | decide | omega) rfl (R.pa_c (R.pv 0) (R.pa_c (R.pv 1) R.pa_nil))))) R.pss_nil)
    (R.pss_one (R.ps_ret (R.pe_callD D_L_full hr (by first | decide | omega) rfl (R.pa_c (R.pv 0) (R.pa_c (R.pv 1) R.pa_nil)))))))))), ?_⟩
  obtain ⟨w', ew, hw⟩ := mod_nat (cellN ns 0) 5 (by decide)
  obtain ⟨p, ep, hp⟩ := mod_nat (cellN ns 0 / 5) 4 (by decide)
  refine ⟨_, rfl, a, ns, 0, rfl, hS, by decide, fun H1 s1 => ⟨_, _, nv w', rfl, rfl, (by show (0 : Int) < 5; decide), congrArg V.int ew, ?_⟩⟩
  have hS1 := s1.seq hS
  refine ⟨_, rfl, _, _, rfl, rfl, _, rfl, ?_⟩
  refine ite2 (fun c => ?_) (fun c => ?_)
  · have c' : (w' : Int) < 3 := of_decide_eq_true c
    exact ⟨_, rfl, _, rfl, a, ns, w', rfl, hS1, by show w' < 3; omega, fun H' => q _⟩
  have c' : ¬ (w' : Int) < 3 := fun z => c (decide_eq_true z)
  have w34 : w' = 3 ∨ w' = 4 := by omega
  refine ⟨_, rfl, a, ns, 0, rfl, hS1, by decide, fun H2 s2 => ⟨_, _, rfl, rfl, ⟨by decide, by decide⟩, _, _, nv p, rfl, rfl, (by show (0 : Int) < 4; decide), congrArg V.int ep, ?_⟩⟩
  have hS2 := s2.seq hS1
  refine ⟨_, rfl, _, _, rfl, rfl, _, rfl, ?_⟩
  refine ite2 (fun _ => ⟨_, rfl, _, rfl, a, ns, w', rfl, hS2, w34, fun H' => q _⟩) (fun _ => ?_)
  refine ⟨_, rfl, rfl, _, rfl, ?_⟩
  refine ite2 (fun _ => ⟨_, rfl, _, rfl, a, ns, w', rfl, hS2, w34, fun H' => q _⟩) (fun _ => ?_)
  exact ⟨_, rfl, _, rfl, a, ns, w', rfl, hS2, w34, fun H' => q _⟩
end
end My


set_option Elab.async false
set_option linter.all false
set_option maxRecDepth 100000
set_option maxHeartbeats 4000000
namespace My
open PySem PySem.Spec PyProof.Rows L2 GM
theorem all_mk {l : PySem.W.OpenLaw} {w : World} {K : PySem.W.Frag} {h : Heap} {mg : Str → Option Value} {fa : Addr} (X : K.In h) (G : h.Ns mainGlobals mg) (hfa : mg "law" = some (.ref fa))
    {c_Bid c_Only c_SoMany c_UpTo c_Several c_AnyOf c_OneOf : Addr}
    (b_Bid : PySem.W.nsIn K mainGlobals "Bid" = some (some (.ref c_Bid)))
    (pg_Bid : PySem.W.plainGet K c_Bid Str.empty = true)
    (hd_Bid : PySem.W.hasDictIn K c_Bid = true)
    (po_Bid : PySem.W.plainOver K c_Bid = true)
    (sa_Bid : PySem.W.findIn K (.ref c_Bid) "__setattr__" = some (some (.builtin "object.__setattr__")))
    (mk_Bid : PySem.W.makesIn K c_Bid = true)
    (kp_Bid : PySem.W.keepIn K (.ref c_Bid) = true)
    (t1_Bid : PySem.W.findIn K (.ref c_Bid) "__class__" = some (some (.builtin "object.__class__")))
    (t2_Bid : PySem.W.specialIn K (.builtin "object.__class__") "__get__" = some (some (.builtin "getset_descriptor.__get__")))
    (t3_Bid : PySem.W.takesIn K (.builtin "object.__class__") = some true)
    (t4_Bid : PySem.W.mroIn K c_Bid (.type "object") = some true)
    (in_Bid : PySem.W.findIn K (.ref c_Bid) "__init__" = some (some (.builtin "object.__init__")))
    (b_Only : PySem.W.nsIn K mainGlobals "Only" = some (some (.ref c_Only)))
    (pg_Only : PySem.W.plainGet K c_Only Str.empty = true)
    (hd_Only : PySem.W.hasDictIn K c_Only = true)
    (po_Only : PySem.W.plainOver K c_Only = true)
    (sa_Only : PySem.W.findIn K (.ref c_Only) "__setattr__" = some (some (.builtin "object.__setattr__")))
    (mk_Only : PySem.W.makesIn K c_Only = true)
    (kp_Only : PySem.W.keepIn K (.ref c_Only) = true)
    (no_Only_bundle : PySem.W.findIn K (.ref c_Only) "bundle" = some none)
    (no_Only_amount : PySem.W.findIn K (.ref c_Only) "amount" = some none)
    (t1_Only : PySem.W.findIn K (.ref c_Only) "__class__" = some (some (.builtin "object.__class__")))
    (t2_Only : PySem.W.specialIn K (.builtin "object.__class__") "__get__" = some (some (.builtin "getset_descriptor.__get__")))
    (t3_Only : PySem.W.takesIn K (.builtin "object.__class__") = some true)
    (t4_Only : PySem.W.mroIn K c_Only (.type "object") = some true)
    (b_SoMany : PySem.W.nsIn K mainGlobals "SoMany" = some (some (.ref c_SoMany)))
    (pg_SoMany : PySem.W.plainGet K c_SoMany Str.empty = true)
    (hd_SoMany : PySem.W.hasDictIn K c_SoMany = true)
    (po_SoMany : PySem.W.plainOver K c_SoMany = true)
    (sa_SoMany : PySem.W.findIn K (.ref c_SoMany) "__setattr__" = some (some (.builtin "object.__setattr__")))
    (mk_SoMany : PySem.W.makesIn K c_SoMany = true)
    (kp_SoMany : PySem.W.keepIn K (.ref c_SoMany) = true)
    (no_SoMany_kind : PySem.W.findIn K (.ref c_SoMany) "kind" = some none)
    (no_SoMany_least : PySem.W.findIn K (.ref c_SoMany) "least" = some none)
    (no_SoMany_amount : PySem.W.findIn K (.ref c_SoMany) "amount" = some none)
    (t1_SoMany : PySem.W.findIn K (.ref c_SoMany) "__class__" = some (some (.builtin "object.__class__")))
    (t2_SoMany : PySem.W.specialIn K (.builtin "object.__class__") "__get__" = some (some (.builtin "getset_descriptor.__get__")))
    (t3_SoMany : PySem.W.takesIn K (.builtin "object.__class__") = some true)
    (t4_SoMany : PySem.W.mroIn K c_SoMany (.type "object") = some true)
    (b_UpTo : PySem.W.nsIn K mainGlobals "UpTo" = some (some (.ref c_UpTo)))
    (pg_UpTo : PySem.W.plainGet K c_UpTo Str.empty = true)
    (hd_UpTo : PySem.W.hasDictIn K c_UpTo = true)
    (po_UpTo : PySem.W.plainOver K c_UpTo = true)
    (sa_UpTo : PySem.W.findIn K (.ref c_UpTo) "__setattr__" = some (some (.builtin "object.__setattr__")))
    (mk_UpTo : PySem.W.makesIn K c_UpTo = true)
    (kp_UpTo : PySem.W.keepIn K (.ref c_UpTo) = true)
    (no_UpTo_kind : PySem.W.findIn K (.ref c_UpTo) "kind" = some none)
    (no_UpTo_most : PySem.W.findIn K (.ref c_UpTo) "most" = some none)
    (no_UpTo_each : PySem.W.findIn K (.ref c_UpTo) "each" = some none)
    (t1_UpTo : PySem.W.findIn K (.ref c_UpTo) "__class__" = some (some (.builtin "object.__class__")))
    (t2_UpTo : PySem.W.specialIn K (.builtin "object.__class__") "__get__" = some (some (.builtin "getset_descriptor.__get__")))
    (t3_UpTo : PySem.W.takesIn K (.builtin "object.__class__") = some true)
    (t4_UpTo : PySem.W.mroIn K c_UpTo (.type "object") = some true)
    (b_Several : PySem.W.nsIn K mainGlobals "Several" = some (some (.ref c_Several)))
    (pg_Several : PySem.W.plainGet K c_Several Str.empty = true)
    (hd_Several : PySem.W.hasDictIn K c_Several = true)
    (po_Several : PySem.W.plainOver K c_Several = true)
    (sa_Several : PySem.W.findIn K (.ref c_Several) "__setattr__" = some (some (.builtin "object.__setattr__")))
    (mk_Several : PySem.W.makesIn K c_Several = true)
    (kp_Several : PySem.W.keepIn K (.ref c_Several) = true)
    (no_Several_bids : PySem.W.findIn K (.ref c_Several) "bids" = some none)
    (t1_Several : PySem.W.findIn K (.ref c_Several) "__class__" = some (some (.builtin "object.__class__")))
    (t2_Several : PySem.W.specialIn K (.builtin "object.__class__") "__get__" = some (some (.builtin "getset_descriptor.__get__")))
    (t3_Several : PySem.W.takesIn K (.builtin "object.__class__") = some true)
    (t4_Several : PySem.W.mroIn K c_Several (.type "object") = some true)
    (b_AnyOf : PySem.W.nsIn K mainGlobals "AnyOf" = some (some (.ref c_AnyOf)))
    (pg_AnyOf : PySem.W.plainGet K c_AnyOf Str.empty = true)
    (hd_AnyOf : PySem.W.hasDictIn K c_AnyOf = true)
    (po_AnyOf : PySem.W.plainOver K c_AnyOf = true)
    (sa_AnyOf : PySem.W.findIn K (.ref c_AnyOf) "__setattr__" = some (some (.builtin "object.__setattr__")))
    (mk_AnyOf : PySem.W.makesIn K c_AnyOf = true)
    (kp_AnyOf : PySem.W.keepIn K (.ref c_AnyOf) = true)
    (no_AnyOf_bids : PySem.W.findIn K (.ref c_AnyOf) "bids" = some none)
    (t1_AnyOf : PySem.W.findIn K (.ref c_AnyOf) "__class__" = some (some (.builtin "object.__class__")))
    (t2_AnyOf : PySem.W.specialIn K (.builtin "object.__class__") "__get__" = some (some (.builtin "getset_descriptor.__get__")))
    (t3_AnyOf : PySem.W.takesIn K (.builtin "object.__class__") = some true)
    (t4_AnyOf : PySem.W.mroIn K c_AnyOf (.type "object") = some true)
    (b_OneOf : PySem.W.nsIn K mainGlobals "OneOf" = some (some (.ref c_OneOf)))
    (pg_OneOf : PySem.W.plainGet K c_OneOf Str.empty = true)
    (hd_OneOf : PySem.W.hasDictIn K c_OneOf = true)
    (po_OneOf : PySem.W.plainOver K c_OneOf = true)
    (sa_OneOf : PySem.W.findIn K (.ref c_OneOf) "__setattr__" = some (some (.builtin "object.__setattr__")))
    (mk_OneOf : PySem.W.makesIn K c_OneOf = true)
    (kp_OneOf : PySem.W.keepIn K (.ref c_OneOf) = true)
    (no_OneOf_bids : PySem.W.findIn K (.ref c_OneOf) "bids" = some none)
    (t1_OneOf : PySem.W.findIn K (.ref c_OneOf) "__class__" = some (some (.builtin "object.__class__")))
    (t2_OneOf : PySem.W.specialIn K (.builtin "object.__class__") "__get__" = some (some (.builtin "getset_descriptor.__get__")))
    (t3_OneOf : PySem.W.takesIn K (.builtin "object.__class__") = some true)
    (t4_OneOf : PySem.W.mroIn K c_OneOf (.type "object") = some true)
    (kit_Bid_Bid : PySem.W.kitOne K (.ref c_Bid) (.ref c_Bid) = some true)
    (kit_Only_Bid : PySem.W.kitOne K (.ref c_Only) (.ref c_Bid) = some true)
    (kit_SoMany_Bid : PySem.W.kitOne K (.ref c_SoMany) (.ref c_Bid) = some true)
    (kit_UpTo_Bid : PySem.W.kitOne K (.ref c_UpTo) (.ref c_Bid) = some true)
    (kit_Several_Bid : PySem.W.kitOne K (.ref c_Several) (.ref c_Bid) = some true)
    (kit_AnyOf_Bid : PySem.W.kitOne K (.ref c_AnyOf) (.ref c_Bid) = some true)
    (kit_OneOf_Bid : PySem.W.kitOne K (.ref c_OneOf) (.ref c_Bid) = some true)
    {f0 : Addr} {od0 an0 : Option Addr} {sl0 : Array (Option Value)} {oc0 kV0 dc0 pm0 cd0 ct0 : Value}
    (a0 : PySem.W.nsIn K mainGlobals "is_whole" = some (some (.ref f0))) (l0 : K.lookup f0 = some ⟨oc0, od0, .func (PySem.W.fnOf "is_whole" "is_whole" (defArgs s_P_is_whole) (defBody s_P_is_whole) (defScope s_P_is_whole) .none kV0 dc0 pm0 an0 cd0 ct0), sl0⟩) (c0 : PySem.W.codeIn K cd0 "is_whole" = true) (k0 : PySem.W.keepIn K (.ref f0) = true)
    {f1 : Addr} {od1 an1 : Option Addr} {sl1 : Array (Option Value)} {oc1 kV1 dc1 pm1 cd1 ct1 : Value}
    (a1 : PySem.W.nsIn K mainGlobals "is_within" = some (some (.ref f1))) (l1 : K.lookup f1 = some ⟨oc1, od1, .func (PySem.W.fnOf "is_within" "is_within" (defArgs s_P_is_within) (defBody s_P_is_within) (defScope s_P_is_within) .none kV1 dc1 pm1 an1 cd1 ct1), sl1⟩) (c1 : PySem.W.codeIn K cd1 "is_within" = true) (k1 : PySem.W.keepIn K (.ref f1) = true)
    {f2 : Addr} {od2 an2 : Option Addr} {sl2 : Array (Option Value)} {oc2 kV2 dc2 pm2 cd2 ct2 : Value}
    (a2 : PySem.W.nsIn K mainGlobals "things_in" = some (some (.ref f2))) (l2 : K.lookup f2 = some ⟨oc2, od2, .func (PySem.W.fnOf "things_in" "things_in" (defArgs s_P_things_in) (defBody s_P_things_in) (defScope s_P_things_in) .none kV2 dc2 pm2 an2 cd2 ct2), sl2⟩) (c2 : PySem.W.codeIn K cd2 "things_in" = true) (k2 : PySem.W.keepIn K (.ref f2) = true)
    {f3 : Addr} {od3 an3 : Option Addr} {sl3 : Array (Option Value)} {oc3 kV3 dc3 pm3 cd3 ct3 : Value}
    (a3 : PySem.W.nsIn K mainGlobals "size_of" = some (some (.ref f3))) (l3 : K.lookup f3 = some ⟨oc3, od3, .func (PySem.W.fnOf "size_of" "size_of" (defArgs s_P_size_of) (defBody s_P_size_of) (defScope s_P_size_of) .none kV3 dc3 pm3 an3 cd3 ct3), sl3⟩) (c3 : PySem.W.codeIn K cd3 "size_of" = true) (k3 : PySem.W.keepIn K (.ref f3) = true)
    {f4 : Addr} {od4 an4 : Option Addr} {sl4 : Array (Option Value)} {oc4 kV4 dc4 pm4 cd4 ct4 : Value}
    (a4 : PySem.W.nsIn K mainGlobals "holds" = some (some (.ref f4))) (l4 : K.lookup f4 = some ⟨oc4, od4, .func (PySem.W.fnOf "holds" "holds" (defArgs s_P_holds) (defBody s_P_holds) (defScope s_P_holds) .none kV4 dc4 pm4 an4 cd4 ct4), sl4⟩) (c4 : PySem.W.codeIn K cd4 "holds" = true) (k4 : PySem.W.keepIn K (.ref f4) = true)
    {f5 : Addr} {od5 an5 : Option Addr} {sl5 : Array (Option Value)} {oc5 kV5 dc5 pm5 cd5 ct5 : Value}
    (a5 : PySem.W.nsIn K mainGlobals "parts_of" = some (some (.ref f5))) (l5 : K.lookup f5 = some ⟨oc5, od5, .func (PySem.W.fnOf "parts_of" "parts_of" (defArgs s_P_parts_of) (defBody s_P_parts_of) (defScope s_P_parts_of) .none kV5 dc5 pm5 an5 cd5 ct5), sl5⟩) (c5 : PySem.W.codeIn K cd5 "parts_of" = true) (k5 : PySem.W.keepIn K (.ref f5) = true)
    {f6 : Addr} {od6 an6 : Option Addr} {sl6 : Array (Option Value)} {oc6 kV6 dc6 pm6 cd6 ct6 : Value}
    (a6 : PySem.W.nsIn K mainGlobals "check_bundle" = some (some (.ref f6))) (l6 : K.lookup f6 = some ⟨oc6, od6, .func (PySem.W.fnOf "check_bundle" "check_bundle" (defArgs s_P_check_bundle) (defBody s_P_check_bundle) (defScope s_P_check_bundle) .none kV6 dc6 pm6 an6 cd6 ct6), sl6⟩) (c6 : PySem.W.codeIn K cd6 "check_bundle" = true) (k6 : PySem.W.keepIn K (.ref f6) = true)
    {f7 : Addr} {od7 an7 : Option Addr} {sl7 : Array (Option Value)} {oc7 kV7 dc7 pm7 cd7 ct7 : Value}
    (a7 : PySem.W.nsIn K mainGlobals "check_so_many" = some (some (.ref f7))) (l7 : K.lookup f7 = some ⟨oc7, od7, .func (PySem.W.fnOf "check_so_many" "check_so_many" (defArgs s_P_check_so_many) (defBody s_P_check_so_many) (defScope s_P_check_so_many) .none kV7 dc7 pm7 an7 cd7 ct7), sl7⟩) (c7 : PySem.W.codeIn K cd7 "check_so_many" = true) (k7 : PySem.W.keepIn K (.ref f7) = true)
    {f8 : Addr} {od8 an8 : Option Addr} {sl8 : Array (Option Value)} {oc8 kV8 dc8 pm8 cd8 ct8 : Value}
    (a8 : PySem.W.nsIn K mainGlobals "check_amount" = some (some (.ref f8))) (l8 : K.lookup f8 = some ⟨oc8, od8, .func (PySem.W.fnOf "check_amount" "check_amount" (defArgs s_P_check_amount) (defBody s_P_check_amount) (defScope s_P_check_amount) .none kV8 dc8 pm8 an8 cd8 ct8), sl8⟩) (c8 : PySem.W.codeIn K cd8 "check_amount" = true) (k8 : PySem.W.keepIn K (.ref f8) = true)
    {f9 : Addr} {od9 an9 : Option Addr} {sl9 : Array (Option Value)} {oc9 kV9 dc9 pm9 cd9 ct9 : Value}
    (a9 : PySem.W.nsIn K mainGlobals "check_bids" = some (some (.ref f9))) (l9 : K.lookup f9 = some ⟨oc9, od9, .func (PySem.W.fnOf "check_bids" "check_bids" (defArgs s_P_check_bids) (defBody s_P_check_bids) (defScope s_P_check_bids) .none kV9 dc9 pm9 an9 cd9 ct9), sl9⟩) (c9 : PySem.W.codeIn K cd9 "check_bids" = true) (k9 : PySem.W.keepIn K (.ref f9) = true)
    {f10 : Addr} {od10 an10 : Option Addr} {sl10 : Array (Option Value)} {oc10 kV10 dc10 pm10 cd10 ct10 : Value}
    (a10 : PySem.W.nsIn K mainGlobals "depth_over" = some (some (.ref f10))) (l10 : K.lookup f10 = some ⟨oc10, od10, .func (PySem.W.fnOf "depth_over" "depth_over" (defArgs s_P_depth_over) (defBody s_P_depth_over) (defScope s_P_depth_over) .none kV10 dc10 pm10 an10 cd10 ct10), sl10⟩) (c10 : PySem.W.codeIn K cd10 "depth_over" = true) (k10 : PySem.W.keepIn K (.ref f10) = true)
    {f11 : Addr} {od11 an11 : Option Addr} {sl11 : Array (Option Value)} {oc11 kV11 dc11 pm11 cd11 ct11 : Value}
    (a11 : PySem.W.nsIn K mainGlobals "tally_over" = some (some (.ref f11))) (l11 : K.lookup f11 = some ⟨oc11, od11, .func (PySem.W.fnOf "tally_over" "tally_over" (defArgs s_P_tally_over) (defBody s_P_tally_over) (defScope s_P_tally_over) .none kV11 dc11 pm11 an11 cd11 ct11), sl11⟩) (c11 : PySem.W.codeIn K cd11 "tally_over" = true) (k11 : PySem.W.keepIn K (.ref f11) = true)
    {f12 : Addr} {od12 an12 : Option Addr} {sl12 : Array (Option Value)} {oc12 kV12 dc12 pm12 cd12 ct12 : Value}
    (a12 : PySem.W.nsIn K mainGlobals "worths_of_nothing" = some (some (.ref f12))) (l12 : K.lookup f12 = some ⟨oc12, od12, .func (PySem.W.fnOf "worths_of_nothing" "worths_of_nothing" (defArgs s_P_worths_of_nothing) (defBody s_P_worths_of_nothing) (defScope s_P_worths_of_nothing) .none kV12 dc12 pm12 an12 cd12 ct12), sl12⟩) (c12 : PySem.W.codeIn K cd12 "worths_of_nothing" = true) (k12 : PySem.W.keepIn K (.ref f12) = true)
    {f13 : Addr} {od13 an13 : Option Addr} {sl13 : Array (Option Value)} {oc13 kV13 dc13 pm13 cd13 ct13 : Value}
    (a13 : PySem.W.nsIn K mainGlobals "shared_out" = some (some (.ref f13))) (l13 : K.lookup f13 = some ⟨oc13, od13, .func (PySem.W.fnOf "shared_out" "shared_out" (defArgs s_P_shared_out) (defBody s_P_shared_out) (defScope s_P_shared_out) .none kV13 dc13 pm13 an13 cd13 ct13), sl13⟩) (c13 : PySem.W.codeIn K cd13 "shared_out" = true) (k13 : PySem.W.keepIn K (.ref f13) = true)
    {f14 : Addr} {od14 an14 : Option Addr} {sl14 : Array (Option Value)} {oc14 kV14 dc14 pm14 cd14 ct14 : Value}
    (a14 : PySem.W.nsIn K mainGlobals "best_share" = some (some (.ref f14))) (l14 : K.lookup f14 = some ⟨oc14, od14, .func (PySem.W.fnOf "best_share" "best_share" (defArgs s_P_best_share) (defBody s_P_best_share) (defScope s_P_best_share) .none kV14 dc14 pm14 an14 cd14 ct14), sl14⟩) (c14 : PySem.W.codeIn K cd14 "best_share" = true) (k14 : PySem.W.keepIn K (.ref f14) = true)
    {f15 : Addr} {od15 an15 : Option Addr} {sl15 : Array (Option Value)} {oc15 kV15 dc15 pm15 cd15 ct15 : Value}
    (a15 : PySem.W.nsIn K mainGlobals "greater_of" = some (some (.ref f15))) (l15 : K.lookup f15 = some ⟨oc15, od15, .func (PySem.W.fnOf "greater_of" "greater_of" (defArgs s_P_greater_of) (defBody s_P_greater_of) (defScope s_P_greater_of) .none kV15 dc15 pm15 an15 cd15 ct15), sl15⟩) (c15 : PySem.W.codeIn K cd15 "greater_of" = true) (k15 : PySem.W.keepIn K (.ref f15) = true)
    {f16 : Addr} {od16 an16 : Option Addr} {sl16 : Array (Option Value)} {oc16 kV16 dc16 pm16 cd16 ct16 : Value}
    (a16 : PySem.W.nsIn K mainGlobals "_law_cell" = some (some (.ref f16))) (l16 : K.lookup f16 = some ⟨oc16, od16, .func (PySem.W.fnOf "_law_cell" "_law_cell" (defArgs s_L_cell) (defBody s_L_cell) (defScope s_L_cell) .none kV16 dc16 pm16 an16 cd16 ct16), sl16⟩) (c16 : PySem.W.codeIn K cd16 "_law_cell" = true) (k16 : PySem.W.keepIn K (.ref f16) = true)
    {f17 : Addr} {od17 an17 : Option Addr} {sl17 : Array (Option Value)} {oc17 kV17 dc17 pm17 cd17 ct17 : Value}
    (a17 : PySem.W.nsIn K mainGlobals "_law_made" = some (some (.ref f17))) (l17 : K.lookup f17 = some ⟨oc17, od17, .func (PySem.W.fnOf "_law_made" "_law_made" (defArgs s_L_made) (defBody s_L_made) (defScope s_L_made) .none kV17 dc17 pm17 an17 cd17 ct17), sl17⟩) (c17 : PySem.W.codeIn K cd17 "_law_made" = true) (k17 : PySem.W.keepIn K (.ref f17) = true)
    {f18 : Addr} {od18 an18 : Option Addr} {sl18 : Array (Option Value)} {oc18 kV18 dc18 pm18 cd18 ct18 : Value}
    (a18 : PySem.W.nsIn K mainGlobals "_law_other" = some (some (.ref f18))) (l18 : K.lookup f18 = some ⟨oc18, od18, .func (PySem.W.fnOf "_law_other" "_law_other" (defArgs s_L_other) (defBody s_L_other) (defScope s_L_other) .none kV18 dc18 pm18 an18 cd18 ct18), sl18⟩) (c18 : PySem.W.codeIn K cd18 "_law_other" = true) (k18 : PySem.W.keepIn K (.ref f18) = true)
    {f19 : Addr} {od19 an19 : Option Addr} {sl19 : Array (Option Value)} {oc19 kV19 dc19 pm19 cd19 ct19 : Value}
    (a19 : PySem.W.nsIn K mainGlobals "_law_by_class" = some (some (.ref f19))) (l19 : K.lookup f19 = some ⟨oc19, od19, .func (PySem.W.fnOf "_law_by_class" "_law_by_class" (defArgs s_L_by_class) (defBody s_L_by_class) (defScope s_L_by_class) .none kV19 dc19 pm19 an19 cd19 ct19), sl19⟩) (c19 : PySem.W.codeIn K cd19 "_law_by_class" = true) (k19 : PySem.W.keepIn K (.ref f19) = true)
    {f20 : Addr} {od20 an20 : Option Addr} {sl20 : Array (Option Value)} {oc20 kV20 dc20 pm20 cd20 ct20 : Value}
    (a20 : PySem.W.nsIn K mainGlobals "_law_by_base" = some (some (.ref f20))) (l20 : K.lookup f20 = some ⟨oc20, od20, .func (PySem.W.fnOf "_law_by_base" "_law_by_base" (defArgs s_L_by_base) (defBody s_L_by_base) (defScope s_L_by_base) .none kV20 dc20 pm20 an20 cd20 ct20), sl20⟩) (c20 : PySem.W.codeIn K cd20 "_law_by_base" = true) (k20 : PySem.W.keepIn K (.ref f20) = true)
    {f21 : Addr} {od21 an21 : Option Addr} {sl21 : Array (Option Value)} {oc21 kV21 dc21 pm21 cd21 ct21 : Value}
    (a21 : PySem.W.nsIn K mainGlobals "_law_refused" = some (some (.ref f21))) (l21 : K.lookup f21 = some ⟨oc21, od21, .func (PySem.W.fnOf "_law_refused" "_law_refused" (defArgs s_L_refused) (defBody s_L_refused) (defScope s_L_refused) .none kV21 dc21 pm21 an21 cd21 ct21), sl21⟩) (c21 : PySem.W.codeIn K cd21 "_law_refused" = true) (k21 : PySem.W.keepIn K (.ref f21) = true)
    {f22 : Addr} {od22 an22 : Option Addr} {sl22 : Array (Option Value)} {oc22 kV22 dc22 pm22 cd22 ct22 : Value}
    (a22 : PySem.W.nsIn K mainGlobals "_law_taken" = some (some (.ref f22))) (l22 : K.lookup f22 = some ⟨oc22, od22, .func (PySem.W.fnOf "_law_taken" "_law_taken" (defArgs s_L_taken) (defBody s_L_taken) (defScope s_L_taken) .none kV22 dc22 pm22 an22 cd22 ct22), sl22⟩) (c22 : PySem.W.codeIn K cd22 "_law_taken" = true) (k22 : PySem.W.keepIn K (.ref f22) = true)
    {f23 : Addr} {od23 an23 : Option Addr} {sl23 : Array (Option Value)} {oc23 kV23 dc23 pm23 cd23 ct23 : Value}
    (a23 : PySem.W.nsIn K mainGlobals "_law_within" = some (some (.ref f23))) (l23 : K.lookup f23 = some ⟨oc23, od23, .func (PySem.W.fnOf "_law_within" "_law_within" (defArgs s_L_within) (defBody s_L_within) (defScope s_L_within) .none kV23 dc23 pm23 an23 cd23 ct23), sl23⟩) (c23 : PySem.W.codeIn K cd23 "_law_within" = true) (k23 : PySem.W.keepIn K (.ref f23) = true)
    {f24 : Addr} {od24 an24 : Option Addr} {sl24 : Array (Option Value)} {oc24 kV24 dc24 pm24 cd24 ct24 : Value}
    (a24 : PySem.W.nsIn K mainGlobals "_law_odd" = some (some (.ref f24))) (l24 : K.lookup f24 = some ⟨oc24, od24, .func (PySem.W.fnOf "_law_odd" "_law_odd" (defArgs s_L_odd) (defBody s_L_odd) (defScope s_L_odd) .none kV24 dc24 pm24 an24 cd24 ct24), sl24⟩) (c24 : PySem.W.codeIn K cd24 "_law_odd" = true) (k24 : PySem.W.keepIn K (.ref f24) = true)
    {f25 : Addr} {od25 an25 : Option Addr} {sl25 : Array (Option Value)} {oc25 kV25 dc25 pm25 cd25 ct25 : Value}
    (a25 : PySem.W.nsIn K mainGlobals "_law_numbers" = some (some (.ref f25))) (l25 : K.lookup f25 = some ⟨oc25, od25, .func (PySem.W.fnOf "_law_numbers" "_law_numbers" (defArgs s_L_numbers) (defBody s_L_numbers) (defScope s_L_numbers) .none kV25 dc25 pm25 an25 cd25 ct25), sl25⟩) (c25 : PySem.W.codeIn K cd25 "_law_numbers" = true) (k25 : PySem.W.keepIn K (.ref f25) = true)
    {f26 : Addr} {od26 an26 : Option Addr} {sl26 : Array (Option Value)} {oc26 kV26 dc26 pm26 cd26 ct26 : Value}
    (a26 : PySem.W.nsIn K mainGlobals "_law_some" = some (some (.ref f26))) (l26 : K.lookup f26 = some ⟨oc26, od26, .func (PySem.W.fnOf "_law_some" "_law_some" (defArgs s_L_some) (defBody s_L_some) (defScope s_L_some) .none kV26 dc26 pm26 an26 cd26 ct26), sl26⟩) (c26 : PySem.W.codeIn K cd26 "_law_some" = true) (k26 : PySem.W.keepIn K (.ref f26) = true)
    {f27 : Addr} {od27 an27 : Option Addr} {sl27 : Array (Option Value)} {oc27 kV27 dc27 pm27 cd27 ct27 : Value}
    (a27 : PySem.W.nsIn K mainGlobals "_law_lists" = some (some (.ref f27))) (l27 : K.lookup f27 = some ⟨oc27, od27, .func (PySem.W.fnOf "_law_lists" "_law_lists" (defArgs s_L_lists) (defBody s_L_lists) (defScope s_L_lists) .none kV27 dc27 pm27 an27 cd27 ct27), sl27⟩) (c27 : PySem.W.codeIn K cd27 "_law_lists" = true) (k27 : PySem.W.keepIn K (.ref f27) = true)
    {f28 : Addr} {od28 an28 : Option Addr} {sl28 : Array (Option Value)} {oc28 kV28 dc28 pm28 cd28 ct28 : Value}
    (a28 : PySem.W.nsIn K mainGlobals "_law_deep" = some (some (.ref f28))) (l28 : K.lookup f28 = some ⟨oc28, od28, .func (PySem.W.fnOf "_law_deep" "_law_deep" (defArgs s_L_deep) (defBody s_L_deep) (defScope s_L_deep) .none kV28 dc28 pm28 an28 cd28 ct28), sl28⟩) (c28 : PySem.W.codeIn K cd28 "_law_deep" = true) (k28 : PySem.W.keepIn K (.ref f28) = true)
    {f29 : Addr} {od29 an29 : Option Addr} {sl29 : Array (Option Value)} {oc29 kV29 dc29 pm29 cd29 ct29 : Value}
    (a29 : PySem.W.nsIn K mainGlobals "_law_full" = some (some (.ref f29))) (l29 : K.lookup f29 = some ⟨oc29, od29, .func (PySem.W.fnOf "_law_full" "_law_full" (defArgs s_L_full) (defBody s_L_full) (defScope s_L_full) .none kV29 dc29 pm29 an29 cd29 ct29), sl29⟩) (c29 : PySem.W.codeIn K cd29 "_law_full" = true) (k29 : PySem.W.keepIn K (.ref f29) = true)
    {f30 : Addr} {od30 an30 : Option Addr} {sl30 : Array (Option Value)} {oc30 kV30 dc30 pm30 cd30 ct30 : Value}
    (a30 : PySem.W.nsIn K mainGlobals "law" = some (some (.ref f30))) (l30 : K.lookup f30 = some ⟨oc30, od30, .func (PySem.W.fnOf "law" "law" (defArgs s_law) (defBody s_law) (defScope s_law) .none kV30 dc30 pm30 an30 cd30 ct30), sl30⟩) (c30 : PySem.W.codeIn K cd30 "law" = true) (k30 : PySem.W.keepIn K (.ref f30) = true)
    {f31 : Addr} {od31 an31 : Option Addr} {sl31 : Array (Option Value)} {oc31 kV31 dc31 pm31 cd31 ct31 : Value}
    (a31 : PySem.W.findIn K (.ref c_Bid) "worths" = some (some (.ref f31))) (l31 : K.lookup f31 = some ⟨oc31, od31, .func (PySem.W.fnOf "worths" "Bid.worths" (defArgs s_M_Bid_worths) (defBody s_M_Bid_worths) (defScope s_M_Bid_worths) .none kV31 dc31 pm31 an31 cd31 ct31), sl31⟩) (c31 : PySem.W.codeIn K cd31 "Bid.worths" = true) (k31 : PySem.W.keepIn K (.ref f31) = true) (n31 : PySem.W.isFn K (.ref f31) = true)
    (i31_Several : PySem.W.findIn K (.ref c_Several) "worths" = some (some (.ref f31)))
    {f32 : Addr} {od32 an32 : Option Addr} {sl32 : Array (Option Value)} {oc32 kV32 dc32 pm32 cd32 ct32 : Value}
    (a32 : PySem.W.findIn K (.ref c_Bid) "depth" = some (some (.ref f32))) (l32 : K.lookup f32 = some ⟨oc32, od32, .func (PySem.W.fnOf "depth" "Bid.depth" (defArgs s_M_Bid_depth) (defBody s_M_Bid_depth) (defScope s_M_Bid_depth) .none kV32 dc32 pm32 an32 cd32 ct32), sl32⟩) (c32 : PySem.W.codeIn K cd32 "Bid.depth" = true) (k32 : PySem.W.keepIn K (.ref f32) = true) (n32 : PySem.W.isFn K (.ref f32) = true)
    (i32_Only : PySem.W.findIn K (.ref c_Only) "depth" = some (some (.ref f32)))
    (i32_SoMany : PySem.W.findIn K (.ref c_SoMany) "depth" = some (some (.ref f32)))
    (i32_UpTo : PySem.W.findIn K (.ref c_UpTo) "depth" = some (some (.ref f32)))
    {f33 : Addr} {od33 an33 : Option Addr} {sl33 : Array (Option Value)} {oc33 kV33 dc33 pm33 cd33 ct33 : Value}
    (a33 : PySem.W.findIn K (.ref c_Bid) "tally" = some (some (.ref f33))) (l33 : K.lookup f33 = some ⟨oc33, od33, .func (PySem.W.fnOf "tally" "Bid.tally" (defArgs s_M_Bid_tally) (defBody s_M_Bid_tally) (defScope s_M_Bid_tally) .none kV33 dc33 pm33 an33 cd33 ct33), sl33⟩) (c33 : PySem.W.codeIn K cd33 "Bid.tally" = true) (k33 : PySem.W.keepIn K (.ref f33) = true) (n33 : PySem.W.isFn K (.ref f33) = true)
    (i33_Only : PySem.W.findIn K (.ref c_Only) "tally" = some (some (.ref f33)))
    (i33_SoMany : PySem.W.findIn K (.ref c_SoMany) "tally" = some (some (.ref f33)))
    (i33_UpTo : PySem.W.findIn K (.ref c_UpTo) "tally" = some (some (.ref f33)))
    {f34 : Addr} {od34 an34 : Option Addr} {sl34 : Array (Option Value)} {oc34 kV34 dc34 pm34 cd34 ct34 : Value}
    (a34 : PySem.W.findIn K (.ref c_Only) "__init__" = some (some (.ref f34))) (l34 : K.lookup f34 = some ⟨oc34, od34, .func (PySem.W.fnOf "__init__" "Only.__init__" (defArgs s_M_Only___init__) (defBody s_M_Only___init__) (defScope s_M_Only___init__) .none kV34 dc34 pm34 an34 cd34 ct34), sl34⟩) (c34 : PySem.W.codeIn K cd34 "Only.__init__" = true) (k34 : PySem.W.keepIn K (.ref f34) = true) (n34 : PySem.W.isFn K (.ref f34) = true)
    {f35 : Addr} {od35 an35 : Option Addr} {sl35 : Array (Option Value)} {oc35 kV35 dc35 pm35 cd35 ct35 : Value}
    (a35 : PySem.W.findIn K (.ref c_Only) "worths" = some (some (.ref f35))) (l35 : K.lookup f35 = some ⟨oc35, od35, .func (PySem.W.fnOf "worths" "Only.worths" (defArgs s_M_Only_worths) (defBody s_M_Only_worths) (defScope s_M_Only_worths) .none kV35 dc35 pm35 an35 cd35 ct35), sl35⟩) (c35 : PySem.W.codeIn K cd35 "Only.worths" = true) (k35 : PySem.W.keepIn K (.ref f35) = true) (n35 : PySem.W.isFn K (.ref f35) = true)
    {f36 : Addr} {od36 an36 : Option Addr} {sl36 : Array (Option Value)} {oc36 kV36 dc36 pm36 cd36 ct36 : Value}
    (a36 : PySem.W.findIn K (.ref c_SoMany) "__init__" = some (some (.ref f36))) (l36 : K.lookup f36 = some ⟨oc36, od36, .func (PySem.W.fnOf "__init__" "SoMany.__init__" (defArgs s_M_SoMany___init__) (defBody s_M_SoMany___init__) (defScope s_M_SoMany___init__) .none kV36 dc36 pm36 an36 cd36 ct36), sl36⟩) (c36 : PySem.W.codeIn K cd36 "SoMany.__init__" = true) (k36 : PySem.W.keepIn K (.ref f36) = true) (n36 : PySem.W.isFn K (.ref f36) = true)
    {f37 : Addr} {od37 an37 : Option Addr} {sl37 : Array (Option Value)} {oc37 kV37 dc37 pm37 cd37 ct37 : Value}
    (a37 : PySem.W.findIn K (.ref c_SoMany) "worths" = some (some (.ref f37))) (l37 : K.lookup f37 = some ⟨oc37, od37, .func (PySem.W.fnOf "worths" "SoMany.worths" (defArgs s_M_SoMany_worths) (defBody s_M_SoMany_worths) (defScope s_M_SoMany_worths) .none kV37 dc37 pm37 an37 cd37 ct37), sl37⟩) (c37 : PySem.W.codeIn K cd37 "SoMany.worths" = true) (k37 : PySem.W.keepIn K (.ref f37) = true) (n37 : PySem.W.isFn K (.ref f37) = true)
    {f38 : Addr} {od38 an38 : Option Addr} {sl38 : Array (Option Value)} {oc38 kV38 dc38 pm38 cd38 ct38 : Value}
    (a38 : PySem.W.findIn K (.ref c_UpTo) "__init__" = some (some (.ref f38))) (l38 : K.lookup f38 = some ⟨oc38, od38, .func (PySem.W.fnOf "__init__" "UpTo.__init__" (defArgs s_M_UpTo___init__) (defBody s_M_UpTo___init__) (defScope s_M_UpTo___init__) .none kV38 dc38 pm38 an38 cd38 ct38), sl38⟩) (c38 : PySem.W.codeIn K cd38 "UpTo.__init__" = true) (k38 : PySem.W.keepIn K (.ref f38) = true) (n38 : PySem.W.isFn K (.ref f38) = true)
    {f39 : Addr} {od39 an39 : Option Addr} {sl39 : Array (Option Value)} {oc39 kV39 dc39 pm39 cd39 ct39 : Value}
    (a39 : PySem.W.findIn K (.ref c_UpTo) "worths" = some (some (.ref f39))) (l39 : K.lookup f39 = some ⟨oc39, od39, .func (PySem.W.fnOf "worths" "UpTo.worths" (defArgs s_M_UpTo_worths) (defBody s_M_UpTo_worths) (defScope s_M_UpTo_worths) .none kV39 dc39 pm39 an39 cd39 ct39), sl39⟩) (c39 : PySem.W.codeIn K cd39 "UpTo.worths" = true) (k39 : PySem.W.keepIn K (.ref f39) = true) (n39 : PySem.W.isFn K (.ref f39) = true)
    {f40 : Addr} {od40 an40 : Option Addr} {sl40 : Array (Option Value)} {oc40 kV40 dc40 pm40 cd40 ct40 : Value}
    (a40 : PySem.W.findIn K (.ref c_Several) "__init__" = some (some (.ref f40))) (l40 : K.lookup f40 = some ⟨oc40, od40, .func (PySem.W.fnOf "__init__" "Several.__init__" (defArgs s_M_Several___init__) (defBody s_M_Several___init__) (defScope s_M_Several___init__) .none kV40 dc40 pm40 an40 cd40 ct40), sl40⟩) (c40 : PySem.W.codeIn K cd40 "Several.__init__" = true) (k40 : PySem.W.keepIn K (.ref f40) = true) (n40 : PySem.W.isFn K (.ref f40) = true)
    (i40_AnyOf : PySem.W.findIn K (.ref c_AnyOf) "__init__" = some (some (.ref f40)))
    (i40_OneOf : PySem.W.findIn K (.ref c_OneOf) "__init__" = some (some (.ref f40)))
    {f41 : Addr} {od41 an41 : Option Addr} {sl41 : Array (Option Value)} {oc41 kV41 dc41 pm41 cd41 ct41 : Value}
    (a41 : PySem.W.findIn K (.ref c_Several) "depth" = some (some (.ref f41))) (l41 : K.lookup f41 = some ⟨oc41, od41, .func (PySem.W.fnOf "depth" "Several.depth" (defArgs s_M_Several_depth) (defBody s_M_Several_depth) (defScope s_M_Several_depth) .none kV41 dc41 pm41 an41 cd41 ct41), sl41⟩) (c41 : PySem.W.codeIn K cd41 "Several.depth" = true) (k41 : PySem.W.keepIn K (.ref f41) = true) (n41 : PySem.W.isFn K (.ref f41) = true)
    (i41_AnyOf : PySem.W.findIn K (.ref c_AnyOf) "depth" = some (some (.ref f41)))
    (i41_OneOf : PySem.W.findIn K (.ref c_OneOf) "depth" = some (some (.ref f41)))
    {f42 : Addr} {od42 an42 : Option Addr} {sl42 : Array (Option Value)} {oc42 kV42 dc42 pm42 cd42 ct42 : Value}
    (a42 : PySem.W.findIn K (.ref c_Several) "tally" = some (some (.ref f42))) (l42 : K.lookup f42 = some ⟨oc42, od42, .func (PySem.W.fnOf "tally" "Several.tally" (defArgs s_M_Several_tally) (defBody s_M_Several_tally) (defScope s_M_Several_tally) .none kV42 dc42 pm42 an42 cd42 ct42), sl42⟩) (c42 : PySem.W.codeIn K cd42 "Several.tally" = true) (k42 : PySem.W.keepIn K (.ref f42) = true) (n42 : PySem.W.isFn K (.ref f42) = true)
    (i42_AnyOf : PySem.W.findIn K (.ref c_AnyOf) "tally" = some (some (.ref f42)))
    (i42_OneOf : PySem.W.findIn K (.ref c_OneOf) "tally" = some (some (.ref f42)))
    {f43 : Addr} {od43 an43 : Option Addr} {sl43 : Array (Option Value)} {oc43 kV43 dc43 pm43 cd43 ct43 : Value}
    (a43 : PySem.W.findIn K (.ref c_AnyOf) "worths" = some (some (.ref f43))) (l43 : K.lookup f43 = some ⟨oc43, od43, .func (PySem.W.fnOf "worths" "AnyOf.worths" (defArgs s_M_AnyOf_worths) (defBody s_M_AnyOf_worths) (defScope s_M_AnyOf_worths) .none kV43 dc43 pm43 an43 cd43 ct43), sl43⟩) (c43 : PySem.W.codeIn K cd43 "AnyOf.worths" = true) (k43 : PySem.W.keepIn K (.ref f43) = true) (n43 : PySem.W.isFn K (.ref f43) = true)
    {f44 : Addr} {od44 an44 : Option Addr} {sl44 : Array (Option Value)} {oc44 kV44 dc44 pm44 cd44 ct44 : Value}
    (a44 : PySem.W.findIn K (.ref c_OneOf) "worths" = some (some (.ref f44))) (l44 : K.lookup f44 = some ⟨oc44, od44, .func (PySem.W.fnOf "worths" "OneOf.worths" (defArgs s_M_OneOf_worths) (defBody s_M_OneOf_worths) (defScope s_M_OneOf_worths) .none kV44 dc44 pm44 an44 cd44 ct44), sl44⟩) (c44 : PySem.W.codeIn K cd44 "OneOf.worths" = true) (k44 : PySem.W.keepIn K (.ref f44) = true) (n44 : PySem.W.isFn K (.ref f44) = true)
    (z_isinstance : PySem.W.nsIn K mainGlobals "isinstance" = some none)
    (z_int : PySem.W.nsIn K mainGlobals "int" = some none)
    (z_bool : PySem.W.nsIn K mainGlobals "bool" = some none)
    (z_range : PySem.W.nsIn K mainGlobals "range" = some none)
    (z_len : PySem.W.nsIn K mainGlobals "len" = some none)
    (z_list : PySem.W.nsIn K mainGlobals "list" = some none)
    (z_max : PySem.W.nsIn K mainGlobals "max" = some none)
    (z_sum : PySem.W.nsIn K mainGlobals "sum" = some none)
    (z_zip : PySem.W.nsIn K mainGlobals "zip" = some none)
    (z_ValueError : PySem.W.nsIn K mainGlobals "ValueError" = some none)
    (z_min : PySem.W.nsIn K mainGlobals "min" = some none)
    {C DH : Addr} {dH dC : Option Addr} {cH cC : ClassData} {sH sC : Array (Option Value)} {d_NoBundle : Addr} {d_NoName : Addr} {d_NoNumber : Addr} {d_NoPaper : Addr} {d_NoRow : Addr} {d_BadStep : Addr} {d_NoText : Addr} {d_TooLate : Addr} {d_TooMany : Addr}
    (b_self : PySem.W.nsIn K mainGlobals "NoBid" = some (some (.ref C)))
    (b_HallError : PySem.W.nsIn K mainGlobals "HallError" = some (some (.ref DH)))
    (b_NoBundle : PySem.W.nsIn K mainGlobals "NoBundle" = some (some (.ref d_NoBundle)))
    (b_NoName : PySem.W.nsIn K mainGlobals "NoName" = some (some (.ref d_NoName)))
    (b_NoNumber : PySem.W.nsIn K mainGlobals "NoNumber" = some (some (.ref d_NoNumber)))
    (b_NoPaper : PySem.W.nsIn K mainGlobals "NoPaper" = some (some (.ref d_NoPaper)))
    (b_NoRow : PySem.W.nsIn K mainGlobals "NoRow" = some (some (.ref d_NoRow)))
    (b_BadStep : PySem.W.nsIn K mainGlobals "BadStep" = some (some (.ref d_BadStep)))
    (b_NoText : PySem.W.nsIn K mainGlobals "NoText" = some (some (.ref d_NoText)))
    (b_TooLate : PySem.W.nsIn K mainGlobals "TooLate" = some (some (.ref d_TooLate)))
    (b_TooMany : PySem.W.nsIn K mainGlobals "TooMany" = some (some (.ref d_TooMany)))
    (q_NoBundle : PySem.W.kitOne K (.ref C) (.ref d_NoBundle) = some false)
    (q_NoName : PySem.W.kitOne K (.ref C) (.ref d_NoName) = some false)
    (q_NoNumber : PySem.W.kitOne K (.ref C) (.ref d_NoNumber) = some false)
    (q_NoPaper : PySem.W.kitOne K (.ref C) (.ref d_NoPaper) = some false)
    (q_NoRow : PySem.W.kitOne K (.ref C) (.ref d_NoRow) = some false)
    (q_BadStep : PySem.W.kitOne K (.ref C) (.ref d_BadStep) = some false)
    (q_NoText : PySem.W.kitOne K (.ref C) (.ref d_NoText) = some false)
    (q_TooLate : PySem.W.kitOne K (.ref C) (.ref d_TooLate) = some false)
    (q_TooMany : PySem.W.kitOne K (.ref C) (.ref d_TooMany) = some false)
    (e_own : PySem.W.excIn K C bmV "ValueError.__new__" = true)
    (e_obj : PySem.W.mroIn K C (.type "object") = some true)
    (e_exc : PySem.W.mroIn K C (.type "BaseException") = some true)
    (e_att : PySem.W.findIn K (.ref C) "__class__" = some (some (.builtin "object.__class__")))
    (e_ga : PySem.W.findIn K (.ref C) "__getattribute__" = some (some (.builtin "BaseException.__getattribute__")))
    (e_gt : PySem.W.findIn K (.ref C) "__getattr__" = some none)
    (e_val : PySem.W.kitOne K (.ref C) (.type "ValueError") = some true)
    (e_lk : K.lookup DH = some ⟨.type "type", dH, .cls cH, sH⟩)
    (e_hx : PySem.W.mroIn K DH (.type "BaseException") = some true)
    (e_sub : PySem.W.mroIn K C (.ref DH) = some true)
    (q_hall : PySem.W.kitOne K (.ref C) (.ref DH) = some true)
    (e_slk : K.lookup C = some ⟨.type "type", dC, .cls cC, sC⟩)
    (e_slf : PySem.W.mroIn K C (.ref C) = some true)
    (q_b_non : PySem.W.kitOne K (.type "NoneType") (.ref c_Bid) = some false)
    (q_b_bl : PySem.W.kitOne K (.type "bool") (.ref c_Bid) = some false)
    (q_b_int : PySem.W.kitOne K (.type "int") (.ref c_Bid) = some false)
    (q_b_str : PySem.W.kitOne K (.type "str") (.ref c_Bid) = some false)
    (q_b_lst : PySem.W.kitOne K (.type "list") (.ref c_Bid) = some false)
    (q_b_tup : PySem.W.kitOne K (.type "tuple") (.ref c_Bid) = some false)
    (q_b_dct : PySem.W.kitOne K (.type "dict") (.ref c_Bid) = some false)
    (q_l_Bid : PySem.W.kitOne K (.ref c_Bid) (.type "list") = some false)
    (q_l_Only : PySem.W.kitOne K (.ref c_Only) (.type "list") = some false)
    (q_l_SoMany : PySem.W.kitOne K (.ref c_SoMany) (.type "list") = some false)
    (q_l_UpTo : PySem.W.kitOne K (.ref c_UpTo) (.type "list") = some false)
    : ∃ fd : FuncData, (∀ (s : Shared) (v : Value), BindsTo s fd ⟨[v], []⟩ [("_law_script", v)]) ∧ ∀ base : Heap, K.In base → base.Ns mainGlobals mg → FnOk l.prog w K mg base CX0 18 fa fd ["_law_script"] (sp_law K) := by
  have e := hfa.symm.trans (PySem.W.mg_of X G a30)
  cases e
  have F0 := fun_mk (st := s_P_is_whole) l0 c0 k0
  have g0 := PySem.W.mg_of X G a0
  have F1 := fun_mk (st := s_P_is_within) l1 c1 k1
  have g1 := PySem.W.mg_of X G a1
  have F2 := fun_mk (st := s_P_things_in) l2 c2 k2
  have g2 := PySem.W.mg_of X G a2
  have F3 := fun_mk (st := s_P_size_of) l3 c3 k3
  have g3 := PySem.W.mg_of X G a3
  have F4 := fun_mk (st := s_P_holds) l4 c4 k4
  have g4 := PySem.W.mg_of X G a4
  have F5 := fun_mk (st := s_P_parts_of) l5 c5 k5
  have g5 := PySem.W.mg_of X G a5
  have F6 := fun_mk (st := s_P_check_bundle) l6 c6 k6
  have g6 := PySem.W.mg_of X G a6
  have F7 := fun_mk (st := s_P_check_so_many) l7 c7 k7
  have g7 := PySem.W.mg_of X G a7
  have F8 := fun_mk (st := s_P_check_amount) l8 c8 k8
  have g8 := PySem.W.mg_of X G a8
  have F9 := fun_mk (st := s_P_check_bids) l9 c9 k9
  have g9 := PySem.W.mg_of X G a9
  have F10 := fun_mk (st := s_P_depth_over) l10 c10 k10
  have g10 := PySem.W.mg_of X G a10
  have F11 := fun_mk (st := s_P_tally_over) l11 c11 k11
  have g11 := PySem.W.mg_of X G a11
  have F12 := fun_mk (st := s_P_worths_of_nothing) l12 c12 k12
  have g12 := PySem.W.mg_of X G a12
  have F13 := fun_mk (st := s_P_shared_out) l13 c13 k13
  have g13 := PySem.W.mg_of X G a13
  have F14 := fun_mk (st := s_P_best_share) l14 c14 k14
  have g14 := PySem.W.mg_of X G a14
  have F15 := fun_mk (st := s_P_greater_of) l15 c15 k15
  have g15 := PySem.W.mg_of X G a15
  have F16 := fun_mk (st := s_L_cell) l16 c16 k16
  have g16 := PySem.W.mg_of X G a16
  have F17 := fun_mk (st := s_L_made) l17 c17 k17
  have g17 := PySem.W.mg_of X G a17
  have F18 := fun_mk (st := s_L_other) l18 c18 k18
  have g18 := PySem.W.mg_of X G a18
  have F19 := fun_mk (st := s_L_by_class) l19 c19 k19
  have g19 := PySem.W.mg_of X G a19
  have F20 := fun_mk (st := s_L_by_base) l20 c20 k20
  have g20 := PySem.W.mg_of X G a20
  have F21 := fun_mk (st := s_L_refused) l21 c21 k21
  have g21 := PySem.W.mg_of X G a21
  have F22 := fun_mk (st := s_L_taken) l22 c22 k22
  have g22 := PySem.W.mg_of X G a22
  have F23 := fun_mk (st := s_L_within) l23 c23 k23
  have g23 := PySem.W.mg_of X G a23
  have F24 := fun_mk (st := s_L_odd) l24 c24 k24
  have g24 := PySem.W.mg_of X G a24
  have F25 := fun_mk (st := s_L_numbers) l25 c25 k25
  have g25 := PySem.W.mg_of X G a25
  have F26 := fun_mk (st := s_L_some) l26 c26 k26
  have g26 := PySem.W.mg_of X G a26
  have F27 := fun_mk (st := s_L_lists) l27 c27 k27
  have g27 := PySem.W.mg_of X G a27
  have F28 := fun_mk (st := s_L_deep) l28 c28 k28
  have g28 := PySem.W.mg_of X G a28
  have F29 := fun_mk (st := s_L_full) l29 c29 k29
  have g29 := PySem.W.mg_of X G a29
  have F30 := fun_mk (st := s_law) l30 c30 k30
  have g30 := PySem.W.mg_of X G a30
  have F31 := fun_mk (st := s_M_Bid_worths) l31 c31 k31
  have F32 := fun_mk (st := s_M_Bid_depth) l32 c32 k32
  have F33 := fun_mk (st := s_M_Bid_tally) l33 c33 k33
  have F34 := fun_mk (st := s_M_Only___init__) l34 c34 k34
  have F35 := fun_mk (st := s_M_Only_worths) l35 c35 k35
  have F36 := fun_mk (st := s_M_SoMany___init__) l36 c36 k36
  have F37 := fun_mk (st := s_M_SoMany_worths) l37 c37 k37
  have F38 := fun_mk (st := s_M_UpTo___init__) l38 c38 k38
  have F39 := fun_mk (st := s_M_UpTo_worths) l39 c39 k39
  have F40 := fun_mk (st := s_M_Several___init__) l40 c40 k40
  have F41 := fun_mk (st := s_M_Several_depth) l41 c41 k41
  have F42 := fun_mk (st := s_M_Several_tally) l42 c42 k42
  have F43 := fun_mk (st := s_M_AnyOf_worths) l43 c43 k43
  have F44 := fun_mk (st := s_M_OneOf_worths) l44 c44 k44
  have m_isinstance := PySem.W.mg_none_of X G z_isinstance
  have m_int := PySem.W.mg_none_of X G z_int
  have m_bool := PySem.W.mg_none_of X G z_bool
  have m_range := PySem.W.mg_none_of X G z_range
  have m_len := PySem.W.mg_none_of X G z_len
  have m_list := PySem.W.mg_none_of X G z_list
  have m_max := PySem.W.mg_none_of X G z_max
  have m_sum := PySem.W.mg_none_of X G z_sum
  have m_zip := PySem.W.mg_none_of X G z_zip
  have m_ValueError := PySem.W.mg_none_of X G z_ValueError
  have m_min := PySem.W.mg_none_of X G z_min
  refine ⟨PySem.W.fnOf "law" "law" (defArgs s_law) (defBody s_law) (defScope s_law) .none kV30 dc30 pm30 an30 cd30 ct30, fun s v => .of_eq rfl, fun base KB _ => ?_⟩
  have Z : ClE K mg C := ⟨PySem.W.mg_of X G b_self, e_own, ⟨e_obj, e_exc, e_att, e_ga, e_gt⟩, e_val, ⟨DH, PySem.W.mg_of X G b_HallError, ⟨⟨_, _, _, e_lk⟩, e_hx⟩, e_sub⟩, ⟨d_NoBundle, PySem.W.mg_of X G b_NoBundle, q_NoBundle⟩, ⟨d_NoName, PySem.W.mg_of X G b_NoName, q_NoName⟩, ⟨d_NoNumber, PySem.W.mg_of X G b_NoNumber, q_NoNumber⟩, ⟨d_NoPaper, PySem.W.mg_of X G b_NoPaper, q_NoPaper⟩, ⟨d_NoRow, PySem.W.mg_of X G b_NoRow, q_NoRow⟩, ⟨d_BadStep, PySem.W.mg_of X G b_BadStep, q_BadStep⟩, ⟨d_NoText, PySem.W.mg_of X G b_NoText, q_NoText⟩, ⟨d_TooLate, PySem.W.mg_of X G b_TooLate, q_TooLate⟩, ⟨d_TooMany, PySem.W.mg_of X G b_TooMany, q_TooMany⟩, ⟨DH, PySem.W.mg_of X G b_HallError, q_hall⟩, ⟨⟨_, _, _, e_slk⟩, e_exc⟩, e_slf⟩
  have OW : OwnCls "NoBid" C bmV "ValueError.__new__" mg base := own_obj KB Z.self Z.own
  have KK := And.intro kit_Bid_Bid (And.intro kit_Only_Bid (And.intro kit_SoMany_Bid (And.intro kit_UpTo_Bid (And.intro kit_AnyOf_Bid kit_OneOf_Bid))))
  have ZK : KitL K c_Bid c_Only c_SoMany c_UpTo c_Several c_AnyOf c_OneOf := ⟨fun n => match n with | .non => q_b_non | .bl => q_b_bl | .int => q_b_int | .str => q_b_str | .lst => q_b_lst | .tup => q_b_tup | .dct => q_b_dct, q_l_Bid, q_l_Only, q_l_SoMany, q_l_UpTo⟩
  have O_Bid : Own K mg "Bid" c_Bid [] := ⟨PySem.W.mg_of X G b_Bid, ⟨pg_Bid, hd_Bid, po_Bid, sa_Bid⟩, mk_Bid, kp_Bid, (by intro f hf; cases hf), t1_Bid, t2_Bid, t3_Bid, t4_Bid⟩
  have O_Only : Own K mg "Only" c_Only ["bundle", "amount"] := ⟨PySem.W.mg_of X G b_Only, ⟨pg_Only, hd_Only, po_Only, sa_Only⟩, mk_Only, kp_Only, (by intro f hf; simp only [List.mem_cons, List.not_mem_nil, or_false] at hf; rcases hf with rfl | rfl <;> assumption), t1_Only, t2_Only, t3_Only, t4_Only⟩
  have O_SoMany : Own K mg "SoMany" c_SoMany ["kind", "least", "amount"] := ⟨PySem.W.mg_of X G b_SoMany, ⟨pg_SoMany, hd_SoMany, po_SoMany, sa_SoMany⟩, mk_SoMany, kp_SoMany, (by intro f hf; simp only [List.mem_cons, List.not_mem_nil, or_false] at hf; rcases hf with rfl | rfl | rfl <;> assumption), t1_SoMany, t2_SoMany, t3_SoMany, t4_SoMany⟩
  have O_UpTo : Own K mg "UpTo" c_UpTo ["kind", "most", "each"] := ⟨PySem.W.mg_of X G b_UpTo, ⟨pg_UpTo, hd_UpTo, po_UpTo, sa_UpTo⟩, mk_UpTo, kp_UpTo, (by intro f hf; simp only [List.mem_cons, List.not_mem_nil, or_false] at hf; rcases hf with rfl | rfl | rfl <;> assumption), t1_UpTo, t2_UpTo, t3_UpTo, t4_UpTo⟩
  have O_Several : Own K mg "Several" c_Several ["bids"] := ⟨PySem.W.mg_of X G b_Several, ⟨pg_Several, hd_Several, po_Several, sa_Several⟩, mk_Several, kp_Several, (by intro f hf; simp only [List.mem_cons, List.not_mem_nil, or_false] at hf; rcases hf with rfl <;> assumption), t1_Several, t2_Several, t3_Several, t4_Several⟩
  have O_AnyOf : Own K mg "AnyOf" c_AnyOf ["bids"] := ⟨PySem.W.mg_of X G b_AnyOf, ⟨pg_AnyOf, hd_AnyOf, po_AnyOf, sa_AnyOf⟩, mk_AnyOf, kp_AnyOf, (by intro f hf; simp only [List.mem_cons, List.not_mem_nil, or_false] at hf; rcases hf with rfl <;> assumption), t1_AnyOf, t2_AnyOf, t3_AnyOf, t4_AnyOf⟩
  have O_OneOf : Own K mg "OneOf" c_OneOf ["bids"] := ⟨PySem.W.mg_of X G b_OneOf, ⟨pg_OneOf, hd_OneOf, po_OneOf, sa_OneOf⟩, mk_OneOf, kp_OneOf, (by intro f hf; simp only [List.mem_cons, List.not_mem_nil, or_false] at hf; rcases hf with rfl <;> assumption), t1_OneOf, t2_OneOf, t3_OneOf, t4_OneOf⟩
  have D_P_is_whole := ok_P_is_whole (P := l.prog) (w := w) (base := base) F0 g0 m_isinstance m_int m_bool 
  have D_P_is_within := ok_P_is_within (P := l.prog) (w := w) (base := base) F1 g1  D_P_is_whole
  have D_P_holds := ok_P_holds (P := l.prog) (w := w) (base := base) F4 g4  
  have D_P_things_in := ok_P_things_in (P := l.prog) (w := w) (base := base) F2 g2 m_range D_P_holds
  have D_P_size_of := ok_P_size_of (P := l.prog) (w := w) (base := base) F3 g3 m_len D_P_things_in
  have D_P_parts_of := ok_P_parts_of (P := l.prog) (w := w) (base := base) F5 g5  D_P_things_in
  have D_P_check_bundle := ok_P_check_bundle (P := l.prog) (w := w) (base := base) F6 g6  D_P_is_within
  have DE_P_check_bundle := okE_P_check_bundle (P := l.prog) (w := w) (base := base) F6 g6  D_P_is_within OW
  have D_P_check_so_many := ok_P_check_so_many (P := l.prog) (w := w) (base := base) F7 g7  D_P_is_within
  have DE_P_check_so_many := okE_P_check_so_many (P := l.prog) (w := w) (base := base) F7 g7  D_P_is_within OW
  have D_P_check_amount := ok_P_check_amount (P := l.prog) (w := w) (base := base) F8 g8  D_P_is_within
  have DE_P_check_amount := okE_P_check_amount (P := l.prog) (w := w) (base := base) F8 g8  D_P_is_within OW
  have FO_M_Bid_depth := ok_M_Bid_depth (P := l.prog) (w := w) (base := base) F32   O_Bid O_Only O_SoMany O_UpTo O_Several O_AnyOf O_OneOf
  have hT_depth := fam_depth (P := l.prog) (w := w) (base := base) F32 F41 F10 g10 m_max O_Bid O_Only O_SoMany O_UpTo O_Several O_AnyOf O_OneOf ⟨a32, n32, k32⟩ ⟨i32_Only, n32, k32⟩ ⟨i32_SoMany, n32, k32⟩ ⟨i32_UpTo, n32, k32⟩ ⟨i41_AnyOf, n41, k41⟩ ⟨i41_OneOf, n41, k41⟩ 5
  have D_P_depth_over := ok_P_depth_over (P := l.prog) (w := w) (base := base) 4 F10 g10 m_max O_Bid O_Only O_SoMany O_UpTo O_Several O_AnyOf O_OneOf (fam_depth (P := l.prog) (w := w) (base := base) F32 F41 F10 g10 m_max O_Bid O_Only O_SoMany O_UpTo O_Several O_AnyOf O_OneOf ⟨a32, n32, k32⟩ ⟨i32_Only, n32, k32⟩ ⟨i32_SoMany, n32, k32⟩ ⟨i32_UpTo, n32, k32⟩ ⟨i41_AnyOf, n41, k41⟩ ⟨i41_OneOf, n41, k41⟩ 4)
  have FO_M_Bid_tally := ok_M_Bid_tally (P := l.prog) (w := w) (base := base) F33   O_Bid O_Only O_SoMany O_UpTo O_Several O_AnyOf O_OneOf
  have hT_tally := fam_tally (P := l.prog) (w := w) (base := base) F33 F42 F11 g11 m_sum O_Bid O_Only O_SoMany O_UpTo O_Several O_AnyOf O_OneOf ⟨a33, n33, k33⟩ ⟨i33_Only, n33, k33⟩ ⟨i33_SoMany, n33, k33⟩ ⟨i33_UpTo, n33, k33⟩ ⟨i42_AnyOf, n42, k42⟩ ⟨i42_OneOf, n42, k42⟩ 5
  have D_P_tally_over := ok_P_tally_over (P := l.prog) (w := w) (base := base) 4 F11 g11 m_sum O_Bid O_Only O_SoMany O_UpTo O_Several O_AnyOf O_OneOf (fam_tally (P := l.prog) (w := w) (base := base) F33 F42 F11 g11 m_sum O_Bid O_Only O_SoMany O_UpTo O_Several O_AnyOf O_OneOf ⟨a33, n33, k33⟩ ⟨i33_Only, n33, k33⟩ ⟨i33_SoMany, n33, k33⟩ ⟨i33_UpTo, n33, k33⟩ ⟨i42_AnyOf, n42, k42⟩ ⟨i42_OneOf, n42, k42⟩ 4)
  have D_P_check_bids := ok_P_check_bids (P := l.prog) (w := w) (base := base) F9 g9 m_isinstance m_list D_P_depth_over D_P_tally_over O_Bid O_Only O_SoMany O_UpTo O_Several O_AnyOf O_OneOf kit_Bid_Bid kit_Only_Bid kit_SoMany_Bid kit_UpTo_Bid kit_Several_Bid kit_AnyOf_Bid kit_OneOf_Bid
  have DE_P_check_bids := okE_P_check_bids (P := l.prog) (w := w) (base := base) F9 g9 m_isinstance m_list D_P_depth_over D_P_tally_over O_Bid O_Only O_SoMany O_UpTo O_Several O_AnyOf O_OneOf kit_Bid_Bid kit_Only_Bid kit_SoMany_Bid kit_UpTo_Bid kit_Several_Bid kit_AnyOf_Bid kit_OneOf_Bid OW
  have D_P_worths_of_nothing := ok_P_worths_of_nothing (P := l.prog) (w := w) (base := base) F12 g12 m_range 
  have D_P_best_share := ok_P_best_share (P := l.prog) (w := w) (base := base) F14 g14 m_max D_P_parts_of
  have D_P_shared_out := ok_P_shared_out (P := l.prog) (w := w) (base := base) F13 g13 m_range m_len D_P_best_share
  have D_P_greater_of := ok_P_greater_of (P := l.prog) (w := w) (base := base) F15 g15 m_max m_zip 
  have D_L_cell := ok_L_cell (P := l.prog) (w := w) (base := base) F16 g16 m_len 
  have FO_M_Several___init__ := fun c => ok_M_Several___init__ (P := l.prog) (w := w) (base := base) c F40 m_list D_P_check_bids O_Bid O_Only O_SoMany O_UpTo O_Several O_AnyOf O_OneOf
  have FE_M_Several___init__ := okE_M_Several___init__ (P := l.prog) (w := w) (base := base) F40 m_list DE_P_check_bids O_Bid O_Only O_SoMany O_UpTo O_Several O_AnyOf O_OneOf OW
  have FO_M_Only___init__ := ok_M_Only___init__ (P := l.prog) (w := w) (base := base) F34  D_P_check_bundle D_P_check_amount O_Bid O_Only O_SoMany O_UpTo O_Several O_AnyOf O_OneOf
  have FE_M_Only___init__ := okE_M_Only___init__ (P := l.prog) (w := w) (base := base) F34  DE_P_check_bundle DE_P_check_amount O_Bid O_Only O_SoMany O_UpTo O_Several O_AnyOf O_OneOf OW
  have FO_M_SoMany___init__ := ok_M_SoMany___init__ (P := l.prog) (w := w) (base := base) F36  D_P_check_bundle D_P_check_so_many D_P_check_amount O_Bid O_Only O_SoMany O_UpTo O_Several O_AnyOf O_OneOf
  have FE_M_SoMany___init__ := okE_M_SoMany___init__ (P := l.prog) (w := w) (base := base) F36  DE_P_check_bundle DE_P_check_so_many DE_P_check_amount O_Bid O_Only O_SoMany O_UpTo O_Several O_AnyOf O_OneOf OW
  have FO_M_UpTo___init__ := ok_M_UpTo___init__ (P := l.prog) (w := w) (base := base) F38  D_P_check_bundle D_P_check_so_many D_P_check_amount O_Bid O_Only O_SoMany O_UpTo O_Several O_AnyOf O_OneOf
  have FE_M_UpTo___init__ := okE_M_UpTo___init__ (P := l.prog) (w := w) (base := base) F38  DE_P_check_bundle DE_P_check_so_many DE_P_check_amount O_Bid O_Only O_SoMany O_UpTo O_Several O_AnyOf O_OneOf OW
  have MK_OneOf : MakeD l.prog w K mg base 12 "OneOf" c_OneOf ["self", "bids"] (sp_M_Several___init__ K c_OneOf c_Bid c_Only c_SoMany c_UpTo c_Several c_AnyOf c_OneOf) := ⟨f40, _, FO_M_Several___init__ c_OneOf, bnd2 F40 fun _ _ _ _ _ _ _ _ => rfl, ⟨mk_OneOf, i40_OneOf, n40, kp_OneOf⟩, O_OneOf.at_⟩
  have MK_Only : MakeD l.prog w K mg base 4 "Only" c_Only ["self", "bundle", "amount"] (sp_M_Only___init__ K c_Only) := ⟨f34, _, FO_M_Only___init__, bnd3 F34 fun _ _ _ _ _ _ _ _ _ => rfl, ⟨mk_Only, a34, n34, kp_Only⟩, O_Only.at_⟩
  have MK_SoMany : MakeD l.prog w K mg base 4 "SoMany" c_SoMany ["self", "kind", "least", "amount"] (sp_M_SoMany___init__ K c_SoMany) := ⟨f36, _, FO_M_SoMany___init__, bnd4 F36 fun _ _ _ _ _ _ _ _ _ _ => rfl, ⟨mk_SoMany, a36, n36, kp_SoMany⟩, O_SoMany.at_⟩
  have MK_UpTo : MakeD l.prog w K mg base 4 "UpTo" c_UpTo ["self", "kind", "most", "each"] (sp_M_UpTo___init__ K c_UpTo) := ⟨f38, _, FO_M_UpTo___init__, bnd4 F38 fun _ _ _ _ _ _ _ _ _ _ => rfl, ⟨mk_UpTo, a38, n38, kp_UpTo⟩, O_UpTo.at_⟩
  have MK_AnyOf : MakeD l.prog w K mg base 12 "AnyOf" c_AnyOf ["self", "bids"] (sp_M_Several___init__ K c_AnyOf c_Bid c_Only c_SoMany c_UpTo c_Several c_AnyOf c_OneOf) := ⟨f40, _, FO_M_Several___init__ c_AnyOf, bnd2 F40 fun _ _ _ _ _ _ _ _ => rfl, ⟨mk_AnyOf, i40_AnyOf, n40, kp_AnyOf⟩, O_AnyOf.at_⟩
  have D_L_made := ok_L_made (P := l.prog) (w := w) (base := base) F17 g17   O_Bid O_Only O_SoMany O_UpTo O_Several O_AnyOf O_OneOf MK_OneOf MK_Only MK_SoMany MK_UpTo MK_AnyOf
  have ME_OneOf : MakeE l.prog w K mg base 12 "OneOf" c_OneOf ["self", "bids"] (spE_M_Several___init__ K C c_Bid c_Only c_SoMany c_UpTo c_Several c_AnyOf c_OneOf) := ⟨f40, _, FE_M_Several___init__, bnd2 F40 fun _ _ _ _ _ _ _ _ => rfl, ⟨mk_OneOf, i40_OneOf, n40, kp_OneOf⟩, O_OneOf.at_⟩
  have ME_Only : MakeE l.prog w K mg base 4 "Only" c_Only ["self", "bundle", "amount"] (spE_M_Only___init__ K C) := ⟨f34, _, FE_M_Only___init__, bnd3 F34 fun _ _ _ _ _ _ _ _ _ => rfl, ⟨mk_Only, a34, n34, kp_Only⟩, O_Only.at_⟩
  have ME_SoMany : MakeE l.prog w K mg base 4 "SoMany" c_SoMany ["self", "kind", "least", "amount"] (spE_M_SoMany___init__ K C) := ⟨f36, _, FE_M_SoMany___init__, bnd4 F36 fun _ _ _ _ _ _ _ _ _ _ => rfl, ⟨mk_SoMany, a36, n36, kp_SoMany⟩, O_SoMany.at_⟩
  have ME_UpTo : MakeE l.prog w K mg base 4 "UpTo" c_UpTo ["self", "kind", "most", "each"] (spE_M_UpTo___init__ K C) := ⟨f38, _, FE_M_UpTo___init__, bnd4 F38 fun _ _ _ _ _ _ _ _ _ _ => rfl, ⟨mk_UpTo, a38, n38, kp_UpTo⟩, O_UpTo.at_⟩
  have ME_AnyOf : MakeE l.prog w K mg base 12 "AnyOf" c_AnyOf ["self", "bids"] (spE_M_Several___init__ K C c_Bid c_Only c_SoMany c_UpTo c_Several c_AnyOf c_OneOf) := ⟨f40, _, FE_M_Several___init__, bnd2 F40 fun _ _ _ _ _ _ _ _ => rfl, ⟨mk_AnyOf, i40_AnyOf, n40, kp_AnyOf⟩, O_AnyOf.at_⟩
  have DE_L_made := okE_L_made (P := l.prog) (w := w) (base := base) F17 g17   O_Bid O_Only O_SoMany O_UpTo O_Several O_AnyOf O_OneOf ME_OneOf ME_Only ME_SoMany ME_UpTo ME_AnyOf OW
  have D_L_other := ok_L_other (P := l.prog) (w := w) (base := base) F18 g18 m_isinstance Z
  have D_L_by_class := ok_L_by_class (P := l.prog) (w := w) (base := base) F19 g19 m_isinstance m_ValueError DE_L_made D_L_other Z
  have D_L_by_base := ok_L_by_base (P := l.prog) (w := w) (base := base) F20 g20 m_isinstance DE_L_made Z
  have D_L_refused := ok_L_refused (P := l.prog) (w := w) (base := base) F21 g21  D_L_by_class D_L_by_base
  have FO_M_Bid_worths := ok_M_Bid_worths (P := l.prog) (w := w) (base := base) F31  D_P_worths_of_nothing O_Bid O_Only O_SoMany O_UpTo O_Several O_AnyOf O_OneOf
  have FO_M_Only_worths := ok_M_Only_worths (P := l.prog) (w := w) (base := base) F35 m_range D_P_holds O_Bid O_Only O_SoMany O_UpTo O_Several O_AnyOf O_OneOf
  have FO_M_SoMany_worths := ok_M_SoMany_worths (P := l.prog) (w := w) (base := base) F37 m_range D_P_size_of O_Bid O_Only O_SoMany O_UpTo O_Several O_AnyOf O_OneOf
  have FO_M_UpTo_worths := ok_M_UpTo_worths (P := l.prog) (w := w) (base := base) F39 m_min m_range D_P_size_of O_Bid O_Only O_SoMany O_UpTo O_Several O_AnyOf O_OneOf
  have hT_worths := fam_worths (P := l.prog) (w := w) (base := base) F31 F35 F37 F39 F43 F44 D_P_worths_of_nothing D_P_holds D_P_size_of D_P_shared_out D_P_greater_of m_range m_min O_Bid O_Only O_SoMany O_UpTo O_Several O_AnyOf O_OneOf ⟨a31, n31, k31⟩ ⟨a35, n35, k35⟩ ⟨a37, n37, k37⟩ ⟨a39, n39, k39⟩ ⟨a43, n43, k43⟩ ⟨a44, n44, k44⟩  5
  have D_L_taken := ok_L_taken (P := l.prog) (w := w) (base := base) F22 g22 m_isinstance D_L_made O_Bid O_Only O_SoMany O_UpTo O_Several O_AnyOf O_OneOf hT_worths kit_Bid_Bid kit_Only_Bid kit_SoMany_Bid kit_UpTo_Bid kit_Several_Bid kit_AnyOf_Bid kit_OneOf_Bid
  have D_L_within := ok_L_within (P := l.prog) (w := w) (base := base) F23 g23  
  have D_L_odd := ok_L_odd (P := l.prog) (w := w) (base := base) F24 g24  
  have D_L_numbers := ok_L_numbers (P := l.prog) (w := w) (base := base) F25 g25 m_range m_list m_len D_L_odd D_L_cell D_L_taken D_L_refused D_L_within
  have MK_Bid : Make0 K mg "Bid" c_Bid := ⟨mk_Bid, in_Bid, kp_Bid, O_Bid.at_⟩
  have D_L_some := ok_L_some (P := l.prog) (w := w) (base := base) F26 g26 m_range D_L_cell O_Bid O_Only O_SoMany O_UpTo O_Several O_AnyOf O_OneOf MK_Bid MK_Only MK_SoMany MK_UpTo
  have D_L_lists := ok_L_lists (P := l.prog) (w := w) (base := base) F27 g27 m_list m_len D_L_some D_L_cell D_L_taken D_L_refused O_Bid O_Only O_SoMany O_UpTo O_Several O_AnyOf O_OneOf KK ZK
  have D_L_deep := ok_L_deep (P := l.prog) (w := w) (base := base) F28 g28 m_range D_L_cell D_L_made D_L_refused D_L_taken O_Bid O_Only O_SoMany O_UpTo O_Several O_AnyOf O_OneOf MK_Bid MK_Only MK_AnyOf MK_OneOf MK_UpTo
  have D_L_full := ok_L_full (P := l.prog) (w := w) (base := base) F29 g29  D_L_some D_L_cell D_L_refused D_L_taken O_Bid O_Only O_SoMany O_UpTo O_Several O_AnyOf O_OneOf MK_AnyOf MK_OneOf
  exact ok_law (P := l.prog) (w := w) (base := base) F30 g30  D_L_full D_L_cell D_L_numbers D_L_lists D_L_deep
theorem walk {l : PySem.W.OpenLaw} {q : Program} {loose : List Str} {XP : (Str → Option Value) → Heap → Prop} {YP : World → Heap → Prop} {d : DefRec} {K : Params → PySem.W.Frag} (hn : l.most = some 63) (hdf : d.params.defaults = [])
    (hY : ∀ (w : World) (h : Heap), YP w h → (K w.params).In h)
    (F : ∀ (w : World) (mg : Str → Option Value) (fa : Addr) (h : Heap), (K w.params).In h → h.Ns mainGlobals mg → mg d.name = some (.ref fa) →
      ∃ fd : FuncData, (∀ (s : Shared) (u : Value), BindsTo s fd ⟨[u], []⟩ [("_law_script", u)]) ∧ ∀ base : Heap, (K w.params).In base → base.Ns mainGlobals mg → FnOk l.prog w (K w.params) mg base CX0 18 fa fd ["_law_script"] (sp_law (K w.params))) :
    PySem.W.WalkO q loose XP YP l.row.toRowW d [] (fun f vs => PySem.call f vs) :=
  L2.walk_of (n := 63) (k := 18) (x := "_law_script") (CX := fun _ => CX0) (sp := fun w => sp_law (K w.params)) hn (by decide) hdf ⟨rfl, by decide, by decide⟩ hY F (fun _ _ a ns hl _ hS => ⟨a, ns, rfl, hS, hl, fun _ => rfl⟩) fun _ _ _ _ _ z => z
theorem walkX_of {q : Program} {loose : List Str} {XP : (Str → Option Value) → Heap → Prop} {K : Params → PySem.W.Frag} {as : List Addr} {n t : Nat} {r : PySem.W.RowW} {d : DefRec} {kwd : List (Str × Expr)} {run : Value → List Value → Sem Value} (e : ∀ P, as = (K P).map (·.1))
    (h : PySem.W.WalkO q loose XP (PySem.W.InK K) r d kwd run) : PySem.W.WalkX q loose XP (PySem.W.X.obsZ as) (PySem.W.X.valZ K n t) r d kwd run :=
  fun w s₀ s₁ mg mb G y a o pm cd doc dV kV h1 h2 h3 h4 h5 h6 args vals as' L hp hl hr hw hlo => h w s₀ s₁ mg mb G (PySem.W.InK.keeps w _ _ (PySem.W.X.z_facts e y).2.1 L.keeps) a o pm cd doc dV kV h1 h2 h3 h4 h5 h6 args vals as' hp hl hr hw hlo
end My
noncomputable def PySem.W.Fast.tw10882033818707209834 : Nat := 0
noncomputable def PySem.W.Fast.tw12350728167639080342 : Nat := 0
noncomputable def PySem.W.Fast.tw18383907764658898510 : Nat := 0
noncomputable def PySem.W.Fast.tw1204860693093343553 : Nat := 0
noncomputable def PySem.W.Fast.tw4204943569260902025 : Nat := 0
noncomputable def PySem.W.Fast.tw4669055036567194345 : Nat := 0
noncomputable def PySem.W.Fast.tw3980715571511745940 : Nat := 0
noncomputable def PySem.W.Fast.tw3484131340956565108 : Nat := 0
noncomputable def PySem.W.Fast.tw15925163539680871642 : Nat := 0
noncomputable def PySem.W.Fast.tw16347097111489047644 : Nat := 0
noncomputable def PySem.W.Fast.tw14804102941749871738 : Nat := 0
noncomputable def PySem.W.Fast.tw18020165580796261690 : Nat := 0
noncomputable def PySem.W.Fast.tw14600264226063638826 : Nat := 0
noncomputable def PySem.W.Fast.tw8451067230640153970 : Nat := 0
noncomputable def PySem.W.Fast.tw3281985010058215841 : Nat := 0
noncomputable def PySem.W.Fast.tw3439176220863250848 : Nat := 0
noncomputable def PySem.W.Fast.tw13067509424631670187 : Nat := 0
noncomputable def PySem.W.Fast.tw16731582785591075202 : Nat := 0
noncomputable def PySem.W.Fast.tw14698007218378988259 : Nat := 0
noncomputable def PySem.W.Fast.tw18336443979527155709 : Nat := 0
noncomputable def PySem.W.Fast.tw1371836943330454133 : Nat := 0
noncomputable def PySem.W.Fast.tw14362951747219228983 : Nat := 0
noncomputable def PySem.W.Fast.tw17296420233500052401 : Nat := 0
noncomputable def PySem.W.Fast.tw6718893314280238238 : Nat := 0
open PySem PySem.W PyProof.Rows
set_option maxRecDepth 100000 in
set_option maxHeartbeats 0 in
theorem PySem.Challenge.cw_gavelhall_k22_bids_refused_holds : PySem.Challenge.rw_gavelhall_k22_bids_refused.Holds := by
  w_on; o_law; z_head; (case hw => w_witness2)
  k_fill
  refine My.walkX_of (fun _ => by kernel_rfl) (My.walk (l := PySem.Challenge.rw_gavelhall_k22_bids_refused) rfl rfl (fun w h Y => Y) ?F)
  case F =>
    intro w mg fa h KX G hmg
    refine' My.all_mk KX G hmg ?b_Bid ?pg_Bid ?hd_Bid ?po_Bid ?sa_Bid ?mk_Bid ?kp_Bid ?t1_Bid ?t2_Bid ?t3_Bid ?t4_Bid ?in_Bid ?b_Only ?pg_Only ?hd_Only ?po_Only ?sa_Only ?mk_Only ?kp_Only ?no_Only_bundle ?no_Only_amount ?t1_Only ?t2_Only ?t3_Only ?t4_Only ?b_SoMany ?pg_SoMany ?hd_SoMany ?po_SoMany ?sa_SoMany ?mk_SoMany ?kp_SoMany ?no_SoMany_kind ?no_SoMany_least ?no_SoMany_amount ?t1_SoMany ?t2_SoMany ?t3_SoMany ?t4_SoMany ?b_UpTo ?pg_UpTo ?hd_UpTo ?po_UpTo ?sa_UpTo ?mk_UpTo ?kp_UpTo ?no_UpTo_kind ?no_UpTo_most ?no_UpTo_each ?t1_UpTo ?t2_UpTo ?t3_UpTo ?t4_UpTo ?b_Several ?pg_Several ?hd_Several ?po_Several ?sa_Several ?mk_Several ?kp_Several ?no_Several_bids ?t1_Several ?t2_Several ?t3_Several ?t4_Several ?b_AnyOf ?pg_AnyOf ?hd_AnyOf ?po_AnyOf ?sa_AnyOf ?mk_AnyOf ?kp_AnyOf ?no_AnyOf_bids ?t1_AnyOf ?t2_AnyOf ?t3_AnyOf ?t4_AnyOf ?b_OneOf ?pg_OneOf ?hd_OneOf ?po_OneOf ?sa_OneOf ?mk_OneOf ?kp_OneOf ?no_OneOf_bids ?t1_OneOf ?t2_OneOf ?t3_OneOf ?t4_OneOf ?kit_Bid_Bid ?kit_Only_Bid ?kit_SoMany_Bid ?kit_UpTo_Bid ?kit_Several_Bid ?kit_AnyOf_Bid ?kit_OneOf_Bid ?a0 ?l0 ?c0 ?k0 ?a1 ?l1 ?c1 ?k1 ?a2 ?l2 ?c2 ?k2 ?a3 ?l3 ?c3 ?k3 ?a4 ?l4 ?c4 ?k4 ?a5 ?l5 ?c5 ?k5 ?a6 ?l6 ?c6 ?k6 ?a7 ?l7 ?c7 ?k7 ?a8 ?l8 ?c8 ?k8 ?a9 ?l9 ?c9 ?k9 ?a10 ?l10 ?c10 ?k10 ?a11 ?l11 ?c11 ?k11 ?a12 ?l12 ?c12 ?k12 ?a13 ?l13 ?c13 ?k13 ?a14 ?l14 ?c14 ?k14 ?a15 ?l15 ?c15 ?k15 ?a16 ?l16 ?c16 ?k16 ?a17 ?l17 ?c17 ?k17 ?a18 ?l18 ?c18 ?k18 ?a19 ?l19 ?c19 ?k19 ?a20 ?l20 ?c20 ?k20 ?a21 ?l21 ?c21 ?k21 ?a22 ?l22 ?c22 ?k22 ?a23 ?l23 ?c23 ?k23 ?a24 ?l24 ?c24 ?k24 ?a25 ?l25 ?c25 ?k25 ?a26 ?l26 ?c26 ?k26 ?a27 ?l27 ?c27 ?k27 ?a28 ?l28 ?c28 ?k28 ?a29 ?l29 ?c29 ?k29 ?a30 ?l30 ?c30 ?k30 ?a31 ?l31 ?c31 ?k31 ?n31 ?i31_Several ?a32 ?l32 ?c32 ?k32 ?n32 ?i32_Only ?i32_SoMany ?i32_UpTo ?a33 ?l33 ?c33 ?k33 ?n33 ?i33_Only ?i33_SoMany ?i33_UpTo ?a34 ?l34 ?c34 ?k34 ?n34 ?a35 ?l35 ?c35 ?k35 ?n35 ?a36 ?l36 ?c36 ?k36 ?n36 ?a37 ?l37 ?c37 ?k37 ?n37 ?a38 ?l38 ?c38 ?k38 ?n38 ?a39 ?l39 ?c39 ?k39 ?n39 ?a40 ?l40 ?c40 ?k40 ?n40 ?i40_AnyOf ?i40_OneOf ?a41 ?l41 ?c41 ?k41 ?n41 ?i41_AnyOf ?i41_OneOf ?a42 ?l42 ?c42 ?k42 ?n42 ?i42_AnyOf ?i42_OneOf ?a43 ?l43 ?c43 ?k43 ?n43 ?a44 ?l44 ?c44 ?k44 ?n44 ?z_isinstance ?z_int ?z_bool ?z_range ?z_len ?z_list ?z_max ?z_sum ?z_zip ?z_ValueError ?z_min ?b_self ?b_HallError ?b_NoBundle ?b_NoName ?b_NoNumber ?b_NoPaper ?b_NoRow ?b_BadStep ?b_NoText ?b_TooLate ?b_TooMany ?q_NoBundle ?q_NoName ?q_NoNumber ?q_NoPaper ?q_NoRow ?q_BadStep ?q_NoText ?q_TooLate ?q_TooMany ?e_own ?e_obj ?e_exc ?e_att ?e_ga ?e_gt ?e_val ?e_lk ?e_hx ?e_sub ?q_hall ?e_slk ?e_slf ?q_b_non ?q_b_bl ?q_b_int ?q_b_str ?q_b_lst ?q_b_tup ?q_b_dct ?q_l_Bid ?q_l_Only ?q_l_SoMany ?q_l_UpTo
    (case b_Bid => k_is)
    (case pg_Bid => k_is)
    (case hd_Bid => k_is)
    (case po_Bid => k_is)
    (case sa_Bid => k_is)
    (case mk_Bid => k_is)
    (case kp_Bid => k_is)
    (case t1_Bid => k_is)
    (case t2_Bid => k_is)
    (case t3_Bid => k_is)
    (case t4_Bid => k_is)
    (case in_Bid => k_is)
    (case b_Only => k_is)
    (case pg_Only => k_is)
    (case hd_Only => k_is)
    (case po_Only => k_is)
    (case sa_Only => k_is)
    (case mk_Only => k_is)
    (case kp_Only => k_is)
    (case no_Only_bundle => k_is)
    (case no_Only_amount => k_is)
    (case t1_Only => k_is)
    (case t2_Only => k_is)
    (case t3_Only => k_is)
    (case t4_Only => k_is)
    (case b_SoMany => k_is)
    (case pg_SoMany => k_is)
    (case hd_SoMany => k_is)
    (case po_SoMany => k_is)
    (case sa_SoMany => k_is)
    (case mk_SoMany => k_is)
    (case kp_SoMany => k_is)
    (case no_SoMany_kind => k_is)
    (case no_SoMany_least => k_is)
    (case no_SoMany_amount => k_is)
    (case t1_SoMany => k_is)
    (case t2_SoMany => k_is)
    (case t3_SoMany => k_is)
    (case t4_SoMany => k_is)
    (case b_UpTo => k_is)
    (case pg_UpTo => k_is)
    (case hd_UpTo => k_is)
    (case po_UpTo => k_is)
    (case sa_UpTo => k_is)
    (case mk_UpTo => k_is)
    (case kp_UpTo => k_is)
    (case no_UpTo_kind => k_is)
    (case no_UpTo_most => k_is)
    (case no_UpTo_each => k_is)
    (case t1_UpTo => k_is)
    (case t2_UpTo => k_is)
    (case t3_UpTo => k_is)
    (case t4_UpTo => k_is)
    (case b_Several => k_is)
    (case pg_Several => k_is)
    (case hd_Several => k_is)
    (case po_Several => k_is)
    (case sa_Several => k_is)
    (case mk_Several => k_is)
    (case kp_Several => k_is)
    (case no_Several_bids => k_is)
    (case t1_Several => k_is)
    (case t2_Several => k_is)
    (case t3_Several => k_is)
    (case t4_Several => k_is)
    (case b_AnyOf => k_is)
    (case pg_AnyOf => k_is)
    (case hd_AnyOf => k_is)
    (case po_AnyOf => k_is)
    (case sa_AnyOf => k_is)
    (case mk_AnyOf => k_is)
    (case kp_AnyOf => k_is)
    (case no_AnyOf_bids => k_is)
    (case t1_AnyOf => k_is)
    (case t2_AnyOf => k_is)
    (case t3_AnyOf => k_is)
    (case t4_AnyOf => k_is)
    (case b_OneOf => k_is)
    (case pg_OneOf => k_is)
    (case hd_OneOf => k_is)
    (case po_OneOf => k_is)
    (case sa_OneOf => k_is)
    (case mk_OneOf => k_is)
    (case kp_OneOf => k_is)
    (case no_OneOf_bids => k_is)
    (case t1_OneOf => k_is)
    (case t2_OneOf => k_is)
    (case t3_OneOf => k_is)
    (case t4_OneOf => k_is)
    (case kit_Bid_Bid => kit_is)
    (case kit_Only_Bid => kit_is)
    (case kit_SoMany_Bid => kit_is)
    (case kit_UpTo_Bid => kit_is)
    (case kit_Several_Bid => kit_is)
    (case kit_AnyOf_Bid => kit_is)
    (case kit_OneOf_Bid => kit_is)
    (case a0 => k_is)
    (case l0 => k_is)
    (case c0 => k_is)
    (case k0 => k_is)
    (case a1 => k_is)
    (case l1 => k_is)
    (case c1 => k_is)
    (case k1 => k_is)
    (case a2 => k_is)
    (case l2 => k_is)
    (case c2 => k_is)
    (case k2 => k_is)
    (case a3 => k_is)
    (case l3 => k_is)
    (case c3 => k_is)
    (case k3 => k_is)
    (case a4 => k_is)
    (case l4 => k_is)
    (case c4 => k_is)
    (case k4 => k_is)
    (case a5 => k_is)
    (case l5 => k_is)
    (case c5 => k_is)
    (case k5 => k_is)
    (case a6 => k_is)
    (case l6 => k_is)
    (case c6 => k_is)
    (case k6 => k_is)
    (case a7 => k_is)
    (case l7 => k_is)
    (case c7 => k_is)
    (case k7 => k_is)
    (case a8 => k_is)
    (case l8 => k_is)
    (case c8 => k_is)
    (case k8 => k_is)
    (case a9 => k_is)
    (case l9 => k_is)
    (case c9 => k_is)
    (case k9 => k_is)
    (case a10 => k_is)
    (case l10 => k_is)
    (case c10 => k_is)
    (case k10 => k_is)
    (case a11 => k_is)
    (case l11 => k_is)
    (case c11 => k_is)
    (case k11 => k_is)
    (case a12 => k_is)
    (case l12 => k_is)
    (case c12 => k_is)
    (case k12 => k_is)
    (case a13 => k_is)
    (case l13 => k_is)
    (case c13 => k_is)
    (case k13 => k_is)
    (case a14 => k_is)
    (case l14 => k_is)
    (case c14 => k_is)
    (case k14 => k_is)
    (case a15 => k_is)
    (case l15 => k_is)
    (case c15 => k_is)
    (case k15 => k_is)
    (case a16 => k_is)
    (case l16 => k_is)
    (case c16 => k_is)
    (case k16 => k_is)
    (case a17 => k_is)
    (case l17 => k_is)
    (case c17 => k_is)
    (case k17 => k_is)
    (case a18 => k_is)
    (case l18 => k_is)
    (case c18 => k_is)
    (case k18 => k_is)
    (case a19 => k_is)
    (case l19 => k_is)
    (case c19 => k_is)
    (case k19 => k_is)
    (case a20 => k_is)
    (case l20 => k_is)
    (case c20 => k_is)
    (case k20 => k_is)
    (case a21 => k_is)
    (case l21 => k_is)
    (case c21 => k_is)
    (case k21 => k_is)
    (case a22 => k_is)
    (case l22 => k_is)
    (case c22 => k_is)
    (case k22 => k_is)
    (case a23 => k_is)
    (case l23 => k_is)
    (case c23 => k_is)
    (case k23 => k_is)
    (case a24 => k_is)
    (case l24 => k_is)
    (case c24 => k_is)
    (case k24 => k_is)
    (case a25 => k_is)
    (case l25 => k_is)
    (case c25 => k_is)
    (case k25 => k_is)
    (case a26 => k_is)
    (case l26 => k_is)
    (case c26 => k_is)
    (case k26 => k_is)
    (case a27 => k_is)
    (case l27 => k_is)
    (case c27 => k_is)
    (case k27 => k_is)
    (case a28 => k_is)
    (case l28 => k_is)
    (case c28 => k_is)
    (case k28 => k_is)
    (case a29 => k_is)
    (case l29 => k_is)
    (case c29 => k_is)
    (case k29 => k_is)
    (case a30 => k_is)
    (case l30 => k_is)
    (case c30 => k_is)
    (case k30 => k_is)
    (case a31 => k_is)
    (case l31 => k_is)
    (case c31 => k_is)
    (case k31 => k_is)
    (case n31 => k_is)
    (case i31_Several => k_is)
    (case a32 => k_is)
    (case l32 => k_is)
    (case c32 => k_is)
    (case k32 => k_is)
    (case n32 => k_is)
    (case i32_Only => k_is)
    (case i32_SoMany => k_is)
    (case i32_UpTo => k_is)
    (case a33 => k_is)
    (case l33 => k_is)
    (case c33 => k_is)
    (case k33 => k_is)
    (case n33 => k_is)
    (case i33_Only => k_is)
    (case i33_SoMany => k_is)
    (case i33_UpTo => k_is)
    (case a34 => k_is)
    (case l34 => k_is)
    (case c34 => k_is)
    (case k34 => k_is)
    (case n34 => k_is)
    (case a35 => k_is)
    (case l35 => k_is)
    (case c35 => k_is)
    (case k35 => k_is)
    (case n35 => k_is)
    (case a36 => k_is)
    (case l36 => k_is)
    (case c36 => k_is)
    (case k36 => k_is)
    (case n36 => k_is)
    (case a37 => k_is)
    (case l37 => k_is)
    (case c37 => k_is)
    (case k37 => k_is)
    (case n37 => k_is)
    (case a38 => k_is)
    (case l38 => k_is)
    (case c38 => k_is)
    (case k38 => k_is)
    (case n38 => k_is)
    (case a39 => k_is)
    (case l39 => k_is)
    (case c39 => k_is)
    (case k39 => k_is)
    (case n39 => k_is)
    (case a40 => k_is)
    (case l40 => k_is)
    (case c40 => k_is)
    (case k40 => k_is)
    (case n40 => k_is)
    (case i40_AnyOf => k_is)
    (case i40_OneOf => k_is)
    (case a41 => k_is)
    (case l41 => k_is)
    (case c41 => k_is)
    (case k41 => k_is)
    (case n41 => k_is)
    (case i41_AnyOf => k_is)
    (case i41_OneOf => k_is)
    (case a42 => k_is)
    (case l42 => k_is)
    (case c42 => k_is)
    (case k42 => k_is)
    (case n42 => k_is)
    (case i42_AnyOf => k_is)
    (case i42_OneOf => k_is)
    (case a43 => k_is)
    (case l43 => k_is)
    (case c43 => k_is)
    (case k43 => k_is)
    (case n43 => k_is)
    (case a44 => k_is)
    (case l44 => k_is)
    (case c44 => k_is)
    (case k44 => k_is)
    (case n44 => k_is)
    (case z_isinstance => k_is)
    (case z_int => k_is)
    (case z_bool => k_is)
    (case z_range => k_is)
    (case z_len => k_is)
    (case z_list => k_is)
    (case z_max => k_is)
    (case z_sum => k_is)
    (case z_zip => k_is)
    (case z_ValueError => k_is)
    (case z_min => k_is)
    (case b_self => k_is)
    (case b_HallError => k_is)
    (case b_NoBundle => k_is)
    (case b_NoName => k_is)
    (case b_NoNumber => k_is)
    (case b_NoPaper => k_is)
    (case b_NoRow => k_is)
    (case b_BadStep => k_is)
    (case b_NoText => k_is)
    (case b_TooLate => k_is)
    (case b_TooMany => k_is)
    (case q_NoBundle => kit_is)
    (case q_NoName => kit_is)
    (case q_NoNumber => kit_is)
    (case q_NoPaper => kit_is)
    (case q_NoRow => kit_is)
    (case q_BadStep => kit_is)
    (case q_NoText => kit_is)
    (case q_TooLate => kit_is)
    (case q_TooMany => kit_is)
    (case e_own => k_exc)
    (case e_obj => k_is)
    (case e_exc => k_is)
    (case e_att => k_is)
    (case e_ga => k_is)
    (case e_gt => k_is)
    (case e_val => kit_is)
    (case e_lk => k_is)
    (case e_hx => k_is)
    (case e_sub => k_is)
    (case q_hall => kit_is)
    (case e_slk => k_is)
    (case e_slf => k_is)
    (case q_b_non => kit_is)
    (case q_b_bl => kit_is)
    (case q_b_int => kit_is)
    (case q_b_str => kit_is)
    (case q_b_lst => kit_is)
    (case q_b_tup => kit_is)
    (case q_b_dct => kit_is)
    (case q_l_Bid => kit_is)
    (case q_l_Only => kit_is)
    (case q_l_SoMany => kit_is)
    (case q_l_UpTo => kit_is)


