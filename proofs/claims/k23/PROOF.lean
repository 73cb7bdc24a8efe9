import PyProof.Rows.All
import Wide.All
import OpenK.AllK
import Wide.FinOn
import Lean
import PyProof.EqAt
import PyProof.EqKinds
import PyProof.TupleCall
import PyProof.ZipIter
import PyProof.LayNew
import PyProof.Rows.ZipGen
import PyProof.Rows.FactsT2
import KE.KMinKey
import PySem.Challenge.RW_gavelhall_k23_any_shares
set_option genSizeOf false
set_option Elab.async false
set_option linter.all false
set_option maxRecDepth 100000
/-! THE HAND LAYER, for ints, bools, texts, own classes, LISTS and tuples (index, slices, in, append, pop ..), calls, loops. Paste it whole ahead of your own text; what your proof does not reach may be deleted. -/
namespace L2
open PySem PySem.Spec PyProof.Rows

/-- a key: an int or a str -/
noncomputable abbrev Key := Sum Int Str
noncomputable def keyIs : Key → Value → Bool
  | .inl k, v => Value.isInt k v
  | .inr x, v => Value.isStrOf x v
noncomputable def keyH (w : World) : Key → Int
  | .inl k => hashInt k
  | .inr x => hashStr w x
theorem keyIs_shape : ∀ {k : Key} {v : Value}, keyIs k v = true → (∃ i t, k = Sum.inl i ∧ v = Value.int i t) ∨ (∃ x t, k = Sum.inr x ∧ v = Value.str x t)
  | .inl i, v, h => by
    obtain ⟨t, e⟩ := Value.isInt_shape (k := i) (v := v) h
    exact .inl ⟨i, t, rfl, e⟩
  | .inr x, v, h => by
    obtain ⟨t, e⟩ := Value.isStrOf_shape (x := x) (v := v) h
    exact .inr ⟨x, t, rfl, e⟩
theorem key_ll (a b : Int) : decide ((Sum.inl a : Key) = Sum.inl b) = (a == b) := by
  by_cases e : a = b
  · subst e; simp
  · have h : ¬ (Sum.inl a : Key) = Sum.inl b := fun q => e (Sum.inl.inj q)
    rw [decide_eq_false h]
    exact (beq_eq_false_iff_ne.mpr e).symm
theorem key_rr (a b : Str) : decide ((Sum.inr a : Key) = Sum.inr b) = decide (a = b) := by
  by_cases e : a = b
  · subst e; simp
  · have h : ¬ (Sum.inr a : Key) = Sum.inr b := fun q => e (Sum.inr.inj q)
    rw [decide_eq_false h, decide_eq_false e]
theorem key_lr (a : Int) (b : Str) : decide ((Sum.inl a : Key) = Sum.inr b) = false := decide_eq_false (fun q => nomatch q)
theorem key_rl (a : Str) (b : Int) : decide ((Sum.inr a : Key) = Sum.inl b) = false := decide_eq_false (fun q => nomatch q)

noncomputable def mixKind (prog : Program) (w : World) : PySem.KeyKind prog w Key where
  is := keyIs
  hash := keyH w
  inj := fun v a b ha hb => by
    rcases keyIs_shape ha with ⟨i, t, rfl, rfl⟩ | ⟨x, t, rfl, rfl⟩
    · rcases keyIs_shape hb with ⟨j, u, rfl, e⟩ | ⟨y, u, rfl, e⟩
      · injection e with e1 _; rw [e1]
      · exact nomatch e
    · rcases keyIs_shape hb with ⟨j, u, rfl, e⟩ | ⟨y, u, rfl, e⟩
      · exact nomatch e
      · injection e with e1 _; rw [e1]
  byValue := fun k v h => by
    rcases keyIs_shape h with ⟨i, t, rfl, rfl⟩ | ⟨x, t, rfl, rfl⟩ <;> rfl
  pyHash := fun hv h => by
    rcases keyIs_shape hv with ⟨i, t, rfl, rfl⟩ | ⟨x, t, rfl, rfl⟩
    · exact wpAny_pyHash_int h
    · exact wpAny_pyHash_str h
  eqBool := fun hu hv h => by
    rcases keyIs_shape hu with ⟨i, t, rfl, rfl⟩ | ⟨x, t, rfl, rfl⟩
    · rcases keyIs_shape hv with ⟨j, u, rfl, rfl⟩ | ⟨y, u, rfl, rfl⟩
      · rw [key_ll] at h; exact wpAny_eqBool_int h
      · rw [key_lr] at h; exact SeqAt.EqAt.int_str i t y u _ _ _ _ h
    · rcases keyIs_shape hv with ⟨j, u, rfl, rfl⟩ | ⟨y, u, rfl, rfl⟩
      · rw [key_rl] at h; exact SeqAt.EqAt.str_int x t j u _ _ _ _ h
      · rw [key_rr] at h; exact wpAny_eqBool_str h
  «strs» := fun k x t v h => by
    rcases keyIs_shape h with ⟨i, u, rfl, e⟩ | ⟨y, u, rfl, e⟩
    · exact nomatch e
    · injection e with e1 _
      subst e1
      cases v <;> rfl

end L2

namespace L2
open PySem PySem.Spec PyProof.Rows

/-- a value, without the heap -/
inductive V where
  | non | bl (b : Bool) | int (i : Int) | str (x : Str) | byt (b : Array UInt8) | flt (b : UInt64) | ref (a : Addr) | ty (n : String)
  deriving DecidableEq

noncomputable def RelV : V → Value → Prop
  | .non, u => u = Value.none
  | .bl b, u => u = Value.bool b
  | .int i, u => ∃ t, u = Value.int i t
  | .str x, u => ∃ t, u = Value.str x t
  | .byt b, u => ∃ t, u = Value.bytes b t
  | .flt b, u => ∃ t, u = Value.float b t
  | .ref a, u => u = Value.ref a
  | .ty n, u => u = Value.type n

noncomputable abbrev Vals : List V → List Value → Prop := Paired RelV
theorem Vals.length {xs : List V} {us : List Value} (r : Vals xs us) : xs.length = us.length := Paired.length r
theorem Vals.get : ∀ {xs : List V} {us : List Value} {i : Nat} {x : V}, Vals xs us → xs[i]? = some x → ∃ u, us[i]? = some u ∧ RelV x u
  | _, _, _, _, .nil, e => by simp at e
  | _, _, 0, _, .cons r _, e => by simp at e; subst e; exact ⟨_, rfl, r⟩
  | _, _, i + 1, x, .cons _ t, e => by
    obtain ⟨u, h1, h2⟩ := Vals.get (i := i) (x := x) t (by simpa using e)
    exact ⟨u, by simpa using h1, h2⟩
theorem Vals.set {x : V} {u : Value} (r : RelV x u) : ∀ {xs : List V} {us : List Value} (i : Nat), Vals xs us → Vals (xs.set i x) (us.set i u)
  | _, _, _, .nil => .nil
  | _, _, 0, .cons _ t => .cons r t
  | _, _, i + 1, .cons q t => .cons q (Vals.set r i t)
theorem Vals.append : ∀ {xs ys : List V} {us ws : List Value}, Vals xs us → Vals ys ws → Vals (xs ++ ys) (us ++ ws)
  | _, _, _, _, .nil, s => s
  | _, _, _, _, .cons r t, s => .cons r (Vals.append t s)
theorem Vals.take : ∀ {xs : List V} {us : List Value} (n : Nat), Vals xs us → Vals (xs.take n) (us.take n)
  | _, _, 0, _ => .nil
  | _, _, _ + 1, .nil => .nil
  | _, _, n + 1, .cons r t => .cons r (Vals.take n t)
theorem Vals.drop : ∀ {xs : List V} {us : List Value} (n : Nat), Vals xs us → Vals (xs.drop n) (us.drop n)
  | _, _, 0, r => r
  | _, _, _ + 1, .nil => .nil
  | _, _, n + 1, .cons _ t => Vals.drop n t

noncomputable def RelO : Option V → Option Value → Prop
  | some v, some u => RelV v u
  | none, none => True
  | _, _ => False
noncomputable def KV {κ : Type} : List (κ × V) → List (κ × Value) → Prop := Paired fun (p : κ × V) (q : κ × Value) => p.1 = q.1 ∧ RelV p.2 q.2

/-- a key of a dict (00_mix): an int or a text -/
noncomputable def kV : Key → V
  | .inl i => .int i
  | .inr x => .str x

/-- what stands at a tracked address -/
inductive HO where
  /-- a list -/
  | lst (xs : List V)
  /-- a tuple (never changes) -/
  | tup (xs : List V)
  /-- a dict whose keys are ints and texts; one whose keys are tuples of ints and texts (the empty one is both) -/
  | dK (kvs : List (Key × V)) | dT (kvs : List (List Key × V))
  /-- a set of ints: its members, its size -/
  | set (S : Int → Bool) (n : Nat)
  /-- an instance of the class at C, its dict at dx, its attributes -/
  | ins (C dx : Addr) (fs : List (Str × V))
  /-- the dict of the instance at x -/
  | own (x : Addr)
  /-- the dict of an exception -/
  | xd (fs : List (Str × V))
  /-- a bound method, f of x -/
  | met (f x : Addr)
  /-- a range object lo, lo + 1, .. below hi -/
  | rng (lo hi : Int)
  /-- a thing that is known to the object (the script; a dict while a loop walks it): read, never written while it is so -/
  | frz (o : Obj) (u : HO)
  /-- a code object's table -/
  | tbl (ps : Array Value)
  /-- any other thing, by what is true of its one object (a def of one's own: SetO a S n := HO.ext fun h => ..) -/
  | ext (φ : Heap → Prop)

noncomputable abbrev Hp := Addr → Option HO
noncomputable def upd (H : Hp) (a : Addr) (o : HO) : Hp := fun b => if b = a then some o else H b
theorem upd_same {H : Hp} {a : Addr} {o : HO} : upd H a o a = some o := by unfold upd; rw [if_pos rfl]
theorem upd_ne {H : Hp} {a b : Addr} {o : HO} (h : b ≠ a) : upd H a o b = H b := by unfold upd; rw [if_neg h]
theorem upd_upd {H : Hp} {a : Addr} {o u : HO} : upd (upd H a o) a u = upd H a u := by
  funext b; unfold upd; split <;> rfl
theorem ne_of_none {H : Hp} {a b : Addr} {o : HO} (h : H a = some o) (h' : H b = none) : a ≠ b := by
  intro e; subst e; rw [h] at h'; cases h'

section
variable (P : Program) (w : World)
noncomputable def ObjOk (H : Hp) (h : Heap) (a : Addr) : HO → Prop
  | .lst xs => xs.length ≤ sizeLine ∧ ∃ (its : List Value) (n : Nat), Vals xs its ∧ h.get? a = some { cls := .type "list", data := .seq its.toArray n }
  | .tup xs => xs.length ≤ sizeLine ∧ ∃ its : List Value, Vals xs its ∧ IsTup h a its.toArray
  | .dK kvs => kvs.length ≤ sizeLine ∧ (a == sysModules) = false ∧ ∃ vs, KV kvs vs ∧ h.DictOf (mixKind P w) a vs
  | .dT kvs => kvs.length ≤ sizeLine ∧ (a == sysModules) = false ∧ ∃ xs : List (List Key × Addr × Value),
      Paired (fun (p : List Key × V) (q : List Key × Addr × Value) => p.1 = q.1 ∧ H q.2.1 = some (.tup (p.1.map kV)) ∧ RelV p.2 q.2.2) kvs xs ∧
      ∃ o es ep, h.get? a = some o ∧ o.ExactDict ∧ o.data = .dict es ep ∧ es.toList = xs.map (entryOfKey (tupleKind (mixKind P w))) ∧ (xs.map (·.1)).Nodup
  | .set S n => h.SetOf (intKind P w) a S n
  | .ins C dx fs => H dx = some (.own a) ∧ fs.length ≤ 1000 ∧ dx ≠ a ∧ h.get? a = some (PySem.W.instObj C dx) ∧
      ∃ mA, h.Ns1 dx mA ∧ (∀ f, RelO (fs.lookup f) (mA f)) ∧ PySem.Within mA (fs.map (·.1))
  | .own _ => ∃ o, h.get? a = some o
  | .xd fs => ∃ mA, h.Ns1 a mA ∧ ∀ f, RelO (fs.lookup f) (mA f)
  | .rng lo hi => ∃ t u v, h.get? a = some { cls := .type "range", data := .fields #[.int lo t, .int hi u, .int 1 v] }
  | .frz o u => h.get? a = some o ∧ ObjOk H h a u
  | .tbl ps => h.get? a = some { cls := .none, data := .fields ps }
  | .met f x => h.get? a = some (PySem.W.methodObj (.ref f) (.ref x))
  | .ext φ => φ h ∧ (∃ o, h.get? a = some o) ∧ ∀ h1 h2 : Heap, φ h1 → (∀ o, h1.get? a = some o → h2.get? a = some o) → φ h2
/-- the abstract heap is held -/
noncomputable def HOk (H : Hp) (h : Heap) : Prop := ∀ a o, H a = some o → ObjOk P w H h a o
end

section
variable {P : Program} {w : World} {H H' : Hp} {h h' : Heap} {a : Addr} {o : HO}
theorem ObjOk.lt (x : ObjOk P w H h a o) : a < h.objs.size := by
  cases o with
  | lst xs => obtain ⟨_, _, _, _, e⟩ := x; exact Heap.lt_size e
  | tup xs => obtain ⟨_, _, _, p⟩ := x; exact p.lt
  | dK kvs => obtain ⟨_, _, _, _, o, _, _, e, _⟩ := x; exact Heap.lt_size e
  | dT kvs => obtain ⟨_, _, _, _, o, _, _, e, _⟩ := x; exact Heap.lt_size e
  | set S n => obtain ⟨o, _, _, _, e, _⟩ := x; exact Heap.lt_size e
  | ins C dx fs => obtain ⟨_, _, _, e, _⟩ := x; exact Heap.lt_size e
  | own y => obtain ⟨_, e⟩ := x; exact Heap.lt_size e
  | xd fs => obtain ⟨_, ⟨_, _, _, e, _⟩, _⟩ := x; exact Heap.lt_size e
  | rng lo hi => obtain ⟨_, _, _, e⟩ := x; exact Heap.lt_size e
  | frz ob u => obtain ⟨e, _⟩ := x; exact Heap.lt_size e
  | tbl ps => exact Heap.lt_size (show h.get? a = some _ from x)
  | met f y => exact Heap.lt_size (show h.get? a = some _ from x)
  | ext φ => obtain ⟨_, ⟨_, e⟩, _⟩ := x; exact Heap.lt_size e
theorem Paired.mapP {α β : Type} {F G : α → β → Prop} : ∀ {l₁ : List α} {l₂ : List β}, Paired F l₁ l₂ → (∀ a b, F a b → G a b) → Paired G l₁ l₂
  | _, _, .nil, _ => .nil
  | _, _, .cons r t, f => .cons (f _ _ r) (Paired.mapP t f)
/-- what an object's description leans on: its own object, its own dict, the tuples -/
theorem ObjOk.stay (x : ObjOk P w H h a o) (k : ∀ b u, (b = a ∨ H b = some (.own a)) → h.get? b = some u → h'.get? b = some u)
    (ho : ∀ b, H b = some (.own a) → H' b = some (.own a)) (ht : ∀ b xs, H b = some (.tup xs) → H' b = some (.tup xs)) : ObjOk P w H' h' a o := by
  induction o with
  | lst xs => obtain ⟨z, its, n, r, e⟩ := x; exact ⟨z, its, n, r, k _ _ (.inl rfl) e⟩
  | tup xs => obtain ⟨z, its, r, ob, e, c⟩ := x; exact ⟨z, its, r, ob, k _ _ (.inl rfl) e, c⟩
  | dK kvs => obtain ⟨z, y, vs, r, ob, es, ep, e, c⟩ := x; exact ⟨z, y, vs, r, ob, es, ep, k _ _ (.inl rfl) e, c⟩
  | dT kvs =>
    obtain ⟨z, y, xs, r, ob, es, ep, e, c⟩ := x
    exact ⟨z, y, xs, Paired.mapP r fun p q z => ⟨z.1, ht _ _ z.2.1, z.2.2⟩, ob, es, ep, k _ _ (.inl rfl) e, c⟩
  | set S n => obtain ⟨ob, es, ep, t, e, c⟩ := x; exact ⟨ob, es, ep, t, k _ _ (.inl rfl) e, c⟩
  | ins C dx fs =>
    obtain ⟨d, z, ne, e, mA, ⟨od, es, ep, e2, c⟩, r⟩ := x
    exact ⟨ho _ d, z, ne, k _ _ (.inl rfl) e, mA, ⟨od, es, ep, k _ _ (.inr d) e2, c⟩, r⟩
  | own y => obtain ⟨ob, e⟩ := x; exact ⟨ob, k _ _ (.inl rfl) e⟩
  | xd fs => obtain ⟨mA, ⟨od, es, ep, e, c⟩, r⟩ := x; exact ⟨mA, ⟨od, es, ep, k _ _ (.inl rfl) e, c⟩, r⟩
  | rng lo hi => obtain ⟨t, u, v, e⟩ := x; exact ⟨t, u, v, k _ _ (.inl rfl) e⟩
  | frz ob u ih => obtain ⟨e, q⟩ := x; exact ⟨k _ _ (.inl rfl) e, ih q⟩
  | tbl ps =>
    have e : h.get? a = some { cls := .none, data := .fields ps } := x
    show h'.get? a = some { cls := .none, data := .fields ps }
    exact k a _ (.inl rfl) e
  | met f y =>
    have e : h.get? a = some (PySem.W.methodObj (.ref f) (.ref y)) := x
    show h'.get? a = some (PySem.W.methodObj (.ref f) (.ref y))
    exact k a _ (.inl rfl) e
  | ext φ => obtain ⟨p, ⟨o, e⟩, st⟩ := x; exact ⟨st _ _ p fun o q => k _ _ (.inl rfl) q, ⟨o, k _ _ (.inl rfl) e⟩, st⟩
theorem HOk.lt (x : HOk P w H h) (e : H a = some o) : a < h.objs.size := (x a o e).lt
theorem HOk.fresh (x : HOk P w H h) (e : h.objs.size ≤ a) : H a = none := by
  cases q : H a with
  | none => rfl
  | some u => exact absurd (Nat.lt_of_lt_of_le (x.lt q) e) (Nat.lt_irrefl _)
/-- every object of the heap is kept -/
theorem HOk.kept (x : HOk P w H h) (k : ∀ b u, h.get? b = some u → h'.get? b = some u) : HOk P w H h' := fun a o e =>
  (x a o e).stay (fun b u _ q => k b u q) (fun _ q => q) fun _ _ q => q
/-- a new object is laid and tracked -/
theorem HOk.laid (x : HOk P w H h) (k : ∀ b u, h.get? b = some u → h'.get? b = some u) (hp : h.objs.size ≤ a) (new : ObjOk P w (upd H a o) h' a o) : HOk P w (upd H a o) h' := fun b u e => by
  have hn := x.fresh hp
  by_cases hb : b = a
  · subst hb; rw [upd_same] at e; cases e; exact new
  · rw [upd_ne hb] at e
    exact (x b u e).stay (fun c v _ q => k c v q) (fun c q => by rw [upd_ne (ne_of_none q hn)]; exact q) fun c xs q => by rw [upd_ne (ne_of_none q hn)]; exact q
end

/-- what may be read as u: it is u, or a known u -/
noncomputable def Rd (H : Hp) (a : Addr) (u : HO) : Prop := H a = some u ∨ ∃ o, H a = some (.frz o u)
theorem Rd.ok {P : Program} {w : World} {H : Hp} {h : Heap} {a : Addr} {u : HO} (r : Rd H a u) (x : HOk P w H h) : ObjOk P w H h a u := by
  rcases r with r | ⟨o, r⟩
  · exact x a u r
  · obtain ⟨_, q⟩ := x a _ r
    exact q
/-- what may be written -/
noncomputable def Mut : Option HO → Prop
  | some (.lst _) => True
  | some (.dK _) => True
  | some (.dT _) => True
  | some (.set _ _) => True
  | some (.ins _ _ _) => True
  | some (.ext _) => True
  | _ => False
section
variable {P : Program} {w : World} {H : Hp} {h h' : Heap} {x e : Addr} {o' : HO}
/-- the object at e is changed: x itself, or the dict of the instance x -/
theorem HOk.write (ok : HOk P w H h) (mu : Mut (H x)) (he : e = x ∨ H e = some (.own x)) (k : ∀ b u, b ≠ e → h.get? b = some u → h'.get? b = some u) (heo : ∃ u, h'.get? e = some u)
    (new : ObjOk P w (upd H x o') h' x o') : HOk P w (upd H x o') h' := fun b u q => by
  have nown : ∀ c y, H c = some (.own y) → c ≠ x := fun c y r z => by subst z; rw [r] at mu; exact mu
  have ntup : ∀ c xs, H c = some (.tup xs) → c ≠ x := fun c xs r z => by subst z; rw [r] at mu; exact mu
  by_cases hb : b = x
  · subst hb; rw [upd_same] at q; cases q; exact new
  · rw [upd_ne hb] at q
    by_cases hbe : b = e
    · have q' : H b = some (.own x) := by
        rcases he with z | z
        · exact absurd (hbe.trans z) hb
        · rw [hbe]; exact z
      rw [q] at q'; cases q'
      obtain ⟨v, hv⟩ := heo
      exact ⟨v, by rw [hbe]; exact hv⟩
    · refine (ok b u q).stay (fun c v hc r => k c v ?_ r) (fun c r => by rw [upd_ne (nown c b r)]; exact r) fun c xs r => by rw [upd_ne (ntup c xs r)]; exact r
      rcases hc with rfl | hc
      · exact hbe
      · rintro rfl
        rcases he with z | z
        · exact nown c b hc z
        · rw [hc] at z; cases z; exact hb rfl
end

/-! ### kept unless tracked; of the frames at fs (the callers') the slots may change (an exception that passes writes there); of the records at ex (iterators) nothing is said -/
structure Un (fs ex : List Addr) (H H' : Hp) (h h' : Heap) : Prop where
  keep : ∀ b o, h.get? b = some o → H b = none → b ∉ fs → b ∉ ex → h'.get? b = some o
  slot : ∀ b o, h.get? b = some o → H b = none → b ∈ fs → b ∉ ex → ∃ sl, h'.get? b = some { o with slots := sl }
  free : ∀ b o, h.get? b = some o → H b = none → b ∉ ex → H' b = none
  there : ∀ b o, h.get? b = some o → b ∉ ex → ∃ o', h'.get? b = some o'
  tups : ∀ b xs, H b = some (.tup xs) → H' b = some (.tup xs)
  frzs : ∀ b o u, H b = some (.frz o u) → H' b = some (.frz o u)
  tbls : ∀ b ps, H b = some (.tbl ps) → ∃ more, H' b = some (.tbl (ps ++ more))
section
variable {fs fs' ex ex' : List Addr} {H H1 H2 : Hp} {h h1 h2 h' : Heap} {a x e : Addr} {o : HO}
theorem Un.any (u : Un fs ex H H1 h h1) {b : Addr} {ob : Obj} (q : h.get? b = some ob) (n : H b = none) (hx : b ∉ ex) : ∃ sl, h1.get? b = some { ob with slots := sl } := by
  by_cases hb : b ∈ fs
  · exact u.slot b ob q n hb hx
  · exact ⟨ob.slots, u.keep b ob q n hb hx⟩
theorem Un.kept (k : ∀ b u, h.get? b = some u → h'.get? b = some u) : Un fs ex H H h h' :=
  ⟨fun b ob q _ _ _ => k b ob q, fun b ob q _ _ _ => ⟨ob.slots, k b ob q⟩, fun _ _ _ n _ => n, fun b ob q _ => ⟨ob, k b ob q⟩, fun _ _ q => q, fun _ _ _ q => q, fun _ ps q => ⟨#[], by rw [q]; simp⟩⟩
theorem Un.refl : Un fs ex H H h h := Un.kept fun _ _ q => q
theorem Un.laid (k : ∀ b u, h.get? b = some u → h'.get? b = some u) (hp : h.objs.size ≤ a) (hn : H a = none) : Un fs ex H (upd H a o) h h' where
  keep := fun b u q _ _ _ => k b u q
  slot := fun b u q _ _ _ => ⟨u.slots, k b u q⟩
  free := fun b u q n _ => by rw [upd_ne (Nat.ne_of_lt (Nat.lt_of_lt_of_le (Heap.lt_size q) hp))]; exact n
  there := fun b u q _ => ⟨u, k b u q⟩
  tups := fun b xs q => by rw [upd_ne (ne_of_none q hn)]; exact q
  frzs := fun b u xs q => by rw [upd_ne (ne_of_none q hn)]; exact q
  tbls := fun b ps q => ⟨#[], by rw [upd_ne (ne_of_none q hn), q]; simp⟩
theorem Un.write (mu : Mut (H x)) (he : e = x ∨ H e = some (.own x)) (k : ∀ b u, b ≠ e → h.get? b = some u → h'.get? b = some u) (heo : ∃ u, h'.get? e = some u) : Un fs ex H (upd H x o) h h' := by
  have hx : ∀ b, H b = none → b ≠ x := fun b n z => by subst z; rw [n] at mu; exact mu
  have hb : ∀ b, H b = none → b ≠ e := fun b n z => by
    subst z
    rcases he with r | r
    · exact hx b n r
    · rw [n] at r; cases r
  have hm : ∀ b u, H b = some u → ¬ Mut (some u) → b ≠ x := fun b u q nm z => by subst z; rw [q] at mu; exact nm mu
  refine ⟨fun b u q n _ _ => k b u (hb b n) q, fun b u q n _ _ => ⟨u.slots, k b u (hb b n) q⟩, fun b u q n _ => by rw [upd_ne (hx b n)]; exact n, fun b u q _ => ?_,
    fun b xs q => by rw [upd_ne (hm b _ q fun z => z)]; exact q, fun b u xs q => by rw [upd_ne (hm b _ q fun z => z)]; exact q, fun b ps q => ⟨#[], by rw [upd_ne (hm b _ q fun z => z), q]; simp⟩⟩
  by_cases hbe : b = e
  · subst hbe; exact heo
  · exact ⟨u, k b u hbe q⟩
end

/-! ### the heap without what is tracked -/
noncomputable def trk (h : Heap) (H : Hp) : List Addr := (List.range h.objs.size).filter fun a => (H a).isSome
noncomputable def hidT (h : Heap) (H : Hp) : Heap := PySem.W.hideAll h (trk h H)
theorem hidT_size (h : Heap) (H : Hp) : (hidT h H).objs.size = h.objs.size := PySem.W.hideAll_size _ _
theorem hidT_get {h : Heap} {H : Hp} {b : Addr} {o : Obj} (e : h.get? b = some o) (n : H b = none) : (hidT h H).get? b = some o :=
  PySem.W.hideAll_get _ e fun hm => by
    have q : (H b).isSome = true := (List.mem_filter.mp hm).2
    rw [n] at q; simp at q
theorem of_hidT {h : Heap} {H : Hp} {b : Addr} {o : Obj} (e : (hidT h H).get? b = some o) : h.get? b = some o ∧ H b = none := by
  have e' : h.get? b = some o := PySem.W.of_hideAll (trk h H) e
  refine ⟨e', ?_⟩
  cases q : H b with
  | none => rfl
  | some x =>
    have hm : b ∈ trk h H := List.mem_filter.mpr ⟨List.mem_range.mpr (Heap.lt_size e'), by simp [q]⟩
    have z : (hidT h H).get? b = none := PySem.W.hideAll_none (trk h H) hm
    rw [z] at e; cases e

/-! ### OpenK's ledger, filled with every new object but one -/
end L2

namespace L2
open PySem PySem.Spec PyProof.Rows

/-- the module's facts, over the base: the heap at the law's entry without what is tracked there -/
structure Mod (K : PySem.W.Frag) (mg : Str → Option Value) (base : Heap) : Prop where
  kin : K.In base
  glob : base.Ns mainGlobals mg
  blt : ∃ mb, base.Ns builtinsNs mb ∧ ∀ x : Str, x ≠ "__name__" → mb x = bootBuiltins x
  nolimit : base.NoLimit

/-- the context: a def's body (or a comprehension's block) running. base: fixed through the whole law; s₀, H₀: the entry; outer: the frames whose slots others may change (a def's callers); stack: all frames that run;
   ex: iterators that were made ahead of the entry and are walked here (a comprehension's); fn: the names whose cells were made at the entry (a def: all; a comprehension's block: its own); calm: not within an except suite; pn: pins that every state bears; xe: what is wanted of an exception that leaves the code -/
structure Cx where
  prog : Program
  w : World
  K : PySem.W.Frag
  mg : Str → Option Value
  base : Heap
  A : Around
  N : List Str
  s₀ : Shared
  H₀ : Hp
  env : Env
  outer : List Env
  stack : List Env
  ex : List Addr
  fn : Str → Bool
  calm : Bool
  pn : List (Addr × Obj)
  xe : Value → Shared → Prop
/-- the callers' frames -/
noncomputable def frs (l : List Env) : List Addr := l.filterMap (·.frame)
noncomputable abbrev Cx.fs (X : Cx) : List Addr := frs X.outer

noncomputable def Vis (sc : Scope) (x : Str) : Prop := sc.names.lookup x = some .local ∨ sc.names.lookup x = some .cell ∨ sc.names.lookup x = some .free
noncomputable def Loc (sc : Scope) (x : Str) : Prop := sc.names.lookup x = some .local ∨ sc.names.lookup x = some .cell
noncomputable def Look (env : Env) (h : Heap) (m : Str → Option Value) (x : Str) (u : Value) : Prop :=
  (env.kindOf x = some .local ∧ m x = some u) ∨ ((env.kindOf x = some .cell ∨ env.kindOf x = some .free) ∧ ∃ c, env.cells.lookup x = some c ∧ h.IsCell c (some u))

structure Cx.Ok (X : Cx) : Prop where
  mod : Mod X.K X.mg X.base
  kind : X.env.scope.kind = .function
  glob : X.env.globals = mainGlobals
  blt : X.env.builtins = builtinsNs
  above : X.s₀.heap.objs.size ≤ X.env.locals
  inj : ∀ x y c, X.env.cells.lookup x = some c → X.env.cells.lookup y = some c → x = y
  has : ∀ x, (X.env.kindOf x = some .cell ∨ X.env.kindOf x = some .free) → ∃ c, X.env.cells.lookup x = some c
  cab : ∀ x c, X.fn x = true → X.env.cells.lookup x = some c → X.s₀.heap.objs.size ≤ c
  hd : X.calm = true → X.A.handled = none
  frames : X.A.frames = some X.stack
  stk : X.stack = X.outer ∨ (X.stack = X.env :: X.outer ∧ X.env.frame = some X.env.locals)
  exf : ∀ b ∈ X.ex, b ≠ X.env.locals ∧ ∀ x c, X.env.cells.lookup x = some c → c ≠ b
  bs : ∀ b o, X.base.get? b = some o → X.s₀.heap.get? b = some o ∧ X.H₀ b = none
  bsz : X.base.objs.size ≤ X.s₀.heap.objs.size
  noex : ∀ b o, X.base.get? b = some o → b ∉ X.ex
  exfs : ∀ b ∈ X.ex, b ∉ X.fs
  funs : X.s₀.heap.FunFrames X.base X.outer
  frf : ∀ b ∈ X.fs, X.H₀ b = none

structure Inv (X : Cx) (pins : List (Addr × Obj)) (σ : List (Option V)) (H : Hp) (s : Shared) : Prop where
  ok : X.Ok
  os : s.os = X.s₀.os
  bare : AllBare s.gens
  base : Un X.fs X.ex X.H₀ H X.s₀.heap s.heap
  loc : ∃ m, s.heap.Ns X.env.locals m ∧ ∀ (i : Nat) (x : Str) (v : V), X.N[i]? = some x → σ[i]? = some (some v) → Vis X.env.scope x → ∃ u, RelV v u ∧ Look X.env s.heap m x u
  cell : ∀ x c, X.env.cells.lookup x = some c → ∃ v, s.heap.IsCell c v
  free : H X.env.locals = none
  freeC : ∀ x c, X.env.cells.lookup x = some c → H c = none
  pin : ∀ p ∈ X.pn ++ pins, s.heap.get? p.1 = some p.2 ∧ H p.1 = none ∧ p.1 ≠ X.env.locals ∧ p.1 ∉ X.fs ∧ ∀ v, p.2.data ≠ .cell v
  hok : HOk X.prog X.w H s.heap
  len : σ.length = X.N.length

section
variable {X : Cx} {pins : List (Addr × Obj)} {σ : List (Option V)} {H H' : Hp} {s : Shared} {h' : Heap}

theorem Cx.Ok.nofr (ok : X.Ok) {b : Addr} {o : Obj} (e : X.base.get? b = some o) : b ∉ X.fs := fun hb => by
  have := (ok.funs.mem hb).1
  rw [e] at this; cases this
theorem Inv.bs (I : Inv X pins σ H s) : ∀ b o, X.base.get? b = some o → s.heap.get? b = some o ∧ H b = none := fun b o e =>
  ⟨I.base.keep b o (I.ok.bs b o e).1 (I.ok.bs b o e).2 (I.ok.nofr e) (I.ok.noex b o e), I.base.free b o (I.ok.bs b o e).1 (I.ok.bs b o e).2 (I.ok.noex b o e)⟩
theorem Inv.bk (I : Inv X pins σ H s) : ∀ b o, X.base.get? b = some o → s.heap.get? b = some o := fun b o e => (I.bs b o e).1
theorem Inv.mod (I : Inv X pins σ H s) : Mod X.K X.mg X.base := I.ok.mod
theorem Inv.kIn (I : Inv X pins σ H s) : X.K.In s.heap := I.ok.mod.kin.keeps I.bk
theorem Inv.lt (I : Inv X pins σ H s) : X.env.locals < s.heap.objs.size := let ⟨_, hn, _⟩ := I.loc; hn.lt
theorem Inv.sz (I : Inv X pins σ H s) : X.s₀.heap.objs.size ≤ s.heap.objs.size := Nat.le_trans I.ok.above (Nat.le_of_lt I.lt)
theorem Inv.nofs (I : Inv X pins σ H s) {a : Addr} (h : s.heap.objs.size ≤ a) : a ∉ X.fs := fun hb => by
  obtain ⟨_, o, ho, _⟩ := I.ok.funs.mem hb
  exact absurd (Nat.lt_of_lt_of_le (Heap.lt_size ho) (Nat.le_trans I.sz h)) (Nat.lt_irrefl _)
theorem Inv.cne (I : Inv X pins σ H s) : ∀ x c, X.env.cells.lookup x = some c → c ≠ X.env.locals := fun x c e z => by
  obtain ⟨v, o, ho, hd⟩ := I.cell x c e
  obtain ⟨m, ⟨o', es, ep, ho', hd', _⟩, _⟩ := I.loc
  rw [z, ho'] at ho; cases ho; rw [hd'] at hd; cases hd
theorem Inv.funs (I : Inv X pins σ H s) : s.heap.FunFrames X.base X.outer := by
  have all : ∀ (l : List Env), (∀ b ∈ frs l, b ∈ X.fs) → X.s₀.heap.FunFrames X.base l → s.heap.FunFrames X.base l := by
    intro l
    induction l with
    | nil => intro _ _; trivial
    | cons env r ih =>
      intro hs hl
      obtain ⟨hk, ⟨L, o, hf, hn, ho, hd⟩, hr⟩ := hl
      have hL : L ∈ X.fs := hs L (by unfold frs; rw [List.filterMap_cons, hf]; exact List.mem_cons_self)
      obtain ⟨sl, e⟩ := I.base.slot L o ho (I.ok.frf L hL) hL fun z => I.ok.exfs L z hL
      exact ⟨hk, ⟨L, _, hf, hn, e, hd⟩, ih (fun b hb => hs b (by unfold frs; rw [List.filterMap_cons, hf]; exact List.mem_cons_of_mem _ hb)) hr⟩
  exact all X.outer (fun _ hb => hb) I.ok.funs

/-- the frames that run, for a call -/
theorem Inv.stack (I : Inv X pins σ H s) : s.heap.FunFrames X.base X.stack := by
  rcases I.ok.stk with e | ⟨e, hf⟩
  · rw [e]; exact I.funs
  · rw [e]
    obtain ⟨m, hn, _⟩ := I.loc
    refine .cons (by rw [I.ok.kind]; decide) hf hn ?_ I.funs
    exact Heap.get?_none_of_le (Nat.le_trans I.ok.bsz I.ok.above)
theorem Inv.stkSub (I : Inv X pins σ H s) : ∀ b ∈ frs X.stack, b ∈ X.env.locals :: X.fs := fun b hb => by
  rcases I.ok.stk with e | ⟨e, hf⟩
  · rw [e] at hb; exact List.mem_cons_of_mem _ hb
  · rw [e] at hb
    unfold frs at hb
    rw [List.filterMap_cons, hf] at hb
    exact hb
theorem Inv.stkFree (I : Inv X pins σ H s) : ∀ b ∈ frs X.stack, H b = none := fun b hb => by
  rcases List.mem_cons.mp (I.stkSub b hb) with e | hb
  · rw [e]; exact I.free
  · obtain ⟨_, o, ho, _⟩ := I.ok.funs.mem hb
    exact I.base.free b o ho (I.ok.frf b hb) fun z => I.ok.exfs b z hb

/-- THE STEP: the untracked objects but the frame and the records at ch are kept (the callers' frames up to slots), the frame's map is kept, the new abstract heap is held -/
theorem Inv.step {g' : Array GenState} {t' : Nat} {d' : Drawn} {ch : List Addr} (I : Inv X pins σ H s)
    (hch : ∀ b ∈ ch, (b ∈ X.ex ∨ X.s₀.heap.objs.size ≤ b) ∧ b ≠ X.env.locals ∧ (∀ x c, X.env.cells.lookup x = some c → c ≠ b) ∧ ∀ p ∈ X.pn ++ pins, p.1 ≠ b)
    (keep : ∀ b o, b ≠ X.env.locals → b ∉ X.fs → b ∉ ch → s.heap.get? b = some o → H b = none → h'.get? b = some o)
    (slot : ∀ b o, b ≠ X.env.locals → b ∈ X.fs → b ∉ ch → s.heap.get? b = some o → H b = none → ∃ sl, h'.get? b = some { o with slots := sl }) (free : ∀ b o, b ∉ ch → s.heap.get? b = some o → H b = none → H' b = none)
    (there : ∀ b o, b ∉ ch → s.heap.get? b = some o → ∃ o', h'.get? b = some o')
    (tups : ∀ b xs, H b = some (.tup xs) → H' b = some (.tup xs)) (frzs : ∀ b o u, H b = some (.frz o u) → H' b = some (.frz o u)) (tbls : ∀ b ps, H b = some (.tbl ps) → ∃ more, H' b = some (.tbl (ps ++ more)))
    (ns : ∀ m, s.heap.Ns X.env.locals m → h'.Ns X.env.locals m) (hok : HOk X.prog X.w H' h') (hg : AllBare g') :
    Inv X pins σ H' { s with heap := h', gens := g', drawn := d', toks := t' } := by
  have neL : ∀ b o, X.s₀.heap.get? b = some o → b ≠ X.env.locals := fun b o e => Nat.ne_of_lt (Nat.lt_of_lt_of_le (Heap.lt_size e) I.ok.above)
  have neC : ∀ b o, X.s₀.heap.get? b = some o → b ∉ X.ex → b ∉ ch := fun b o e hx hb => by
    rcases (hch b hb).1 with z | z
    · exact hx z
    · exact absurd (Nat.lt_of_lt_of_le (Heap.lt_size e) z) (Nat.lt_irrefl _)
  have cellK : ∀ x c, X.env.cells.lookup x = some c → ∀ v, s.heap.IsCell c v → h'.IsCell c v := fun x c e v ⟨o, ho, hd⟩ => by
    have nch : c ∉ ch := fun z => (hch c z).2.2.1 x c e rfl
    by_cases hc : c ∈ X.fs
    · obtain ⟨sl, q⟩ := slot c o (I.cne x c e) hc nch ho (I.freeC x c e)
      exact ⟨_, q, hd⟩
    · exact ⟨o, keep c o (I.cne x c e) hc nch ho (I.freeC x c e), hd⟩
  refine ⟨I.ok, I.os, hg, ⟨fun b o e n hb hx => ?_, fun b o e n hb hx => ?_, fun b o e n hx => ?_, fun b o e hx => ?_, fun b xs e => tups b xs (I.base.tups b xs e), fun b o xs e => frzs b o xs (I.base.frzs b o xs e), fun b ps e => ?_⟩, ?_, fun x c e => ?_, ?_, fun x c e => ?_, fun p hp => ?_, hok, I.len⟩
  · exact keep b o (neL b o e) hb (neC b o e hx) (I.base.keep b o e n hb hx) (I.base.free b o e n hx)
  · obtain ⟨sl, e1⟩ := I.base.slot b o e n hb hx
    obtain ⟨sl', e2⟩ := slot b _ (neL b o e) hb (neC b o e hx) e1 (I.base.free b o e n hx)
    exact ⟨sl', e2⟩
  · obtain ⟨o', e1⟩ := I.base.there b o e hx
    exact free b o' (neC b o e hx) e1 (I.base.free b o e n hx)
  · obtain ⟨o', e1⟩ := I.base.there b o e hx
    exact there b o' (neC b o e hx) e1
  · obtain ⟨m1, e1⟩ := I.base.tbls b ps e
    obtain ⟨m2, e2⟩ := tbls b _ e1
    exact ⟨m1 ++ m2, by rw [e2, Array.append_assoc]⟩
  · obtain ⟨m, hn, hl⟩ := I.loc
    refine ⟨m, ns m hn, fun i x v e1 e2 e3 => ?_⟩
    obtain ⟨u, r, l⟩ := hl i x v e1 e2 e3
    refine ⟨u, r, ?_⟩
    rcases l with l | ⟨k, c, e, z⟩
    · exact .inl l
    · exact .inr ⟨k, c, e, cellK x c e _ z⟩
  · obtain ⟨v, z⟩ := I.cell x c e
    exact ⟨v, cellK x c e v z⟩
  · obtain ⟨m, ⟨o, _, _, ho, _⟩, _⟩ := I.loc
    exact free _ o (fun z => (hch _ z).2.1 rfl) ho I.free
  · obtain ⟨v, o, ho, hd⟩ := I.cell x c e
    exact free c o (fun z => (hch c z).2.2.1 x c e rfl) ho (I.freeC x c e)
  · obtain ⟨e, n, ne, nf, d⟩ := I.pin p hp
    have nch : p.1 ∉ ch := fun z => (hch p.1 z).2.2.2 p hp rfl
    exact ⟨keep p.1 p.2 ne nf nch e n, free p.1 p.2 nch e n, ne, nf, d⟩
/-- .. where the frame's own object is kept too -/
theorem Inv.un {t' : Nat} (I : Inv X pins σ H s) (u : Un X.fs [] H H' s.heap h') (hok : HOk X.prog X.w H' h') : Inv X pins σ H' { s with heap := h', toks := t' } := by
  obtain ⟨m, ⟨o, es, ep, ho, r⟩, _⟩ := id I.loc
  obtain ⟨sl, hL⟩ := u.any ho I.free (by simp)
  exact I.step (g' := s.gens) (d' := s.drawn) (ch := []) (fun _ z => nomatch z) (fun b o _ hb _ e n => u.keep b o e n hb (by simp)) (fun b o _ hb _ e n => u.slot b o e n hb (by simp)) (fun b o _ e n => u.free b o e n (by simp)) (fun b o _ e => u.there b o e (by simp)) u.tups u.frzs u.tbls (fun m' hm => by
    obtain ⟨o', es', ep', ho', r'⟩ := hm
    rw [ho] at ho'; cases ho'
    exact ⟨_, es', ep', hL, r'⟩) hok I.bare
/-- behind a call (or a comprehension's block): the slots of this frame may have changed too, the records at ch may have turned -/
theorem Inv.call {g' : Array GenState} {t' : Nat} {d' : Drawn} {ch : List Addr} (I : Inv X pins σ H s) (u : Un (frs X.stack) ch H H' s.heap h') (hok : HOk X.prog X.w H' h') (hg : AllBare g')
    (hch : ∀ b ∈ ch, (b ∈ X.ex ∨ X.s₀.heap.objs.size ≤ b) ∧ b ≠ X.env.locals ∧ (∀ x c, X.env.cells.lookup x = some c → c ≠ b) ∧ ∀ p ∈ X.pn ++ pins, p.1 ≠ b) :
    Inv X pins σ H' { s with heap := h', gens := g', drawn := d', toks := t' } := by
  obtain ⟨m, ⟨o, es, ep, ho, r⟩, _⟩ := id I.loc
  obtain ⟨sl, hL⟩ := u.any ho I.free fun z => (hch _ z).2.1 rfl
  exact I.step (ch := ch) hch (fun b o hL hb hc e n => u.keep b o e n (fun z => (List.mem_cons.mp (I.stkSub b z)).elim hL hb) hc) (fun b o _ _ hc e n => u.any e n hc) (fun b o hc e n => u.free b o e n hc) (fun b o hc e => u.there b o e hc) u.tups u.frzs u.tbls (fun m' hm => by
    obtain ⟨o', es', ep', ho', r'⟩ := hm
    rw [ho] at ho'; cases ho'
    exact ⟨_, es', ep', hL, r'⟩) hok hg
/-- an untracked record of ours (an iterator) has turned -/
theorem Inv.turned {t' : Nat} {it : Addr} (I : Inv X pins σ H s) (k : ∀ b o, b ≠ it → s.heap.get? b = some o → h'.get? b = some o) (hn : H it = none) (hL : it ≠ X.env.locals)
    (h1 : it ∈ X.ex ∨ X.s₀.heap.objs.size ≤ it) (h2 : ∀ x c, X.env.cells.lookup x = some c → c ≠ it) (h3 : ∀ p ∈ X.pn ++ pins, p.1 ≠ it) : Inv X pins σ H { s with heap := h', toks := t' } := by
  have nit : ∀ b u, H b = some u → b ≠ it := fun b u e z => by rw [z, hn] at e; cases e
  refine I.step (g' := s.gens) (d' := s.drawn) (ch := [it]) (fun b hb => ?_) (fun b o _ _ hc e _ => k b o (fun z => hc (by simp [z])) e) (fun b o _ _ hc e _ => ⟨o.slots, k b o (fun z => hc (by simp [z])) e⟩) (fun _ _ _ _ n => n)
    (fun b o hc e => ⟨o, k b o (fun z => hc (by simp [z])) e⟩) (fun _ _ e => e) (fun _ _ _ e => e) (fun b ps e => ⟨#[], by rw [e]; simp⟩) (fun m hm => ?_) (fun b u e => ?_) I.bare
  · have e : b = it := by simpa using hb
    subst e
    exact ⟨h1, hL, h2, h3⟩
  · obtain ⟨o, es, ep, ho, r⟩ := hm
    exact ⟨o, es, ep, k _ o (Ne.symm hL) ho, r⟩
  · refine (I.hok b u e).stay (fun c v hc q => k c v ?_ q) (fun _ q => q) fun _ _ q => q
    rcases hc with z | z
    · rw [z]; exact nit b u e
    · exact nit c _ z
theorem Inv.tok (I : Inv X pins σ H s) (t : Nat) : Inv X pins σ H { s with toks := t } := I.un (h' := s.heap) (t' := t) Un.refl I.hok
/-- all objects kept -/
theorem Inv.kept {t' : Nat} (I : Inv X pins σ H s) (k : ∀ b u, s.heap.get? b = some u → h'.get? b = some u) : Inv X pins σ H { s with heap := h', toks := t' } := I.un (Un.kept k) (I.hok.kept k)
/-- a new object laid and tracked -/
theorem Inv.laid {a : Addr} {o : HO} {t' : Nat} (I : Inv X pins σ H s) (k : ∀ b u, s.heap.get? b = some u → h'.get? b = some u) (hp : s.heap.objs.size ≤ a) (new : ObjOk X.prog X.w (upd H a o) h' a o) :
    Inv X pins σ (upd H a o) { s with heap := h', toks := t' } := I.un (Un.laid k hp (I.hok.fresh hp)) (I.hok.laid k hp new)
/-- an object written -/
theorem Inv.write {x e : Addr} {o : HO} {t' : Nat} (I : Inv X pins σ H s) (mu : Mut (H x)) (he : e = x ∨ H e = some (.own x)) (k : ∀ b u, b ≠ e → s.heap.get? b = some u → h'.get? b = some u) (heo : ∃ u, h'.get? e = some u)
    (new : ObjOk X.prog X.w (upd H x o) h' x o) : Inv X pins σ (upd H x o) { s with heap := h', toks := t' } := I.un (Un.write mu he k heo) (I.hok.write mu he k heo new)
theorem Inv.pins_of {pins' : List (Addr × Obj)} (I : Inv X pins σ H s) (h : ∀ p ∈ pins', s.heap.get? p.1 = some p.2 ∧ H p.1 = none ∧ p.1 ≠ X.env.locals ∧ p.1 ∉ X.fs ∧ ∀ v, p.2.data ≠ .cell v) : Inv X pins' σ H s :=
  ⟨I.ok, I.os, I.bare, I.base, I.loc, I.cell, I.free, I.freeC, fun p hp => (List.mem_append.mp hp).elim (fun z => I.pin p (List.mem_append_left _ z)) (h p), I.hok, I.len⟩

theorem nodup_ix {N : List Str} (hN : N.Nodup) {i j : Nat} {x : Str} (a : N[i]? = some x) (b : N[j]? = some x) : i = j := by
  obtain ⟨h1, e1⟩ := List.getElem?_eq_some_iff.mp a
  obtain ⟨h2, e2⟩ := List.getElem?_eq_some_iff.mp b
  exact (List.getElem_inj hN).mp (e1.trans e2.symm)

/-- a name is stored; what changed -/
theorem store_ok2 {M : Model} {A : Around} {E : Value → Shared → Prop} {i : Nat} {x : Str} {v : V} {u : Value} {Q : Unit → Shared → Prop} (I : Inv X pins σ H s) (hN : X.N.Nodup) (hi : X.N[i]? = some x) (hx : Loc X.env.scope x) (r : RelV v u)
    (h : ∀ s', Inv X pins (σ.set i (some v)) H s' → (∃ a, Heap.SameBut a s.heap s'.heap ∧ (a = X.env.locals ∨ X.env.cells.lookup x = some a)) → Q () s') (hf : X.fn x = true ∨ X.env.scope.names.lookup x = some .local := by first | exact .inl rfl | exact .inr rfl | assumption) : wpAny M A (storeName X.env x u) Q E s := by
  obtain ⟨m, hn, hl⟩ := id I.loc
  have hcls : (X.env.scope.kind == .class || (X.env.scope.kind == .module && X.env.locals != X.env.globals)) = false := by rw [I.ok.kind]; rfl
  have hiσ : i < σ.length := by rw [I.len]; exact (List.getElem?_eq_some_iff.mp hi).1
  have cne := I.cne
  have tracked : ∀ {a : Addr} {h' : Heap}, (∃ o, s.heap.get? a = some o ∧ H a = none) → Heap.SameBut a s.heap h' → HOk X.prog X.w H h' := fun {a h'} ha hs b ob e => by
    obtain ⟨_, _, hfree⟩ := ha
    refine (I.hok b ob e).stay (fun c w' hc q => (hs.2 c ?_).trans q) (fun _ q => q) fun _ _ q => q
    rintro rfl
    rcases hc with rfl | hc
    · rw [hfree] at e; cases e
    · rw [hfree] at hc; cases hc
  rcases hx with hk | hk
  · refine wpAny_storeName_local hk hn (fun h' hn' hs => ?_) hcls
    obtain ⟨oL, _, _, hoL, _⟩ := id hn
    refine h _ ⟨I.ok, I.os, I.bare, ⟨fun b o e n hb hx => ?_, fun b o e n hb hx => ?_, I.base.free, fun b o e hx => ?_, I.base.tups, I.base.frzs, I.base.tbls⟩, ⟨_, hn', fun j y v' e1 e2 e3 => ?_⟩, fun y c e => ?_, I.free, I.freeC, fun p hp => ?_, tracked ⟨oL, hoL, I.free⟩ hs, by simpa using I.len⟩ ⟨_, hs, .inl rfl⟩
    · exact (hs.2 b (Nat.ne_of_lt (Nat.lt_of_lt_of_le (Heap.lt_size e) I.ok.above))).trans (I.base.keep b o e n hb hx)
    · obtain ⟨sl, e1⟩ := I.base.slot b o e n hb hx
      exact ⟨sl, (hs.2 b (Nat.ne_of_lt (Nat.lt_of_lt_of_le (Heap.lt_size e) I.ok.above))).trans e1⟩
    · obtain ⟨o', e1⟩ := I.base.there b o e hx
      exact ⟨o', (hs.2 b (Nat.ne_of_lt (Nat.lt_of_lt_of_le (Heap.lt_size e) I.ok.above))).trans e1⟩
    · by_cases hj : j = i
      · subst hj
        rw [hi] at e1; cases e1
        rw [List.getElem?_set_self hiσ] at e2
        cases e2
        exact ⟨u, r, .inl ⟨hk, by simp⟩⟩
      · rw [List.getElem?_set_ne (Ne.symm hj)] at e2
        obtain ⟨u', r', q⟩ := hl j y v' e1 e2 e3
        refine ⟨u', r', ?_⟩
        rcases q with ⟨k, e⟩ | ⟨k, c, e, z⟩
        · refine .inl ⟨k, ?_⟩
          have : y ≠ x := fun e => hj (nodup_ix hN e1 (e ▸ hi))
          simp [this, e]
        · exact .inr ⟨k, c, e, z.sameBut hs (cne y c e)⟩
    · obtain ⟨w', z⟩ := I.cell y c e
      exact ⟨w', z.sameBut hs (cne y c e)⟩
    · obtain ⟨e, n, ne, nf, d⟩ := I.pin p hp
      exact ⟨(hs.2 p.1 ne).trans e, n, ne, nf, d⟩
  · have hfn : X.fn x = true := by
      rcases hf with z | z
      · exact z
      · rw [z] at hk; cases hk
    obtain ⟨c, hc⟩ := I.ok.has x (.inl hk)
    obtain ⟨w', z⟩ := I.cell x c hc
    refine wpAny_storeName_cell I.ok.kind hk hc z (fun h' hc' hs => ?_)
    obtain ⟨oc, hoc, hocd⟩ := id z
    refine h { s with heap := h' } ⟨I.ok, I.os, I.bare, ⟨fun b o e n hb hx => ?_, fun b o e n hb hx => ?_, I.base.free, fun b o e hx => ?_, I.base.tups, I.base.frzs, I.base.tbls⟩, ⟨m, hn.sameBut hs (Ne.symm (cne x c hc)), fun j y v' e1 e2 e3 => ?_⟩, fun y c' e => ?_, I.free, I.freeC, fun p hp => ?_, tracked ⟨oc, hoc, I.freeC x c hc⟩ hs, by simpa using I.len⟩ ⟨c, hs, .inr hc⟩
    · exact (hs.2 b (Nat.ne_of_lt (Nat.lt_of_lt_of_le (Heap.lt_size e) (I.ok.cab x c hfn hc)))).trans (I.base.keep b o e n hb hx)
    · obtain ⟨sl, e1⟩ := I.base.slot b o e n hb hx
      exact ⟨sl, (hs.2 b (Nat.ne_of_lt (Nat.lt_of_lt_of_le (Heap.lt_size e) (I.ok.cab x c hfn hc)))).trans e1⟩
    · obtain ⟨o', e1⟩ := I.base.there b o e hx
      exact ⟨o', (hs.2 b (Nat.ne_of_lt (Nat.lt_of_lt_of_le (Heap.lt_size e) (I.ok.cab x c hfn hc)))).trans e1⟩
    · by_cases hj : j = i
      · subst hj
        rw [hi] at e1; cases e1
        rw [List.getElem?_set_self hiσ] at e2
        cases e2
        exact ⟨u, r, .inr ⟨.inl hk, c, hc, hc'⟩⟩
      · rw [List.getElem?_set_ne (Ne.symm hj)] at e2
        obtain ⟨u', r', q⟩ := hl j y v' e1 e2 e3
        refine ⟨u', r', ?_⟩
        rcases q with q | ⟨k, c', e, z'⟩
        · exact .inl q
        · refine .inr ⟨k, c', e, z'.sameBut hs ?_⟩
          rintro rfl
          exact hj (nodup_ix hN e1 (I.ok.inj _ _ _ e hc ▸ hi))
    · by_cases hcc : c' = c
      · subst hcc; exact ⟨_, hc'⟩
      · obtain ⟨w2, z2⟩ := I.cell y c' e
        exact ⟨w2, z2.sameBut hs hcc⟩
    · obtain ⟨e, n, ne, nf, d⟩ := I.pin p hp
      refine ⟨(hs.2 p.1 ?_).trans e, n, ne, nf, d⟩
      intro q
      rw [q, hoc] at e
      have q' : oc = p.2 := Option.some.inj e
      exact d w' (by rw [← q']; exact hocd)
theorem store_ok {M : Model} {A : Around} {E : Value → Shared → Prop} {i : Nat} {x : Str} {v : V} {u : Value} {Q : Unit → Shared → Prop} (I : Inv X pins σ H s) (hN : X.N.Nodup) (hi : X.N[i]? = some x) (hx : Loc X.env.scope x) (r : RelV v u)
    (h : ∀ s', Inv X pins (σ.set i (some v)) H s' → Q () s') (hf : X.fn x = true ∨ X.env.scope.names.lookup x = some .local := by first | exact .inl rfl | exact .inr rfl | assumption) : wpAny M A (storeName X.env x u) Q E s :=
  store_ok2 I hN hi hx r (fun s' I' _ => h s' I') hf
/-- behind a call or a block, the state as it is -/
theorem Inv.call' {s' : Shared} {ch : List Addr} (I : Inv X pins σ H s) (ho : s'.os = s.os) (u : Un (frs X.stack) ch H H' s.heap s'.heap) (hok : HOk X.prog X.w H' s'.heap) (hg : AllBare s'.gens)
    (hch : ∀ b ∈ ch, (b ∈ X.ex ∨ X.s₀.heap.objs.size ≤ b) ∧ b ≠ X.env.locals ∧ (∀ x c, X.env.cells.lookup x = some c → c ≠ b) ∧ ∀ p ∈ X.pn ++ pins, p.1 ≠ b) : Inv X pins σ H' s' := by
  obtain ⟨h', g', d', t', o'⟩ := s'
  have e : o' = s.os := ho
  subst e
  exact I.call (g' := g') (t' := t') (d' := d') u hok hg hch
end

/-! ### the judgements -/
/-- an exception: its class, its own dict's address (where it has one), the abstract heap behind it -/
noncomputable abbrev XK := Value → Option Addr → Hp → Prop
noncomputable abbrev St := List (Option V)
noncomputable abbrev VK := V → Hp → Prop
/-- an expression's reading; a test's; an argument list's -/
noncomputable abbrev TE := St → Hp → VK → Prop
noncomputable abbrev TT := St → Hp → (Bool → Hp → Prop) → Prop
noncomputable abbrev TA := St → Hp → (List V → Hp → Prop) → Prop
/-- what is wanted behind a statement -/
structure Ends where
  nx : St → Hp → Prop
  rt : VK
  bk : St → Hp → Prop := fun _ _ => False
  ct : St → Hp → Prop := fun _ _ => False
noncomputable abbrev TS := Ends → St → Hp → Prop

noncomputable def EP (X : Cx) (pins : List (Addr × Obj)) (σ : St) (Q : VK) (u : Value) (s' : Shared) : Prop := ∃ v H', Inv X pins σ H' s' ∧ RelV v u ∧ Q v H'
noncomputable def TP (X : Cx) (pins : List (Addr × Obj)) (σ : St) (Q : Bool → Hp → Prop) (b : Bool) (s' : Shared) : Prop := ∃ H', Inv X pins σ H' s' ∧ Q b H'
noncomputable def AP (X : Cx) (pins : List (Addr × Obj)) (σ : St) (Q : List V → Hp → Prop) (us : List Value) (s' : Shared) : Prop := ∃ vs H', Inv X pins σ H' s' ∧ Vals vs us ∧ Q vs H'
noncomputable def SP (X : Cx) (pins : List (Addr × Obj)) (D : Ends) (f : Flow) (s' : Shared) : Prop :=
  match f with
  | .next => ∃ σ' H', Inv X pins σ' H' s' ∧ D.nx σ' H'
  | .brk => ∃ σ' H', Inv X pins σ' H' s' ∧ D.bk σ' H'
  | .cont => ∃ σ' H', Inv X pins σ' H' s' ∧ D.ct σ' H'
  | .ret u => ∃ v σ' H', Inv X pins σ' H' s' ∧ RelV v u ∧ D.rt v H'

noncomputable def PE (X : Cx) (e : Expr) (t : TE) : Prop :=
  ∀ (pins : List (Addr × Obj)) (s : Shared) (σ : St) (H : Hp) (Q : VK), Inv X pins σ H s → t σ H Q → wpAny (model X.prog X.w) X.A (eval e X.env) (EP X pins σ Q) X.xe s
noncomputable def PT (X : Cx) (e : Expr) (t : TT) : Prop :=
  ∀ (pins : List (Addr × Obj)) (s : Shared) (σ : St) (H : Hp) (Q : Bool → Hp → Prop), Inv X pins σ H s → t σ H Q → wpAny (model X.prog X.w) X.A (isTrue e X.env (eval e X.env)) (TP X pins σ Q) X.xe s
/-- a test whatever its 'whole' is (and, or) -/
noncomputable def PW (X : Cx) (e : Expr) (t : TT) : Prop :=
  ∀ (whole : Sem Value) (pins : List (Addr × Obj)) (s : Shared) (σ : St) (H : Hp) (Q : Bool → Hp → Prop), Inv X pins σ H s → t σ H Q → wpAny (model X.prog X.w) X.A (isTrue e X.env whole) (TP X pins σ Q) X.xe s
theorem PW.pt {X : Cx} {e : Expr} {t : TT} (h : PW X e t) : PT X e t := h _
/-- an argument list (no star), from the left -/
noncomputable def PA (X : Cx) (es : List Expr) (t : TA) : Prop :=
  ∀ (pos : Pos) (pins : List (Addr × Obj)) (s : Shared) (σ : St) (H : Hp) (Q : List V → Hp → Prop), Inv X pins σ H s → t σ H Q → wpAny (model X.prog X.w) X.A (spliced (backTo pos (starEach es X.env))) (AP X pins σ Q) X.xe s
noncomputable def PS (X : Cx) (st : Stmt) (t : TS) : Prop :=
  ∀ (pins : List (Addr × Obj)) (s : Shared) (σ : St) (H : Hp) (D : Ends), Inv X pins σ H s → t D σ H → wpAny (model X.prog X.w) X.A (exec st X.env) (SP X pins D) X.xe s
noncomputable def PSs (X : Cx) (st : List Stmt) (t : TS) : Prop :=
  ∀ (pins : List (Addr × Obj)) (s : Shared) (σ : St) (H : Hp) (D : Ends), Inv X pins σ H s → t D σ H → wpAny (model X.prog X.w) X.A (execs st X.env) (SP X pins D) X.xe s
/-- weaken the end -/
theorem thn {α : Type} {t : Sem α} {Q Q' : α → Shared → Prop} {M : Model} {A : Around} {E : Value → Shared → Prop} {s : Shared} (h : wpAny M A t Q E s) (hQ : ∀ a s, Q a s → Q' a s) : wpAny M A t Q' E s := wpAny_mono h hQ fun _ _ x => x
end L2

namespace L2
open PySem PySem.Spec PyProof.Rows
section
variable {X : Cx}


/-! ### names and constants -/
noncomputable def tVar (i : Nat) : TE := fun σ H Q => ∃ v, σ[i]? = some (some v) ∧ Q v H
noncomputable def tC (v : V) : TE := fun _ H Q => Q v H
theorem pe_var {i : Nat} {x : Str} {pos : Pos} (hN : X.N[i]? = some x) (hv : Vis X.env.scope x) (hd : (x == ("__debug__" : Str)) = false := by decide) (hcd : (x == ("__classdict__" : Str)) = false := by decide) : PE X (.Name x pos) (tVar i) := by
  intro pins s σ H Q I h
  obtain ⟨v, e, h⟩ := h
  obtain ⟨m, hn, hl⟩ := I.loc
  obtain ⟨u, r, l⟩ := hl i x v hN e hv
  have fin : EP X pins σ Q u s := ⟨v, H, I, r, h⟩
  rcases l with ⟨hk, hm⟩ | ⟨hk, c, hc, hcell⟩
  · exact wpAny_Name (wpAny_loadName_local I.ok.kind hk hn hm fin) hd
  · rcases hk with hk | hk
    · exact wpAny_Name (wpAny_loadName_cell I.ok.kind hk hc hcell fin) hd
    · exact wpAny_Name (wpAny_loadName_free I.ok.kind hk hc hcell fin hcd) hd
theorem pe_int {i j pos} : PE X (.Constant (.int i) j pos) (tC (.int i)) := fun _ _ _ H _ I h => wpAny_Constant_int ⟨.int i, H, I.tok _, ⟨_, rfl⟩, h⟩
theorem pe_bl {b j pos} : PE X (.Constant (.bool b) j pos) (tC (.bl b)) := fun _ _ _ H _ I h => Constant_bool ⟨.bl b, H, I, rfl, h⟩
theorem pe_str {x j pos} : PE X (.Constant (.str x) j pos) (tC (.str x)) := fun _ _ _ H _ I h => Calls.Constant_str ⟨.str x, H, I.tok _, ⟨_, rfl⟩, h⟩

/-- a global name of the def -/
noncomputable def Gl (X : Cx) (x : Str) : Prop := X.env.kindOf x = some .globalImplicit
theorem ld_glob {E : Value → Shared → Prop} {pins : List (Addr × Obj)} {s : Shared} {σ : St} {H : Hp} {x : Str} {u : Value} {pos : Pos} {Q : Value → Shared → Prop} (I : Inv X pins σ H s) (hg : Gl X x) (hm : X.mg x = some u) (h : Q u s)
    (hd : (x == ("__debug__" : Str)) = false := by decide) : wpAny (model X.prog X.w) X.A (eval (.Name x pos) X.env) Q E s :=
  Calls.Name_function_global I.ok.kind hg (Calls.loadGlobal_global (by rw [I.ok.glob]; exact I.mod.glob.keeps I.bk) hm h) hd
theorem ld_blt {E : Value → Shared → Prop} {pins : List (Addr × Obj)} {s : Shared} {σ : St} {H : Hp} {x : Str} {u : Value} {pos : Pos} {Q : Value → Shared → Prop} (I : Inv X pins σ H s) (hg : Gl X x) (hm : X.mg x = none) (hv : bootBuiltins x = some u) (h : Q u s)
    (hn : x ≠ "__name__" := by decide) (hd : (x == ("__debug__" : Str)) = false := by decide) : wpAny (model X.prog X.w) X.A (eval (.Name x pos) X.env) Q E s := by
  obtain ⟨mb, h1, h2⟩ := I.mod.blt
  exact Calls.Name_function_global I.ok.kind hg (Calls.loadGlobal_builtin (by rw [I.ok.glob]; exact I.mod.glob.keeps I.bk) hm (by rw [I.ok.blt]; exact h1.keeps I.bk) ((h2 x hn).trans hv) h) hd
/-- a module's constant, a class, a function, as a value -/
theorem pe_glob {x : Str} {v : V} {u : Value} {pos : Pos} (hg : Gl X x) (hm : X.mg x = some u) (r : RelV v u) (hd : (x == ("__debug__" : Str)) = false := by decide) : PE X (.Name x pos) (tC v) :=
  fun _ _ _ H _ I h => ld_glob I hg hm ⟨v, H, I, r, h⟩ hd
theorem pe_bltn {x : Str} {v : V} {u : Value} {pos : Pos} (hg : Gl X x) (hm : X.mg x = none) (hv : bootBuiltins x = some u) (r : RelV v u) (hn : x ≠ "__name__" := by decide) (hd : (x == ("__debug__" : Str)) = false := by decide) : PE X (.Name x pos) (tC v) :=
  fun _ _ _ H _ I h => ld_blt I hg hm hv ⟨v, H, I, r, h⟩ hn hd

/-! ### arithmetic -/
variable {a b : Expr} {ta tb : TE} {pos : Pos}

/-! ### comparisons -/
/-- a comparison as a value, as a test -/
noncomputable def tB (t : TE) : TT := fun σ H Q => t σ H fun x H1 => ∃ c, x = .bl c ∧ Q c H1
/-- an expression whose value is a bool, as a test -/
theorem pt_val {e : Expr} {t : TE} (h : PE X e t) (he : ∀ whole, isTrue e X.env whole = (do let v ← whole; standAt e.pos; holding [v] (truthy v)) := by intro _; rfl) : PT X e (tB t) := by
  intro pins s σ H Q I hw
  refine isTrue_plain (thn (h pins s σ H _ I hw) fun v s1 zz => ?_) (he _)
  obtain ⟨x, H1, I1, r1, q1⟩ := zz
  obtain ⟨d, rfl, q⟩ := q1
  cases r1
  exact wpAny_truthy_bool ⟨H1, I1, q⟩

/-! ### and, or, not -/
variable {tA tB' : TT} {rest : List Expr}
noncomputable def tAnd (t u : TT) : TT := fun σ H Q => t σ H fun c H1 => if c = true then u σ H1 Q else Q false H1
noncomputable def tOr (t u : TT) : TT := fun σ H Q => t σ H fun c H1 => if c = true then Q true H1 else u σ H1 Q
noncomputable def tNot (t : TT) : TT := fun σ H Q => t σ H fun c H1 => Q (!c) H1
theorem pw_and1 (ha : PT X a tA) : PW X (.BoolOp .And [a] pos) tA := by
  intro wh pins s σ H Q I h
  refine isTrue_and (thn (ha pins s σ H Q I h) fun c s1 e => ?_)
  cases c with
  | true => exact isTrue_and_nil e
  | false => exact e
theorem pw_or1 (ha : PT X a tA) : PW X (.BoolOp .Or [a] pos) tA := by
  intro wh pins s σ H Q I h
  refine isTrue_or (thn (ha pins s σ H Q I h) fun c s1 e => ?_)
  cases c with
  | false => exact isTrue_or_nil e
  | true => exact e
theorem pw_and (ha : PT X a tA) (hb : PW X (.BoolOp .And (b :: rest) pos) tB') : PW X (.BoolOp .And (a :: b :: rest) pos) (tAnd tA tB') := by
  intro wh pins s σ H Q I h
  refine isTrue_and (thn (ha pins s σ H _ I h) fun c s1 zz => ?_)
  obtain ⟨H1, I1, q1⟩ := zz
  cases c with
  | true => exact hb wh pins s1 σ H1 Q I1 q1
  | false => exact ⟨H1, I1, q1⟩
theorem pw_or (ha : PT X a tA) (hb : PW X (.BoolOp .Or (b :: rest) pos) tB') : PW X (.BoolOp .Or (a :: b :: rest) pos) (tOr tA tB') := by
  intro wh pins s σ H Q I h
  refine isTrue_or (thn (ha pins s σ H _ I h) fun c s1 zz => ?_)
  obtain ⟨H1, I1, q1⟩ := zz
  cases c with
  | true => exact ⟨H1, I1, q1⟩
  | false => exact hb wh pins s1 σ H1 Q I1 q1
theorem pt_not (ha : PT X a tA) : PT X (.UnaryOp .Not a pos) (tNot tA) := by
  intro pins s σ H Q I h
  exact isTrue_not (ha pins s σ H (fun c H1 => Q (!c) H1) I h)
/-- .. as values (bools) -/
noncomputable def tAndV (ta tb : TE) : TE := fun σ H Q => ta σ H fun x H1 => ∃ c, x = .bl c ∧ if c = true then tb σ H1 Q else Q (.bl false) H1
noncomputable def tNotV (ta : TE) : TE := fun σ H Q => ta σ H fun x H1 => ∃ c, x = .bl c ∧ Q (.bl (!c)) H1
theorem pe_one {op} {t : TE} (h : PE X a t) : PE X (.BoolOp op [a] pos) t := fun pins s σ H Q I hw => BoolOp_one (h pins s σ H Q I hw)
theorem pe_and (ha : PE X a ta) (hb : PE X (.BoolOp .And (b :: rest) pos) tb) : PE X (.BoolOp .And (a :: b :: rest) pos) (tAndV ta tb) := by
  intro pins s σ H Q I h
  refine BoolOp_and (thn (ha pins s σ H _ I h) fun v s1 zz => ?_)
  obtain ⟨x, H1, I1, r1, q1⟩ := zz
  obtain ⟨c, rfl, q1⟩ := q1
  cases r1
  refine wpAny_truthy_bool ?_
  cases c with
  | true => exact hb pins s1 σ H1 Q I1 q1
  | false => exact ⟨.bl false, H1, I1, rfl, q1⟩
theorem pe_not (ha : PE X a ta) : PE X (.UnaryOp .Not a pos) (tNotV ta) := by
  intro pins s σ H Q I h
  refine UnaryOp_ (thn (ha pins s σ H _ I h) fun v s1 zz => ?_)
  obtain ⟨x, H1, I1, r1, q1⟩ := zz
  obtain ⟨c, rfl, q1⟩ := q1
  cases r1
  exact not_of (wpAny_truthy_bool ⟨.bl (!c), H1, I1, rfl, q1⟩)
/-- a if t else b -/
noncomputable def tIf (t : TT) (ta tb : TE) : TE := fun σ H Q => t σ H fun c H1 => if c = true then ta σ H1 Q else tb σ H1 Q
theorem pe_ifExp {c : Expr} (hc : PT X c tA) (ha : PE X a ta) (hb : PE X b tb) : PE X (.IfExp c a b pos) (tIf tA ta tb) := by
  intro pins s σ H Q I h
  refine wpAny_IfExp (thn (hc pins s σ H _ I h) fun d s1 zz => ?_)
  obtain ⟨H1, I1, q1⟩ := zz
  cases d with
  | true => exact ha pins s1 σ H1 Q I1 q1
  | false => exact hb pins s1 σ H1 Q I1 q1
end
end L2

namespace L2
open PySem PySem.Spec PyProof.Rows

/-! ### a list, a tuple that is read: tracked, frozen, or an object of the module -/
noncomputable def SqL (K : PySem.W.Frag) (H : Hp) (a : Addr) (xs : List V) : Prop :=
  Rd H a (.lst xs) ∨
    ∃ (o : Obj) (its : Array Value) (n : Nat), K.lookup a = some o ∧ o.cls = .type "list" ∧ o.dict = none ∧ o.data = .seq its n ∧ its.size ≤ sizeLine ∧ Vals xs its.toList
noncomputable def SqT (K : PySem.W.Frag) (H : Hp) (a : Addr) (xs : List V) : Prop :=
  Rd H a (.tup xs) ∨
    ∃ (o : Obj) (its : Array Value) (n : Nat), K.lookup a = some o ∧ o.cls = .type "tuple" ∧ o.data = .seq its n ∧ its.size ≤ sizeLine ∧ Vals xs its.toList
noncomputable def absV : Value → Option V
  | .none => some .non
  | .bool b => some (.bl b)
  | .int i _ => some (.int i)
  | .str x _ => some (.str x)
  | .bytes b _ => some (.byt b)
  | .float b _ => some (.flt b)
  | .ref a => some (.ref a)
  | .type n => some (.ty n)
  | _ => none
theorem RelV.abs {x : V} {u : Value} (r : RelV x u) : absV u = some x := by
  cases x with
  | non => cases r; rfl
  | bl _ => cases r; rfl
  | int _ => obtain ⟨t, rfl⟩ := r; rfl
  | str _ => obtain ⟨t, rfl⟩ := r; rfl
  | byt _ => obtain ⟨t, rfl⟩ := r; rfl
  | flt _ => obtain ⟨t, rfl⟩ := r; rfl
  | ref _ => cases r; rfl
  | ty _ => cases r; rfl
theorem RelV.inj {x y : V} {u : Value} (r : RelV x u) (q : RelV y u) : x = y := Option.some.inj (r.abs.symm.trans q.abs)
theorem Vals.inj : ∀ {xs ys : List V} {us : List Value}, Vals xs us → Vals ys us → xs = ys
  | _, _, _, .nil, .nil => rfl
  | _, _, _, .cons r t, .cons r' t' => by rw [r.inj r', Vals.inj t t']
section
variable {X : Cx} {pins : List (Addr × Obj)} {σ : St} {H : Hp} {s : Shared} {a : Addr} {xs ys : List V}
theorem SqL.of {K : PySem.W.Frag} (h : H a = some (.lst xs)) : SqL K H a xs := .inl (.inl h)
theorem SqT.of {K : PySem.W.Frag} (h : H a = some (.tup xs)) : SqT K H a xs := .inl (.inl h)
theorem Inv.list (I : Inv X pins σ H s) (h : SqL X.K H a xs) : ∃ its : List Value, Vals xs its ∧ PlainL s.heap a its.toArray ∧ xs.length ≤ sizeLine := by
  rcases h with h | ⟨o, its, n, hk, hc, hd, hs, hz, r⟩
  · obtain ⟨z, its, n, r, e⟩ := h.ok I.hok
    exact ⟨its, r, ⟨_, n, e, rfl, rfl, rfl⟩, z⟩
  · refine ⟨its.toList, r, ⟨o, n, I.kIn a o hk, hc, hd, by simpa using hs⟩, ?_⟩
    have e := r.length
    simp only [Array.length_toList] at e
    omega
theorem Inv.tuple (I : Inv X pins σ H s) (h : SqT X.K H a xs) : ∃ its : List Value, Vals xs its ∧ IsTup s.heap a its.toArray ∧ xs.length ≤ sizeLine := by
  rcases h with h | ⟨o, its, n, hk, hc, hs, hz, r⟩
  · obtain ⟨z, its, r, p⟩ := h.ok I.hok
    exact ⟨its, r, p, z⟩
  · refine ⟨its.toList, r, ⟨o, I.kIn a o hk, hc, n, by simpa using hs⟩, ?_⟩
    have e := r.length
    simp only [Array.length_toList] at e
    omega
theorem Inv.list_inj (I : Inv X pins σ H s) (h : SqL X.K H a xs) (h' : SqL X.K H a ys) : xs = ys := by
  obtain ⟨its, r, ⟨o, n, e, _, _, d⟩, _⟩ := I.list h
  obtain ⟨its', r', ⟨o', n', e', _, _, d'⟩, _⟩ := I.list h'
  rw [e] at e'; cases e'
  rw [d] at d'
  injection d' with d1 _
  have : its = its' := by simpa using congrArg Array.toList d1
  subst this
  exact r.inj r'
end

/-! ### another wish about exceptions -/
noncomputable abbrev Cx.wish (X : Cx) (E : Value → Shared → Prop) : Cx := { X with xe := E }
/-- no exception leaves -/
noncomputable abbrev Cx.nox (X : Cx) : Cx := X.wish fun _ _ => False
theorem Cx.Ok.wish {X : Cx} (ok : X.Ok) (E : Value → Shared → Prop) : (X.wish E).Ok :=
  ⟨ok.mod, ok.kind, ok.glob, ok.blt, ok.above, ok.inj, ok.has, ok.cab, ok.hd, ok.frames, ok.stk, ok.exf, ok.bs, ok.bsz, ok.noex, ok.exfs, ok.funs, ok.frf⟩
theorem Cx.Ok.unwish {X : Cx} {E : Value → Shared → Prop} (ok : (X.wish E).Ok) : X.Ok :=
  ⟨ok.mod, ok.kind, ok.glob, ok.blt, ok.above, ok.inj, ok.has, ok.cab, ok.hd, ok.frames, ok.stk, ok.exf, ok.bs, ok.bsz, ok.noex, ok.exfs, ok.funs, ok.frf⟩
section
variable {X : Cx} {pins : List (Addr × Obj)} {σ : St} {H : Hp} {s : Shared} {E : Value → Shared → Prop}
theorem Inv.wish (I : Inv X pins σ H s) (E : Value → Shared → Prop) : Inv (X.wish E) pins σ H s := ⟨I.ok.wish E, I.os, I.bare, I.base, I.loc, I.cell, I.free, I.freeC, I.pin, I.hok, I.len⟩
theorem Inv.unwish (I : Inv (X.wish E) pins σ H s) : Inv X pins σ H s := ⟨I.ok.unwish, I.os, I.bare, I.base, I.loc, I.cell, I.free, I.freeC, I.pin, I.hok, I.len⟩
theorem SP.unwish {D : Ends} {f : Flow} {s' : Shared} (h : SP (X.wish E) pins D f s') : SP X pins D f s' := by
  cases f with
  | next => obtain ⟨σ', H', I, q⟩ := h; exact ⟨σ', H', I.unwish, q⟩
  | brk => obtain ⟨σ', H', I, q⟩ := h; exact ⟨σ', H', I.unwish, q⟩
  | cont => obtain ⟨σ', H', I, q⟩ := h; exact ⟨σ', H', I.unwish, q⟩
  | ret u => obtain ⟨v, σ', H', I, r, q⟩ := h; exact ⟨v, σ', H', I.unwish, r, q⟩
theorem PSs.nox {st : List Stmt} {t : TS} (h : PSs X.nox st t) : PSs X st t := fun pins s σ H D I hw =>
  wpAny_mono (h pins s σ H D (I.wish _) hw) (fun _ _ q => q.unwish) fun _ _ z => False.elim z
end

/-! ### blocks and small statements -/
section
variable {X : Cx} {st : Stmt} {rest : List Stmt} {t u : TS} {e : Expr} {te : TE} {pos : Pos}
noncomputable def tNext : TS := fun D σ H => D.nx σ H
noncomputable def tSeq (t u : TS) : TS := fun D σ H => t { D with nx := u D } σ H
theorem pss_nil : PSs X [] tNext := fun _ _ σ H _ I h => wpAny_execs_nil ⟨σ, H, I, h⟩
theorem pss_cons (h1 : PS X st t) (h2 : PSs X rest u) : PSs X (st :: rest) (tSeq t u) := by
  intro pins s σ H D I h
  refine wpAny_execs_cons (thn (h1 pins s σ H { D with nx := u D } I h) fun f s1 q => ?_)
  cases f with
  | next =>
    obtain ⟨σ', H', I', q⟩ := q
    exact h2 pins s1 σ' H' D I' q
  | ret v => exact q
  | brk => exact q
  | cont => exact q
theorem pss_one (h1 : PS X st t) : PSs X [st] t := by
  intro pins s σ H D I h
  refine wpAny_execs_cons (thn (h1 pins s σ H D I h) fun f s1 q => ?_)
  cases f with
  | next => exact wpAny_execs_nil q
  | ret v => exact q
  | brk => exact q
  | cont => exact q
/-- in a def's body nothing is shown -/
theorem Inv.quiet {pins : List (Addr × Obj)} {σ : St} {H : Hp} {s : Shared} (I : Inv X pins σ H s) : interactive X.env = false := by simp [interactive, I.ok.kind]
/-- an expression whose value is dropped -/
noncomputable def tDrop (te : TE) : TS := fun D σ H => te σ H fun _ H1 => D.nx σ H1
theorem ps_expr (he : PE X e te) (hs : swapsWith e none pos.line X.env = pure false := by rfl) : PS X (.Expr e pos) (tDrop te) := by
  intro pins s σ H D I h
  exact wpAny_Expr_any (thn (he pins s σ H _ I h) fun v s1 ⟨x, H1, I1, r1, q1⟩ => ⟨σ, H1, I1, q1⟩) I.quiet hs
noncomputable def tRet (te : TE) : TS := fun D σ H => te σ H D.rt
theorem ps_ret (he : PE X e te) : PS X (.Return (some e) pos) (tRet te) := by
  intro pins s σ H D I h
  exact wpAny_Return_some (thn (he pins s σ H _ I h) fun v s1 ⟨x, H1, I1, r1, q1⟩ => ⟨x, σ, H1, I1, r1, q1⟩)
noncomputable def tIfS (c : TT) (t u : TS) : TS := fun D σ H => c σ H fun b H1 => if b = true then t D σ H1 else u D σ H1
theorem ps_if {c : Expr} {a b : List Stmt} {tc : TT} (hc : PT X c tc) (ha : PSs X a t) (hb : PSs X b u) : PS X (.If c a b pos) (tIfS tc t u) := by
  intro pins s σ H D I h
  refine wpAny_If (thn (hc pins s σ H _ I h) fun d s1 zz => ?_)
  obtain ⟨H1, I1, q1⟩ := zz
  cases d with
  | true => exact ha pins s1 σ H1 D I1 q1
  | false => exact hb pins s1 σ H1 D I1 q1
/-- code that the proof never comes to -/
noncomputable def tNever : TS := fun _ _ _ => False
theorem ps_never : PS X st tNever := fun _ _ _ _ _ _ h => h.elim
end

/-! ### targets -/
noncomputable abbrev TG := V → St → Hp → (St → Hp → Prop) → Prop
noncomputable abbrev TGs := List V → St → Hp → (St → Hp → Prop) → Prop
noncomputable def PG (X : Cx) (target : Expr) (t : TG) : Prop :=
  ∀ (pins : List (Addr × Obj)) (s : Shared) (σ : St) (H : Hp) (v : V) (u : Value) (Q : St → Hp → Prop), Inv X pins σ H s → RelV v u → t v σ H Q →
    wpAny (model X.prog X.w) X.A (assign target X.env u) (fun _ s' => ∃ σ' H', Inv X pins σ' H' s' ∧ Q σ' H') X.xe s
/-- several targets, one after another -/
noncomputable def PGs (X : Cx) (ts : List Expr) (t : TGs) : Prop :=
  ∀ (pins : List (Addr × Obj)) (s : Shared) (σ : St) (H : Hp) (vs : List V) (us : List Value) (Q : St → Hp → Prop), Inv X pins σ H s → Vals vs us → t vs σ H Q →
    wpAny (model X.prog X.w) X.A (assignInOrder ((assignEach ts X.env).map (·.2)) us) (fun _ s' => ∃ σ' H', Inv X pins σ' H' s' ∧ Q σ' H') X.xe s
/-- o[i] = v, by values -/
noncomputable abbrev TSet := V → V → V → Hp → (Hp → Prop) → Prop
noncomputable def PSet (X : Cx) (t : TSet) : Prop :=
  ∀ (pins : List (Addr × Obj)) (s : Shared) (σ : St) (H : Hp) (o i v : V) (ov iv u : Value) (Q : Hp → Prop), Inv X pins σ H s → RelV o ov → RelV i iv → RelV v u → t o i v H Q →
    wpAny (model X.prog X.w) X.A (setItem ov iv u) (fun _ s' => ∃ H', Inv X pins σ H' s' ∧ Q H') X.xe s
section
variable {X : Cx} {pos : Pos}
noncomputable def gName (i : Nat) : TG := fun v σ H Q => Q (σ.set i (some v)) H
theorem pg_name {i : Nat} {x : Str} (hN : X.N.Nodup) (hi : X.N[i]? = some x) (hx : Loc X.env.scope x) (hf : X.fn x = true ∨ X.env.scope.names.lookup x = some .local := by first | exact .inl rfl | exact .inr rfl | assumption) : PG X (.Name x pos) (gName i) := by
  intro pins s σ H v u Q I r h
  exact wpAny_assign_Name (store_ok I hN hi hx r (fun s' I' => ⟨_, H, I', h⟩) hf)
noncomputable def gNil : TGs := fun vs σ H Q => vs = [] ∧ Q σ H
noncomputable def gCons (t : TG) (u : TGs) : TGs := fun vs σ H Q => ∃ v r, vs = v :: r ∧ t v σ H fun σ' H' => u r σ' H' Q
theorem pgs_nil : PGs X [] gNil := by
  intro pins s σ H vs us Q I r h
  obtain ⟨e, h⟩ := h
  subst e
  cases r
  exact assignInOrder_nil ⟨σ, H, I, h⟩
theorem pgs_cons {e : Expr} {es : List Expr} {t : TG} {u : TGs} (h1 : PG X e t) (h2 : PGs X es u)
    (hs : (assignEach (e :: es) X.env).map (·.2) = assign e X.env :: (assignEach es X.env).map (·.2) := by rfl) : PGs X (e :: es) (gCons t u) := by
  intro pins s σ H vs us Q I r h
  obtain ⟨v, vr, e1, h⟩ := h
  subst e1
  cases r with
  | cons r rr =>
    rw [hs]
    refine assignInOrder_cons (thn (h1 pins s σ H _ _ _ I r h) fun _ s1 zz => ?_)
    obtain ⟨σ1, H1, I1, q1⟩ := zz
    exact h2 pins s1 σ1 H1 _ _ Q I1 rr q1
/-- (a, b, ..) = a tuple of that length -/
noncomputable def gTup (K : PySem.W.Frag) (n : Nat) (t : TGs) : TG := fun v σ H Q => ∃ a xs, v = .ref a ∧ SqT K H a xs ∧ xs.length = n ∧ t xs σ H Q
theorem pg_tup {es : List Expr} {k : Nat} {t : TGs} {n : Nat} (hc : X.calm = true) (h : PGs X es t)
    (hn : (assignEach es X.env).length = n := by rfl) (hst : (assignEach es X.env).findIdx? (·.1) = none := by rfl) : PG X (.Tuple es k pos) (gTup X.K n t) := by
  intro pins s σ H v u Q I r hw
  obtain ⟨a, xs, e1, hq, hl, hw⟩ := hw
  subst e1
  cases r
  obtain ⟨its, rv, ht, hz⟩ := I.tuple hq
  refine assign_Tuple_tuple (I.ok.hd hc) ht (by simp [hn, ← hl, rv.length]) hst fun h' hx => ?_
  have I1 : Inv X pins σ H { s with heap := h' } := I.kept (t' := s.toks) fun b o e => hx b o (Nat.ne_of_lt (Heap.lt_size e)) e
  exact h pins _ σ H xs _ Q I1 (by simpa using rv) hw
/-- o[i] = .. -/
noncomputable def gSub (to ti : TE) (t : TSet) : TG := fun v σ H Q => to σ H fun o H1 => ti σ H1 fun i H2 => t o i v H2 fun H3 => Q σ H3
theorem pg_sub {o i : Expr} {to ti : TE} {t : TSet} (ho : PE X o to) (hi : PE X i ti) (hs : PSet X t)
    (ha : ∀ v, assign (.Subscript o i pos) X.env v = (do
      let ov ← holding [v] (eval o X.env)
      let iv ← holding [v, ov] (eval i X.env)
      standAt pos
      holding [v, ov, iv] (setItem ov iv v)
      release [v, ov, iv] []) := by intro _; rfl) : PG X (.Subscript o i pos) (gSub to ti t) := by
  intro pins s σ H v u Q I r h
  rw [ha]
  refine wpAny_bind (wpAny_holding (thn (ho pins s σ H _ I h) fun ov s1 zz => ?_))
  obtain ⟨x, H1, I1, r1, q1⟩ := zz
  refine wpAny_bind (wpAny_holding (thn (hi pins s1 σ H1 _ I1 q1) fun iv s2 zz => ?_))
  obtain ⟨y, H2, I2, r2, q2⟩ := zz
  refine wpAny_bind (wpAny_standAt (wpAny_bind (wpAny_holding (thn (hs pins s2 σ H2 x y v ov iv u _ I2 r1 r2 r q2) fun _ s3 zz => ?_))))
  obtain ⟨H3, I3, q3⟩ := zz
  exact wpAny_release ⟨σ, H3, I3, q3⟩
/-- target = value -/
noncomputable def tAsg (te : TE) (g : TG) : TS := fun D σ H => te σ H fun x H1 => g x σ H1 D.nx
theorem ps_asg {tg e : Expr} {te : TE} {g : TG} (he : PE X e te) (hg : PG X tg g) (hs : swapsWithSole [tg] e pos.line X.env = pure false := by rfl) (hw : swappedStores [tg] e X.env = pure none := by rfl)
    (h1 : (assignEach [tg] X.env).map (·.2) = [assign tg X.env] := by rfl) : PS X (.Assign [tg] e pos) (tAsg te g) := by
  intro pins s σ H D I h
  refine wpAny_Assign_stores (thn (he pins s σ H _ I h) fun v s1 zz => ?_) hs hw
  obtain ⟨x, H1, I1, r1, q1⟩ := zz
  rw [h1]
  exact thn (hg pins s1 σ H1 x v _ I1 r1 q1) fun _ s2 q => q
/-- name = value -/
theorem ps_set {i : Nat} {x : Str} {e : Expr} {te : TE} {pos' : Pos} (hN : X.N.Nodup) (hi : X.N[i]? = some x) (hx : Loc X.env.scope x) (he : PE X e te) (hs : swapsWith e (some (.Name x pos')) pos.line X.env = pure false := by rfl) (hf : X.fn x = true ∨ X.env.scope.names.lookup x = some .local := by first | exact .inl rfl | exact .inr rfl | assumption) :
    PS X (.Assign [.Name x pos'] e pos) (tAsg te (gName i)) := by
  intro pins s σ H D I h
  refine wpAny_Assign_Name (thn (he pins s σ H _ I h) fun v s1 zz => ?_) hs
  obtain ⟨y, H1, I1, r1, q1⟩ := zz
  exact store_ok I1 hN hi hx r1 (fun s2 I2 => ⟨_, H1, I2, q1⟩) hf
end

/-! ### while -/
section
variable {X : Cx} {pos : Pos}
end

/-! ### what a loop or a comprehension walks -/
/-- at turn i: it yields x (the heap may grow), or it stops -/
structure It where
  go : Nat → Hp → Prop
  yld : Nat → Hp → V → Hp → Prop
  stop : Nat → Hp → Prop
/-- the iterator's own objects may turn: they are not the frame's, not pinned, younger than the entry (or a comprehension's own) -/
noncomputable def FpOk (X : Cx) (pins : List (Addr × Obj)) (H : Hp) (b : Addr) : Prop :=
  H b = none ∧ b ≠ X.env.locals ∧ b ∉ X.fs ∧ (b ∈ X.ex ∨ X.s₀.heap.objs.size ≤ b) ∧ (∀ x c, X.env.cells.lookup x = some c → c ≠ b) ∧ ∀ p ∈ X.pn ++ pins, p.1 ≠ b
theorem Inv.fpOk {X : Cx} {pins : List (Addr × Obj)} {σ : St} {H H' : Hp} {s : Shared} {b : Addr} (I : Inv X pins σ H s) (hb : s.heap.objs.size ≤ b) (hn : H' b = none) : FpOk X pins H' b := by
  refine ⟨hn, Nat.ne_of_gt (Nat.lt_of_lt_of_le I.lt hb), I.nofs hb, .inr (Nat.le_trans I.sz hb), fun x c e z => ?_, fun p hp z => ?_⟩
  · obtain ⟨v, q⟩ := I.cell x c e
    exact absurd (Nat.lt_of_lt_of_le q.lt (by rw [z]; exact hb)) (Nat.lt_irrefl _)
  · exact absurd (Nat.lt_of_lt_of_le (Heap.lt_size (I.pin p hp).1) (by rw [z]; exact hb)) (Nat.lt_irrefl _)
structure Turn (P : Program) (w : World) (K : PySem.W.Frag) (tg : Expr) (J : It) (fp : List Addr) (it : Addr) (tn : Nat → Heap → Prop) : Prop where
  mem : it ∈ fp
  obj : ∀ i h, tn i h → ∀ b ∈ fp, ∃ o, h.get? b = some o ∧ ∀ v, o.data ≠ .cell v
  keep : ∀ i h h', tn i h → (∀ b ∈ fp, ∀ o, h.get? b = some o → h'.get? b = some o) → tn i h'
  item : ∀ (X : Cx), X.prog = P → X.w = w → X.K = K → X.calm = true → ∀ (i : Nat) (pins : List (Addr × Obj)) (s : Shared) (σ : St) (H : Hp) (E : Value → Shared → Prop), Inv X pins σ H s → (∀ b ∈ fp, FpOk X pins H b) → tn i s.heap → J.go i H →
    wpAny (model P w) X.A (pyNext (.ref it)) (fun r s1 => ∃ u, r = some u ∧
      wpAny (model P w) X.A (letOwnedTupleGo tg (.ref it) u) (fun _ s2 => ∃ x H', Inv X pins σ H' s2 ∧ RelV x u ∧ J.yld i H x H' ∧ tn (i + 1) s2.heap ∧ ∀ b ∈ fp, H' b = none) E s1) E s
  done : ∀ (X : Cx), X.prog = P → X.w = w → X.K = K → X.calm = true → ∀ (i : Nat) (pins : List (Addr × Obj)) (s : Shared) (σ : St) (H : Hp) (E : Value → Shared → Prop), Inv X pins σ H s → (∀ b ∈ fp, FpOk X pins H b) → tn i s.heap → J.stop i H →
    wpAny (model P w) X.A (pyNext (.ref it)) (fun r s1 => r = none ∧ Inv X pins σ H s1) E s
  self : ∀ (A : Around) (i : Nat) (s : Shared) (Q : Value → Shared → Prop) (E : Value → Shared → Prop), tn i s.heap → Q (.ref it) s → wpAny (model P w) A (pyIter (.ref it)) Q E s
noncomputable abbrev TI := St → Hp → (It → Hp → Prop) → Prop
/-- an iterator has come -/
noncomputable def PIE (X : Cx) (pins : List (Addr × Obj)) (σ : St) (tg : Expr) (R : It → Hp → Prop) (itv : Value) (s2 : Shared) : Prop :=
  ∃ (it : Addr) (fp : List Addr) (tn : Nat → Heap → Prop) (J : It) (H' : Hp), itv = .ref it ∧ Inv X pins σ H' s2 ∧ Turn X.prog X.w X.K tg J fp it tn ∧ tn 0 s2.heap ∧ (∀ b ∈ fp, FpOk X pins H' b) ∧ R J H'
noncomputable def PI (X : Cx) (tg iter : Expr) (wi : TI) : Prop :=
  ∀ (pins : List (Addr × Obj)) (s : Shared) (σ : St) (H : Hp) (R : It → Hp → Prop), Inv X pins σ H s → wi σ H R →
    wpAny (model X.prog X.w) X.A (eval iter X.env) (fun v s1 => wpAny (model X.prog X.w) X.A (pyIter v) (PIE X pins σ tg R) X.xe s1) X.xe s

/-- the step ahead of the store is nothing for an iterator that keeps no tuple -/
theorem go_of {M : Model} {A : Around} {E : Value → Shared → Prop} {s : Shared} {tg : Expr} {it : Addr} {u : Value} {o : Obj} {n : String} {vs : Array Value} {Q : Unit → Shared → Prop} (ho : s.heap.get? it = some o) (hc : o.cls = .type n) (hd : o.data = .fields vs)
    (hn : ["enumerate", "zip", "dict_itemiterator", "dict_reverseitemiterator", "odict_iterator", "itertools.zip_longest", "itertools.pairwise"].contains n = false) (hQ : Q () s) : wpAny M A (letOwnedTupleGo tg (.ref it) u) Q E s := by
  unfold letOwnedTupleGo
  cases tg <;> first
    | exact wpAny_pure hQ
    | (cases u <;> first
        | exact wpAny_pure hQ
        | (refine wpAny_bind (wpAny_load ho ?_)
           rw [hc, hd]
           show wpAny M A (if (["enumerate", "zip", "dict_itemiterator", "dict_reverseitemiterator", "odict_iterator", "itertools.zip_longest", "itertools.pairwise"].contains n && vs[0]? == some (rawInt _)) = true then _ else _) Q E s
           rw [if_neg (by intro h; rw [hn, Bool.false_and] at h; cases h)]
           exact wpAny_pure hQ))

/-- the list at a, as it stands at each turn (a loop may append to it) -/
noncomputable def Itl (K : PySem.W.Frag) (a : Addr) : It :=
  ⟨fun i H => ∃ xs x, SqL K H a xs ∧ xs[i]? = some x, fun i H x H' => H' = H ∧ ∀ xs, SqL K H a xs → xs[i]? = some x, fun i H => ∃ xs, SqL K H a xs ∧ xs.length ≤ i⟩
/-- lo, lo + 1, .. (n of them) -/
noncomputable def Itr (lo : Int) (n : Nat) : It := ⟨fun i _ => i < n, fun i H x H' => H' = H ∧ x = .int (lo + i), fun i _ => n ≤ i⟩
theorem turn_list {P : Program} {w : World} {K : PySem.W.Frag} {tg : Expr} (a it : Addr) : Turn P w K tg (Itl K a) [it] it (fun i h => h.IsListIter it a i) where
  mem := by simp
  obj := fun i h st b hb => by
    have e : b = it := by simpa using hb
    subst e
    obtain ⟨o, e, c, d⟩ := st
    exact ⟨o, e, fun v z => by rw [d] at z; cases z⟩
  keep := fun i h h' st k => st.at fun o e => k it (by simp) o e
  item := by
    intro X hP hw hK hc i pins s σ H E I hf st hg
    subst hP hw hK
    obtain ⟨xs, x, hq, hx⟩ := hg
    obtain ⟨its, rv, p, hz⟩ := I.list hq
    obtain ⟨u, hu, ru⟩ := rv.get hx
    obtain ⟨f0, f1, f2, f3, f4, f5⟩ := hf it (by simp)
    refine wpAny_pyNext_list_item st p.isList (x := u) (by simpa using hu) fun h' st' sb => ?_
    have I1 : Inv X pins σ H { s with heap := h' } := I.turned (t' := s.toks) (fun b o hb e => (sb.2 b hb).trans e) f0 f1 f3 f4 f5
    obtain ⟨o, e, c, d⟩ := id st'
    exact ⟨u, rfl, go_of (s := { s with heap := h' }) e c d (by decide) ⟨x, H, I1, ru, ⟨rfl, fun ys hy => by rw [I.list_inj hy hq]; exact hx⟩, st', fun b hb => (hf b hb).1⟩⟩
  done := by
    intro X hP hw hK hc i pins s σ H E I hf st hg
    subst hP hw hK
    obtain ⟨xs, hq, hx⟩ := hg
    obtain ⟨its, rv, p, hz⟩ := I.list hq
    obtain ⟨f0, f1, f2, f3, f4, f5⟩ := hf it (by simp)
    have hl := rv.length
    exact wpAny_pyNext_list_end (I.ok.hd hc) st p.isList (by simp; omega) fun h' eb => ⟨rfl, I.turned (t' := s.toks) (fun b o hb e => eb b o hb e) f0 f1 f3 f4 f5⟩
  self := fun _ _ _ _ _ st h => wpAny_pyIter_listiter st h
theorem turn_range {P : Program} {w : World} {K : PySem.W.Frag} {tg : Expr} (it : Addr) (lo : Int) (n : Nat) : Turn P w K tg (Itr lo n) [it] it (fun i h => IsRangeIter h it (lo + (i : Nat) * 1) ((n : Int) - (i : Nat)) 1) where
  mem := by simp
  obj := fun i h st b hb => by
    have e : b = it := by simpa using hb
    subst e
    exact ⟨_, st, fun v z => by
      have z' : Data.fields _ = Data.cell v := z
      cases z'⟩
  keep := fun i h h' st k => k it (by simp) _ st
  item := by
    intro X hP hw hK hc i pins s σ H E I hf st hg
    subst hP hw hK
    obtain ⟨f0, f1, f2, f3, f4, f5⟩ := hf it (by simp)
    have W := Walks.range (prog := X.prog) (w := X.w) (I.ok.hd hc) it lo 1 n
    refine W.item i s _ _ hg st fun v h' tk hv st' kk => ?_
    obtain ⟨t, rfl⟩ := hv
    have I1 : Inv X pins σ H { s with heap := h', toks := tk } := I.turned (fun b o hb e => kk b o (by simpa using hb) e) f0 f1 f3 f4 f5
    refine ⟨_, rfl, go_of (s := { s with heap := h', toks := tk }) (n := "range_iterator") st' rfl rfl (by decide) ⟨.int (lo + i), H, I1, ⟨t, ?_⟩, ⟨rfl, rfl⟩, st', fun b hb => (hf b hb).1⟩⟩
    rw [Int.mul_one]
  done := by
    intro X hP hw hK hc i pins s σ H E I hf st hg
    subst hP hw hK
    obtain ⟨f0, f1, f2, f3, f4, f5⟩ := hf it (by simp)
    exact wpAny_pyNext_range_end (I.ok.hd hc) st (by have : n ≤ i := hg; omega) fun h' eb => ⟨rfl, I.turned (t' := s.toks) (fun b o hb e => eb b o hb e) f0 f1 f3 f4 f5⟩
  self := fun _ _ _ _ _ st h => wpAny_pyIter_rangeiter st h
end L2

namespace L2
open PySem PySem.Spec PyProof.Rows
section
variable {X : Cx} {tg : Expr}
noncomputable def iList (K : PySem.W.Frag) (tl : TE) : TI := fun σ H R => tl σ H fun x H1 => ∃ a, x = .ref a ∧ (∃ xs, SqL K H1 a xs) ∧ R (Itl K a) H1
theorem pi_list {l : Expr} {tl : TE} (hl : PE X l tl) : PI X tg l (iList X.K tl) := by
  intro pins s σ H R I h
  refine thn (hl pins s σ H _ I h) fun v s1 zz => ?_
  obtain ⟨x, H1, I1, r1, q1⟩ := zz
  obtain ⟨a, e, ⟨xs, hq⟩, q⟩ := q1
  subst e
  cases r1
  obtain ⟨its, rv, p, hz⟩ := I1.list hq
  refine wpAny_pyIter_list p.isList ?_
  refine ⟨s1.heap.objs.size, [s1.heap.objs.size], _, _, H1, rfl, I1.kept (t' := s1.toks) fun b o e => Heap.get?_push_of_some _ e, turn_list a _, ⟨_, Heap.get?_push_size _ rfl, rfl, rfl⟩, fun b hb => ?_, q⟩
  have e : b = s1.heap.objs.size := by simpa using hb
  subst e
  exact I1.fpOk (Nat.le_refl _) (I1.hok.fresh (Nat.le_refl _))
/-- a range object just made, walked -/
theorem range_it {pins : List (Addr × Obj)} {σ : St} {H : Hp} {s : Shared} {R : It → Hp → Prop} {E : Value → Shared → Prop} {lo hi : Int} {t u v : Tok} {tk : Nat} (I : Inv X pins σ H s) (h1 : -(2 ^ 62) ≤ lo) (h2 : lo < 2 ^ 62) (h3 : -(2 ^ 62) ≤ hi) (h4 : hi < 2 ^ 62)
    (q : R (Itr lo (hi - lo).toNat) H) : wpAny (model X.prog X.w) X.A (pyIter (.ref s.heap.objs.size)) (PIE X pins σ tg R) E { s with heap := s.heap.push { cls := .type "range", data := .fields #[.int lo t, .int hi u, .int 1 v] }, toks := tk } := by
  refine wpAny_pyIter_range (IsRange.new ..) (small_one h1 h2 h3 h4) ?_
  have I1 : Inv X pins σ H { s with heap := s.heap.push { cls := .type "range", data := .fields #[.int lo t, .int hi u, .int 1 v] }, toks := tk } := I.kept fun b o e => Heap.get?_push_of_some _ e
  refine ⟨(s.heap.push { cls := .type "range", data := .fields #[.int lo t, .int hi u, .int 1 v] }).objs.size, [(s.heap.push { cls := .type "range", data := .fields #[.int lo t, .int hi u, .int 1 v] }).objs.size], _, _, H, rfl,
    I1.kept (t' := tk) fun b o e => Heap.get?_push_of_some _ e, turn_range _ lo (hi - lo).toNat, ?_, fun b hb => ?_, q⟩
  · have e1 : lo + ((0 : Nat) : Int) * 1 = lo := by simp
    have e2 : (((hi - lo).toNat : Nat) : Int) - ((0 : Nat) : Int) = Builtin.Range.rangeSize lo hi 1 := by rw [rangeSize_one]; split <;> omega
    show IsRangeIter _ _ (lo + ((0 : Nat) : Int) * 1) ((((hi - lo).toNat : Nat) : Int) - ((0 : Nat) : Int)) 1
    rw [e1, e2]
    exact Heap.get?_push_size _ rfl
  · have e : b = (s.heap.push { cls := .type "range", data := .fields #[.int lo t, .int hi u, .int 1 v] }).objs.size := by simpa using hb
    subst e
    exact I1.fpOk (Nat.le_refl _) (I1.hok.fresh (Nat.le_refl _))
noncomputable def iRng1 (ta : TA) : TI := fun σ H R => ta σ H fun vs H1 => ∃ j : Int, vs = [.int j] ∧ -(2 ^ 62) ≤ j ∧ j < 2 ^ 62 ∧ R (Itr 0 j.toNat) H1
theorem pi_range1 {a : Expr} {ta : TA} {p pos : Pos} (hg : Gl X "range") (hm : X.mg "range" = none) (ha : PA X [a] ta) (hs : starEach [a] X.env = [(false, eval a X.env)] := by rfl) : PI X tg (.Call (.Name "range" p) [a] [] pos) (iRng1 ta) := by
  intro pins s σ H R I h
  refine Call_ (ld_blt I hg hm boot_range (PyProof.Rows.callWith_type1 (thn (ha pos pins s σ H _ I h) fun us s1 zz => ?_) hs rfl))
  obtain ⟨vs, H1, I1, r1, q1⟩ := zz
  obtain ⟨j, e, q1, q2, q⟩ := q1
  subst e
  cases r1 with
  | cons r rr =>
    cases rr
    obtain ⟨t, rfl⟩ := r
    exact call_range_1 (range_it I1 (by omega) (by omega) q1 q2 (by simpa using q))

/-! ### for -/
/-- W: the invariant by the turn and a measure; N: what the body is to reach -/
noncomputable def tFor (wi : TI) (g : TG) (tb : TS) : TS := fun D σ H => wi σ H fun J H1 => ∃ W : Nat → Nat → St → Hp → Prop, (∃ m, W 0 m σ H1) ∧ ∀ i m σ H, W i m σ H →
  (J.stop i H ∧ D.nx σ H) ∨ (J.go i H ∧ ∃ N : St → Hp → Prop, (∀ σ' H', N σ' H' → ∃ m', m' < m ∧ W (i + 1) m' σ' H') ∧ ∀ x H', J.yld i H x H' → g x σ H' fun σ2 H2 => tb { D with nx := N, ct := N, bk := D.nx } σ2 H2)
/-- the records at fp as they stand -/
noncomputable def pinsAt (fp : List Addr) (h : Heap) : List (Addr × Obj) := fp.filterMap fun b => (h.get? b).map fun o => (b, o)
theorem mem_pinsAt {fp : List Addr} {h : Heap} {b : Addr} {o : Obj} (hb : b ∈ fp) (e : h.get? b = some o) : (b, o) ∈ pinsAt fp h := List.mem_filterMap.mpr ⟨b, hb, by rw [e]; rfl⟩
theorem of_pinsAt {fp : List Addr} {h : Heap} {p : Addr × Obj} (hp : p ∈ pinsAt fp h) : p.1 ∈ fp ∧ h.get? p.1 = some p.2 := by
  obtain ⟨b, hb, e⟩ := List.mem_filterMap.mp hp
  cases q : h.get? b with
  | none => rw [q] at e; cases e
  | some o =>
    rw [q] at e
    have e' : (b, o) = p := Option.some.inj e
    subst e'
    exact ⟨hb, q⟩
theorem Inv.pinned {pins : List (Addr × Obj)} {σ : St} {H : Hp} {s : Shared} {fp : List Addr} (I : Inv X pins σ H s) (hf : ∀ b ∈ fp, FpOk X pins H b) (ho : ∀ b ∈ fp, ∃ o, s.heap.get? b = some o ∧ ∀ v, o.data ≠ .cell v) : Inv X (pins ++ pinsAt fp s.heap) σ H s :=
  I.pins_of fun p hp => (List.mem_append.mp hp).elim (fun z => I.pin p (List.mem_append_right _ z)) fun z => by
    obtain ⟨hb, e⟩ := of_pinsAt z
    obtain ⟨f0, f1, f2, _⟩ := hf p.1 hb
    obtain ⟨o, e', d⟩ := ho p.1 hb
    rw [e] at e'; cases e'
    exact ⟨e, f0, f1, f2, d⟩
theorem Inv.unpinned {pins pl : List (Addr × Obj)} {σ : St} {H : Hp} {s : Shared} (I : Inv X (pins ++ pl) σ H s) : Inv X pins σ H s := I.pins_of fun p hp => I.pin p (List.mem_append_right _ (List.mem_append_left _ hp))
theorem ps_for {iter : Expr} {body : List Stmt} {wi : TI} {g : TG} {tb : TS} {pos : Pos} (hp : PassesOwn (model X.prog X.w) X.A X.env X.xe) (hc : X.calm = true) (hi : PI X tg iter wi) (hg : PG X tg g) (hb : PSs X body tb)
    (hs : ∀ x, foldedSetIterable iter X.env x = pure x := by intro _; rfl) : PS X (.For tg iter body [] pos) (tFor wi g tb) := by
  intro pins s σ H D I h
  refine wpAny_For (thn (hi pins s σ H _ I h) fun v s1 h1 => thn h1 fun itv s2 h2 => ?_) hs
  obtain ⟨it, fp, tn, J, H2, e, I2, T, st2, f2, W, ⟨m0, w0⟩, turn⟩ := h2
  subst e
  -- what stays true of the iterator's objects through the loop
  have stat : ∀ {H' : Hp}, (∀ b ∈ fp, H' b = none) → ∀ b ∈ fp, FpOk X pins H' b := fun hn b hb => ⟨hn b hb, (f2 b hb).2⟩
  refine codeAny_forLoop_any (fun n s' => ∃ i σ' H', Inv X pins σ' H' s' ∧ tn i s'.heap ∧ (∀ b ∈ fp, H' b = none) ∧ W i n σ' H') ?_ m0 ⟨0, σ, H2, I2, st2, fun b hb => (f2 b hb).1, w0⟩
  rintro n s3 ⟨i, σ3, H3, I3, st3, fr3, w3⟩
  rcases turn i n σ3 H3 w3 with ⟨stop, qn⟩ | ⟨go, N, hN, step⟩
  · refine wpAny_passesOwn hp (thn (T.done X rfl rfl rfl hc i pins s3 σ3 H3 X.xe I3 (stat fr3) st3 stop) fun r s4 zz => ?_)
    obtain ⟨hr, I4⟩ := zz
    subst hr
    exact wpAny_execs_nil ⟨σ3, H3, I4, qn⟩
  · refine wpAny_passesOwn hp (thn (T.item X rfl rfl rfl hc i pins s3 σ3 H3 X.xe I3 (stat fr3) st3 go) fun r s4 zz => ?_)
    obtain ⟨u, hr, h4⟩ := zz
    subst hr
    refine wpAny_passesOwn hp (thn h4 fun _ s5 zz => ?_)
    obtain ⟨x, H5, I5, r5, y5, st5, fr5⟩ := zz
    have I5' := I5.pinned (stat fr5) (T.obj _ _ st5)
    refine wpAny_passesOwn hp (thn (hg _ s5 σ3 H5 x u _ I5' r5 (step x H5 y5)) fun _ s6 zz => ?_)
    obtain ⟨σ6, H6, I6, q6⟩ := zz
    refine wpAny_passesOwn hp (thn (hb _ s6 σ6 H6 _ I6 q6) fun f s7 q7 => ?_)
    have again : ∀ {σ7 : St} {H7 : Hp}, Inv X (pins ++ pinsAt fp s5.heap) σ7 H7 s7 → N σ7 H7 → ∃ m, m < n ∧ ∃ i σ' H', Inv X pins σ' H' s7 ∧ tn i s7.heap ∧ (∀ b ∈ fp, H' b = none) ∧ W i m σ' H' := fun {σ7 H7} I7 n7 => by
      obtain ⟨m', hm, w7⟩ := hN σ7 H7 n7
      refine ⟨m', hm, i + 1, σ7, H7, I7.unpinned, T.keep _ _ _ st5 fun b hb o e => (I7.pin (b, o) (List.mem_append_right _ (List.mem_append_right _ (mem_pinsAt hb e)))).1, fun b hb => ?_, w7⟩
      obtain ⟨o, e, d⟩ := T.obj _ _ st5 b hb
      exact (I7.pin (b, o) (List.mem_append_right _ (List.mem_append_right _ (mem_pinsAt hb e)))).2.1
    cases f with
    | next => obtain ⟨σ7, H7, I7, n7⟩ := q7; exact again I7 n7
    | cont => obtain ⟨σ7, H7, I7, n7⟩ := q7; exact again I7 n7
    | brk => obtain ⟨σ7, H7, I7, q7⟩ := q7; exact ⟨σ7, H7, I7.unpinned, q7⟩
    | ret v => obtain ⟨x7, σ7, H7, I7, r7, q7⟩ := q7; exact ⟨x7, σ7, H7, I7.unpinned, r7, q7⟩
end

/-! ### the forms one uses -/
/-- over a list that the body leaves as it is -/
theorem for_list {K : PySem.W.Frag} {a : Addr} {xs : List V} {g : TG} {tb : TS} {D : Ends} {σ : St} {H : Hp} (Pv : Nat → St → Hp → Prop) (h0 : Pv 0 σ H) (hl : ∀ i σ H, i ≤ xs.length → Pv i σ H → SqL K H a xs)
    (hs : ∀ i x σ H, xs[i]? = some x → Pv i σ H → g x σ H fun σ2 H2 => tb { D with nx := Pv (i + 1), ct := Pv (i + 1), bk := D.nx } σ2 H2) (hd : ∀ σ H, Pv xs.length σ H → D.nx σ H) :
    ∃ W : Nat → Nat → St → Hp → Prop, (∃ m, W 0 m σ H) ∧ ∀ i m σ H, W i m σ H →
      ((Itl K a).stop i H ∧ D.nx σ H) ∨ ((Itl K a).go i H ∧ ∃ N : St → Hp → Prop, (∀ σ' H', N σ' H' → ∃ m', m' < m ∧ W (i + 1) m' σ' H') ∧ ∀ x H', (Itl K a).yld i H x H' → g x σ H' fun σ2 H2 => tb { D with nx := N, ct := N, bk := D.nx } σ2 H2) := by
  refine ⟨fun i m σ H => m = xs.length - i ∧ i ≤ xs.length ∧ Pv i σ H, ⟨xs.length, by simp, Nat.zero_le _, h0⟩, ?_⟩
  rintro i m σ H ⟨rfl, hi, p⟩
  have q := hl i σ H hi p
  by_cases hlt : i < xs.length
  · refine .inr ⟨⟨xs, xs[i], q, by simp [hlt]⟩, Pv (i + 1), fun σ' H' p' => ⟨xs.length - (i + 1), by omega, rfl, hlt, p'⟩, fun x H' y => ?_⟩
    obtain ⟨e, y⟩ := y
    subst e
    exact hs i x σ _ (y xs q) p
  · have e : i = xs.length := by omega
    subst e
    exact .inl ⟨⟨xs, q, Nat.le_refl _⟩, hd σ H p⟩
theorem for_range {lo : Int} {n : Nat} {g : TG} {tb : TS} {D : Ends} {σ : St} {H : Hp} (Pv : Nat → St → Hp → Prop) (h0 : Pv 0 σ H)
    (hs : ∀ i σ H, i < n → Pv i σ H → g (.int (lo + i)) σ H fun σ2 H2 => tb { D with nx := Pv (i + 1), ct := Pv (i + 1), bk := D.nx } σ2 H2) (hd : ∀ σ H, Pv n σ H → D.nx σ H) :
    ∃ W : Nat → Nat → St → Hp → Prop, (∃ m, W 0 m σ H) ∧ ∀ i m σ H, W i m σ H →
      ((Itr lo n).stop i H ∧ D.nx σ H) ∨ ((Itr lo n).go i H ∧ ∃ N : St → Hp → Prop, (∀ σ' H', N σ' H' → ∃ m', m' < m ∧ W (i + 1) m' σ' H') ∧ ∀ x H', (Itr lo n).yld i H x H' → g x σ H' fun σ2 H2 => tb { D with nx := N, ct := N, bk := D.nx } σ2 H2) := by
  refine ⟨fun i m σ H => m = n - i ∧ i ≤ n ∧ Pv i σ H, ⟨n, by simp, Nat.zero_le _, h0⟩, ?_⟩
  rintro i m σ H ⟨rfl, hi, p⟩
  by_cases hlt : i < n
  · refine .inr ⟨hlt, Pv (i + 1), fun σ' H' p' => ⟨n - (i + 1), by omega, rfl, hlt, p'⟩, fun x H' y => ?_⟩
    obtain ⟨e, y⟩ := y
    subst e y
    exact hs i σ _ hlt p
  · have e : i = n := by omega
    subst e
    exact .inl ⟨Nat.le_refl _, hd σ H p⟩
end L2

namespace L2
open PySem PySem.Spec PyProof.Rows

noncomputable abbrev R2 := V → V → Hp → VK → Prop
/-- a two-place operation on values: f is binaryOp op, inplaceOp op or compareOp op -/
noncomputable def OpR (X : Cx) (f : Value → Value → Sem Value) (r : R2) : Prop :=
  ∀ (pins : List (Addr × Obj)) (s : Shared) (σ : St) (H : Hp) (x y : V) (v u : Value) (Q : VK), Inv X pins σ H s → RelV x v → RelV y u → r x y H Q →
    wpAny (model X.prog X.w) X.A (f v u) (EP X pins σ Q) X.xe s
/-- a one-place operation -/
noncomputable def UnR (X : Cx) (f : Value → Sem Value) (r : V → Hp → VK → Prop) : Prop :=
  ∀ (pins : List (Addr × Obj)) (s : Shared) (σ : St) (H : Hp) (x : V) (v : Value) (Q : VK), Inv X pins σ H s → RelV x v → r x H Q →
    wpAny (model X.prog X.w) X.A (f v) (EP X pins σ Q) X.xe s
/-- a call of a value that is known (a builtin, a type) with values -/
noncomputable def CallR (X : Cx) (f : Value) (r : List V → Hp → VK → Prop) : Prop :=
  ∀ (pins : List (Addr × Obj)) (s : Shared) (σ : St) (H : Hp) (xs : List V) (us : List Value) (Q : VK), Inv X pins σ H s → Vals xs us → r xs H Q →
    wpAny (model X.prog X.w) X.A (call f us) (EP X pins σ Q) X.xe s

noncomputable def tOp (r : R2) (ta tb : TE) : TE := fun σ H Q => ta σ H fun x H1 => tb σ H1 fun y H2 => r x y H2 Q
noncomputable def tUn (r : V → Hp → VK → Prop) (ta : TE) : TE := fun σ H Q => ta σ H fun x H1 => r x H1 Q
/-- ints in, under C, and a value out -/
noncomputable def rI (C : Int → Int → Prop) (g : Int → Int → V) : R2 := fun x y H Q => ∃ i j, x = .int i ∧ y = .int j ∧ C i j ∧ Q (g i j) H
noncomputable def rI0 (g : Int → Int → V) : R2 := fun x y H Q => ∃ i j, x = .int i ∧ y = .int j ∧ Q (g i j) H
noncomputable def rU (g : Int → V) : V → Hp → VK → Prop := fun x H Q => ∃ i, x = .int i ∧ Q (g i) H

section
variable {X : Cx} {a b c : Expr} {ta tb tc : TE} {pos : Pos}

theorem binT (ha : PE X a ta) (hb : PE X b tb) {pins : List (Addr × Obj)} {s : Shared} {σ : St} {H : Hp} {R : V → V → Hp → Prop} (I : Inv X pins σ H s)
    (h : ta σ H fun x H1 => tb σ H1 fun y H2 => R x y H2) {Q : Value → Shared → Prop} {f : Value → Value → Sem Value}
    (hf : ∀ v u s2 x y H2, Inv X pins σ H2 s2 → RelV x v → RelV y u → R x y H2 → wpAny (model X.prog X.w) X.A (f v u) Q X.xe s2) :
    wpAny (model X.prog X.w) X.A (eval a X.env) (fun v s₁ => wpAny (model X.prog X.w) X.A (eval b X.env) (fun u s₂ => wpAny (model X.prog X.w) X.A (f v u) Q X.xe s₂) X.xe s₁) X.xe s := by
  refine thn (ha pins s σ H _ I h) fun v s1 zz => ?_
  obtain ⟨x, H1, I1, r1, q1⟩ := zz
  refine thn (hb pins s1 σ H1 _ I1 q1) fun u s2 zz => ?_
  obtain ⟨y, H2, I2, r2, q2⟩ := zz
  exact hf v u s2 x y H2 I2 r1 r2 q2

theorem pe_op {op : Operator} {r : R2} (ho : OpR X (binaryOp op) r) (ha : PE X a ta) (hb : PE X b tb) : PE X (.BinOp a op b pos) (tOp r ta tb) := by
  intro pins s σ H Q I h
  exact wpAny_BinOp (binT ha hb I h fun v u s2 x y H2 I2 rx ry q => ho pins s2 σ H2 x y v u Q I2 rx ry q)
theorem pe_un {op : UnaryOp} {r : V → Hp → VK → Prop} (ho : UnR X (unaryOp op) r) (ha : PE X a ta) : PE X (.UnaryOp op a pos) (tUn r ta) := by
  intro pins s σ H Q I h
  exact UnaryOp_ (thn (ha pins s σ H _ I h) fun v s1 ⟨x, H1, I1, r1, q1⟩ => ho pins s1 σ H1 x v Q I1 r1 q1)

/-! ### ints -/
theorem opI {f : Value → Value → Sem Value} {C : Int → Int → Prop} {g : Int → Int → Int}
    (rule : ∀ (i j : Int) (t u : Tok) (s : Shared) (Q : Value → Shared → Prop) (E : Value → Shared → Prop), C i j → Q (.int (g i j) s.toks) { s with toks := s.toks + 1 } → wpAny (model X.prog X.w) X.A (f (.int i t) (.int j u)) Q E s) :
    OpR X f (rI C fun i j => .int (g i j)) := by
  intro pins s σ H x y v u Q I rx ry h
  obtain ⟨i, j, rfl, rfl, hc, q⟩ := h
  obtain ⟨t, rfl⟩ := rx
  obtain ⟨t', rfl⟩ := ry
  exact rule i j t t' s _ _ hc ⟨.int (g i j), H, I.tok _, ⟨_, rfl⟩, q⟩
theorem opI0 {f : Value → Value → Sem Value} {g : Int → Int → Int}
    (rule : ∀ (i j : Int) (t u : Tok) (s : Shared) (Q : Value → Shared → Prop) (E : Value → Shared → Prop), Q (.int (g i j) s.toks) { s with toks := s.toks + 1 } → wpAny (model X.prog X.w) X.A (f (.int i t) (.int j u)) Q E s) :
    OpR X f (rI0 fun i j => .int (g i j)) := by
  intro pins s σ H x y v u Q I rx ry h
  obtain ⟨i, j, rfl, rfl, q⟩ := h
  obtain ⟨t, rfl⟩ := rx
  obtain ⟨t', rfl⟩ := ry
  exact rule i j t t' s _ _ ⟨.int (g i j), H, I.tok _, ⟨_, rfl⟩, q⟩
theorem opB0 {f : Value → Value → Sem Value} {g : Int → Int → Bool}
    (rule : ∀ (i j : Int) (t u : Tok) (s : Shared) (Q : Value → Shared → Prop) (E : Value → Shared → Prop), Q (.bool (g i j)) s → wpAny (model X.prog X.w) X.A (f (.int i t) (.int j u)) Q E s) :
    OpR X f (rI0 fun i j => .bl (g i j)) := by
  intro pins s σ H x y v u Q I rx ry h
  obtain ⟨i, j, rfl, rfl, q⟩ := h
  obtain ⟨t, rfl⟩ := rx
  obtain ⟨t', rfl⟩ := ry
  exact rule i j t t' s _ _ ⟨.bl (g i j), H, I, rfl, q⟩

noncomputable def CDiv (i j : Int) : Prop := 0 < j ∧ j < 1073741824
noncomputable def CPow (i j : Int) : Prop := 0 ≤ j ∧ j ≤ 1000000 ∧ i.natAbs < 2 ^ 64
theorem two_pow_nn (k : Nat) : (0 : Int) ≤ 2 ^ k := by
  rw [two_pow_cast]
  exact Int.natCast_nonneg _

theorem op_add : OpR X (binaryOp .Add) (rI0 fun i j => .int (i + j)) := opI0 fun _ _ _ _ _ _ _ q => add_int q
theorem op_sub : OpR X (binaryOp .Sub) (rI0 fun i j => .int (i - j)) := opI0 fun _ _ _ _ _ _ _ q => sub_int q
/-- // by a positive divisor -/
theorem op_fdiv : OpR X (binaryOp .FloorDiv) (rI CDiv fun i j => .int (i / j)) := opI fun i j _ _ _ _ _ hc q => by
  have h1 : (0 : Int) < j := hc.1
  have h2 : j < 1073741824 := hc.2
  exact floordiv_int (by omega) (by rw [Int.fdiv_eq_ediv_of_nonneg i (by omega)]; exact q) (.inl (PyProof.noPylong_small (by omega)))
/-- % by a positive divisor of any size -/
theorem op_mod : OpR X (binaryOp .Mod) (rI (fun _ j => 0 < j) fun i j => .int (i % j)) := opI fun i j _ _ _ _ _ hc q => by
  have h1 : (0 : Int) < j := hc
  exact mod_int' (by omega) (by rw [Int.fmod_eq_emod_of_nonneg i (by omega)]; exact q)
theorem op_pow : OpR X (binaryOp .Pow) (rI CPow fun i j => .int (i ^ j.toNat)) := opI fun _ _ _ _ _ _ _ hc q => pow_int_small hc.1 hc.2.1 hc.2.2 q
theorem op_shl : OpR X (binaryOp .LShift) (rI CPow fun i j => .int (i * 2 ^ j.toNat)) := opI fun _ _ _ _ _ _ _ hc q => lshift_int_small hc.1 hc.2.1 hc.2.2 q
theorem op_shr : OpR X (binaryOp .RShift) (rI (fun _ j => 0 ≤ j) fun i j => .int (i / 2 ^ j.toNat)) := opI fun i j _ _ _ _ _ hc q =>
  rshift_int hc (by rw [Int.fdiv_eq_ediv_of_nonneg i (two_pow_nn _)]; exact q)
theorem op_and : OpR X (binaryOp .BitAnd) (rI0 fun i j => .int (Builtin.bitAnd i j)) := opI0 fun _ _ _ _ _ _ _ q => and_int q
theorem op_or : OpR X (binaryOp .BitOr) (rI0 fun i j => .int (Builtin.bitOr i j)) := opI0 fun _ _ _ _ _ _ _ q => or_int q


theorem unI {f : Value → Sem Value} {g : Int → Int}
    (rule : ∀ (i : Int) (t : Tok) (s : Shared) (Q : Value → Shared → Prop) (E : Value → Shared → Prop), Q (.int (g i) s.toks) { s with toks := s.toks + 1 } → wpAny (model X.prog X.w) X.A (f (.int i t)) Q E s) :
    UnR X f (rU fun i => .int (g i)) := by
  intro pins s σ H x v Q I rx h
  obtain ⟨i, rfl, q⟩ := h
  obtain ⟨t, rfl⟩ := rx
  exact rule i t s _ _ ⟨.int (g i), H, I.tok _, ⟨_, rfl⟩, q⟩
theorem un_neg : UnR X (unaryOp .USub) (rU fun i => .int (-i)) := unI fun _ _ _ _ _ q => neg_int q

/-! ### bools among ints: n += (a < b) -/
end

/-! ### comparisons -/
/-- the scalars that == tells apart as data does -/
noncomputable def scal : V → V → Bool
  | .non, .non => true | .non, .int _ => true | .int _, .non => true | .non, .bl _ => true | .bl _, .non => true | .non, .str _ => true | .str _, .non => true
  | .int _, .int _ => true | .bl _, .bl _ => true | .str _, .str _ => true | .byt _, .byt _ => true
  | .int _, .str _ => true | .str _, .int _ => true | .bl _, .str _ => true | .str _, .bl _ => true
  | _, _ => false
noncomputable def rEq : R2 := fun x y H Q => scal x y = true ∧ Q (.bl (decide (x = y))) H
noncomputable def rNe : R2 := fun x y H Q => scal x y = true ∧ Q (.bl (!decide (x = y))) H

theorem dec_int {i j : Int} : decide (V.int i = V.int j) = (i == j) := by
  rw [Bool.eq_iff_iff]
  simp
theorem dec_bl {i j : Bool} : decide (V.bl i = V.bl j) = (i == j) := by
  rw [Bool.eq_iff_iff]
  simp
theorem dec_str {i j : Str} : decide (V.str i = V.str j) = (i == j) := by
  rw [Bool.eq_iff_iff]
  simp
theorem dec_byt {i j : Array UInt8} : decide (V.byt i = V.byt j) = (i.toList == j.toList) := by
  rw [Bool.eq_iff_iff]
  cases i
  cases j
  simp

section
variable {X : Cx} {a b c : Expr} {ta tb tc : TE} {pos : Pos}
theorem fin_bl {pins : List (Addr × Obj)} {σ : St} {H : Hp} {s : Shared} {Q : VK} {k k' : Bool} (I : Inv X pins σ H s) (q : Q (.bl k) H) (e : k = k') : EP X pins σ Q (.bool k') s := by
  subst e
  exact ⟨.bl k, H, I, rfl, q⟩
theorem op_eq : OpR X (compareOp .Eq) rEq := by
  intro pins s σ H x y v u Q I rx ry h
  obtain ⟨hs, q⟩ := h
  cases x with
  | non =>
    cases rx
    cases y with
    | non => cases ry; exact PySem.EqNone.eq_none_none (fin_bl I q (by simp))
    | bl j => cases ry; exact PySem.EqNone.eq_none_bool (fin_bl I q (by simp))
    | int j => obtain ⟨t', rfl⟩ := ry; exact PySem.EqNone.eq_none_int (fin_bl I q (by simp))
    | str j => obtain ⟨t', rfl⟩ := ry; exact PySem.EqNone.eq_none_str (fin_bl I q (by simp))
    | _ => exact absurd (show false = true from hs) Bool.false_ne_true
  | bl i =>
    cases rx
    cases y with
    | non => cases ry; exact PySem.EqNone.eq_bool_none (fin_bl I q (by simp))
    | bl j => cases ry; exact eq_bool (fin_bl I q dec_bl)
    | str j => obtain ⟨t', rfl⟩ := ry; exact PySem.EqMixed.eq_bool_str (fin_bl I q (by simp))
    | _ => exact absurd (show false = true from hs) Bool.false_ne_true
  | int i =>
    obtain ⟨t, rfl⟩ := rx
    cases y with
    | non => cases ry; exact PySem.EqNone.eq_int_none (fin_bl I q (by simp))
    | int j => obtain ⟨t', rfl⟩ := ry; exact eq_int (fin_bl I q dec_int)
    | str j => obtain ⟨t', rfl⟩ := ry; exact PySem.EqMixed.eq_int_str (fin_bl I q (by simp))
    | _ => exact absurd (show false = true from hs) Bool.false_ne_true
  | str i =>
    obtain ⟨t, rfl⟩ := rx
    cases y with
    | non => cases ry; exact PySem.EqNone.eq_str_none (fin_bl I q (by simp))
    | bl j => cases ry; exact PySem.EqMixed.eq_str_bool (fin_bl I q (by simp))
    | int j => obtain ⟨t', rfl⟩ := ry; exact PySem.EqMixed.eq_str_int (fin_bl I q (by simp))
    | str j => obtain ⟨t', rfl⟩ := ry; exact eq_str (fin_bl I q dec_str)
    | _ => exact absurd (show false = true from hs) Bool.false_ne_true
  | byt i =>
    obtain ⟨t, rfl⟩ := rx
    cases y with
    | byt j => obtain ⟨t', rfl⟩ := ry; exact PySem.W.eq_bytes (fin_bl I q dec_byt)
    | _ => exact absurd (show false = true from hs) Bool.false_ne_true
  | _ => cases y <;> exact absurd (show false = true from hs) Bool.false_ne_true
theorem op_ne : OpR X (compareOp .NotEq) rNe := by
  intro pins s σ H x y v u Q I rx ry h
  obtain ⟨hs, q⟩ := h
  cases x with
  | non =>
    cases rx
    cases y with
    | non => cases ry; exact PySem.EqNone.ne_none_none (fin_bl I q (by simp))
    | bl j => cases ry; exact PySem.EqNone.ne_none_bool (fin_bl I q (by simp))
    | int j => obtain ⟨t', rfl⟩ := ry; exact PySem.EqNone.ne_none_int (fin_bl I q (by simp))
    | str j => obtain ⟨t', rfl⟩ := ry; exact PySem.EqNone.ne_none_str (fin_bl I q (by simp))
    | _ => exact absurd (show false = true from hs) Bool.false_ne_true
  | bl i =>
    cases rx
    cases y with
    | non => cases ry; exact PySem.EqNone.ne_bool_none (fin_bl I q (by simp))
    | bl j => cases ry; exact ne_bool (fin_bl I q (congrArg not dec_bl))
    | str j => obtain ⟨t', rfl⟩ := ry; exact PySem.EqMixed.ne_bool_str (fin_bl I q (by simp))
    | _ => exact absurd (show false = true from hs) Bool.false_ne_true
  | int i =>
    obtain ⟨t, rfl⟩ := rx
    cases y with
    | non => cases ry; exact PySem.EqNone.ne_int_none (fin_bl I q (by simp))
    | int j => obtain ⟨t', rfl⟩ := ry; exact ne_int (fin_bl I q (congrArg not dec_int))
    | str j => obtain ⟨t', rfl⟩ := ry; exact PySem.EqMixed.ne_int_str (fin_bl I q (by simp))
    | _ => exact absurd (show false = true from hs) Bool.false_ne_true
  | str i =>
    obtain ⟨t, rfl⟩ := rx
    cases y with
    | non => cases ry; exact PySem.EqNone.ne_str_none (fin_bl I q (by simp))
    | bl j => cases ry; exact PySem.EqMixed.ne_str_bool (fin_bl I q (by simp))
    | int j => obtain ⟨t', rfl⟩ := ry; exact PySem.EqMixed.ne_str_int (fin_bl I q (by simp))
    | str j => obtain ⟨t', rfl⟩ := ry; exact ne_str (fin_bl I q (congrArg not dec_str))
    | _ => exact absurd (show false = true from hs) Bool.false_ne_true
  | byt i =>
    obtain ⟨t, rfl⟩ := rx
    cases y with
    | byt j => obtain ⟨t', rfl⟩ := ry; exact PySem.W.ne_bytes (fin_bl I q (congrArg not dec_byt))
    | _ => exact absurd (show false = true from hs) Bool.false_ne_true
  | _ => cases y <;> exact absurd (show false = true from hs) Bool.false_ne_true

theorem op_lt : OpR X (compareOp .Lt) (rI0 fun i j => .bl (decide (i < j))) := opB0 fun _ _ _ _ _ _ _ q => lt_int q
theorem op_le : OpR X (compareOp .LtE) (rI0 fun i j => .bl (decide (i ≤ j))) := opB0 fun _ _ _ _ _ _ _ q => le_int q
theorem op_gt : OpR X (compareOp .Gt) (rI0 fun i j => .bl (decide (j < i))) := opB0 fun _ _ _ _ _ _ _ q => gt_int q
theorem op_ge : OpR X (compareOp .GtE) (rI0 fun i j => .bl (decide (j ≤ i))) := opB0 fun _ _ _ _ _ _ _ q => ge_int q




theorem nomark (b : Expr) {op : CmpOp} (h : op ≠ .In := by decide) (h2 : op ≠ .NotIn := by decide) : behindInMarks op b = false := by
  have e1 : (op == CmpOp.In) = false := by cases op <;> first | rfl | exact absurd rfl h
  have e2 : (op == CmpOp.NotIn) = false := by cases op <;> first | rfl | exact absurd rfl h2
  cases b <;> simp [behindInMarks, e1, e2]
/-- a comparison as a value; hm: nomark b, or (for in, not in) by with_unfolding_all rfl -/
theorem pe_cmpR {op : CmpOp} {r : R2} (ho : OpR X (compareOp op) r) (ha : PE X a ta) (hb : PE X b tb) (hm : behindInMarks op b = false) : PE X (.Compare a [op] [b] pos) (tOp r ta tb) := by
  intro pins s σ H Q I h
  exact wpAny_Compare1 (binT ha hb I h fun v u s2 x y H2 I2 rx ry q => ho pins s2 σ H2 x y v u Q I2 rx ry q) hm
/-- a reading of a value as a test -/
noncomputable def tTest (t : TE) : TT := fun σ H Q => t σ H fun x H' => ∃ k, x = .bl k ∧ Q k H'
theorem pt_cmpR {op : CmpOp} {r : R2} (ho : OpR X (compareOp op) r) (ha : PE X a ta) (hb : PE X b tb) (hm : behindInMarks op b = false) : PT X (.Compare a [op] [b] pos) (tTest (tOp r ta tb)) := by
  intro pins s σ H Q I h
  refine wpAny_isTrue_Compare1 (thn (ha pins s σ H _ I h) fun v s1 ⟨x, H1, I1, r1, q1⟩ => thn (hb pins s1 σ H1 _ I1 q1) fun u s2 ⟨y, H2, I2, r2, q2⟩ =>
    thn (ho pins s2 σ H2 x y v u _ I2 r1 r2 q2) fun c s3 zz => ?_) hm
  obtain ⟨z, H3, I3, r3, k, e, q3⟩ := zz
  subst e
  cases r3
  exact wpAny_truthy_bool ⟨H3, I3, q3⟩
/-- a op1 b op2 c -/
noncomputable def tChain (r r' : R2) (ta tb tc : TE) : TE := fun σ H Q => ta σ H fun x H1 => tb σ H1 fun y H2 => r x y H2 fun z H3 => ∃ k, z = .bl k ∧
  (if k = true then tc σ H3 fun w' H4 => r' y w' H4 Q else Q (.bl false) H3)
theorem pe_chain {op op' : CmpOp} {r r' : R2} (ho : OpR X (compareOp op) r) (ho' : OpR X (compareOp op') r') (ha : PE X a ta) (hb : PE X b tb) (hc : PE X c tc)
    (hm : lastMarks [op, op'] [b, c] = false := by with_unfolding_all rfl) : PE X (.Compare a [op, op'] [b, c] pos) (tChain r r' ta tb tc) := by
  intro pins s σ H Q I h
  refine Compare_chain (thn (ha pins s σ H _ I h) fun v s1 ⟨x, H1, I1, r1, q1⟩ => chain_link (thn (hb pins s1 σ H1 _ I1 q1) fun u s2 ⟨y, H2, I2, r2, q2⟩ =>
    thn (ho pins s2 σ H2 x y v u _ I2 r1 r2 q2) fun d s3 zz => ?_)) hm
  obtain ⟨z, H3, I3, r3, k, e, q3⟩ := zz
  subst e
  cases r3
  refine wpAny_truthy_bool ?_
  cases k with
  | false => exact ite_ff ⟨.bl false, H3, I3, rfl, q3⟩
  | true => exact ite_tt (chain_last (thn (hc pins s3 σ H3 _ I3 q3) fun w' s4 ⟨z', H4, I4, r4, q4⟩ => ho' pins s4 σ H4 y z' u w' Q I4 r2 r4 q4))

/-! ### truth -/
theorem line63 : (sizeLine : Nat) < 2 ^ 63 := by rw [sizeLine_eq]; decide

/-! ### strs and bytes -/


/-! ### scalar builtins, by CallR -/
theorem vals1 {x : V} {us : List Value} (r : Vals [x] us) : ∃ u, us = [u] ∧ RelV x u := by
  cases r with
  | cons r1 r2 => cases r2; exact ⟨_, rfl, r1⟩
theorem vals2 {x y : V} {us : List Value} (r : Vals [x, y] us) : ∃ u w', us = [u, w'] ∧ RelV x u ∧ RelV y w' := by
  cases r with
  | cons r1 r2 =>
    cases r2 with
    | cons r3 r4 => cases r4; exact ⟨_, _, rfl, r1, r3⟩
theorem call_max2 (hc : X.calm = true) : CallR X (.builtin "max") (fun xs H Q => ∃ i j, xs = [.int i, .int j] ∧ Q (.int (if j > i then j else i)) H) := by
  intro pins s σ H xs us Q I r h
  obtain ⟨i, j, rfl, q⟩ := h
  obtain ⟨u, w', rfl, ⟨t, rfl⟩, ⟨t', rfl⟩⟩ := vals2 r
  refine max_two_ints (I.ok.hd hc) fun h' tk k => ⟨_, H, I.kept k, ?_, q⟩
  by_cases hj : j > i
  · rw [if_pos hj, if_pos hj]; exact ⟨_, rfl⟩
  · rw [if_neg hj, if_neg hj]; exact ⟨_, rfl⟩
theorem call_min2 (hc : X.calm = true) : CallR X (.builtin "min") (fun xs H Q => ∃ i j, xs = [.int i, .int j] ∧ Q (.int (if j < i then j else i)) H) := by
  intro pins s σ H xs us Q I r h
  obtain ⟨i, j, rfl, q⟩ := h
  obtain ⟨u, w', rfl, ⟨t, rfl⟩, ⟨t', rfl⟩⟩ := vals2 r
  refine min_two_ints (I.ok.hd hc) fun h' tk k => ⟨_, H, I.kept k, ?_, q⟩
  by_cases hj : j < i
  · rw [if_pos hj, if_pos hj]; exact ⟨_, rfl⟩
  · rw [if_neg hj, if_neg hj]; exact ⟨_, rfl⟩
theorem call_int1 : CallR X (.type "int") (fun xs H Q => (∃ i, xs = [.int i] ∧ Q (.int i) H) ∨ ∃ k, xs = [.bl k] ∧ Q (.int (if k then 1 else 0)) H) := by
  intro pins s σ H xs us Q I r h
  rcases h with ⟨i, rfl, q⟩ | ⟨k, rfl, q⟩
  · obtain ⟨u, rfl, t, rfl⟩ := vals1 r
    exact call_int_int ⟨.int i, H, I, ⟨_, rfl⟩, q⟩
  · obtain ⟨u, rfl, r1⟩ := vals1 r
    cases r1
    exact call_int_bool ⟨.int (if k then 1 else 0), H, I.tok _, ⟨_, rfl⟩, q⟩
/-- divmod: a new tuple -/
theorem call_divmod : CallR X (.builtin "divmod") (fun xs H Q => ∃ i j, xs = [.int i, .int j] ∧ CDiv i j ∧ ∀ p, H p = none → Q (.ref p) (upd H p (.tup [.int (i / j), .int (i % j)]))) := by
  intro pins s σ H xs us Q I r h
  obtain ⟨i, j, rfl, ⟨h1, h2⟩, q⟩ := h
  obtain ⟨u, w', rfl, ⟨t, rfl⟩, ⟨t', rfl⟩⟩ := vals2 r
  refine divmod_int (by omega) ?_ (.inl (PyProof.noPylong_small (by omega)))
  rw [Int.fdiv_eq_ediv_of_nonneg i (by omega), Int.fmod_eq_emod_of_nonneg i (by omega)]
  have hn : H s.heap.objs.size = none := I.hok.fresh (Nat.le_refl _)
  refine ⟨.ref s.heap.objs.size, _, ?_, rfl, q _ hn⟩
  refine I.laid (fun b o e => Heap.get?_push_of_some _ e) (Nat.le_refl _) ⟨by simp only [List.length_cons, List.length_nil]; rw [sizeLine_eq]; decide, [.int (i / j) s.toks, .int (i % j) (s.toks + 1)], .cons ⟨_, rfl⟩ (.cons ⟨_, rfl⟩ .nil), ?_⟩
  exact ⟨_, Heap.get?_push_size s.heap rfl, rfl, 0, rfl⟩
end
end L2

namespace L2
open PySem PySem.Spec PyProof.Rows

/-! ### an instance, its attributes a map -/
structure ObjM (h : Heap) (x dx C : Addr) (mA : Str → Option Value) : Prop where
  obj : h.get? x = some (PySem.W.instObj C dx)
  ns : h.Ns1 dx mA
  ne : dx ≠ x

theorem lookIn_ns {h : Heap} {dx : Addr} {mA : Str → Option Value} (n : h.Ns1 dx mA) : ∃ od, h.get? dx = some od ∧ ∀ name, PySem.W.lookIn name od = some (mA name) := by
  obtain ⟨o, es, ep, ho, hd, hk, _, hm⟩ := n
  refine ⟨o, ho, fun name => ?_⟩
  have e := hm name
  unfold nsFind findBy at e
  rw [← Array.find?_toList] at e
  unfold PySem.W.lookIn
  rw [hd]
  dsimp only
  split
  · rename_i y q
    rw [q] at e
    exact congrArg some e
  · rename_i q
    rw [q] at e
    have a : es.toList.any (·.refKey) = false := by
      rw [List.any_eq_false]
      intro y hy
      obtain ⟨z, t, hkey⟩ := hk y (Array.mem_toList_iff.mp hy)
      simp [DictEntry.refKey, hkey]
    have a' : ¬ es.toList.any (·.refKey) = true := by rw [a]; exact Bool.false_ne_true
    rw [if_neg a']
    exact congrArg some e

theorem ObjM.look {h : Heap} {x dx C : Addr} {mA : Str → Option Value} (I : ObjM h x dx C mA) : ∃ od, PySem.W.InstAt h x (PySem.W.instObj C dx) C (some od) ∧ ∀ name, PySem.W.lookIn name od = some (mA name) :=
  let ⟨od, ho, hl⟩ := lookIn_ns I.ns
  ⟨od, ⟨I.obj, rfl, rfl, ho⟩, hl⟩

section
variable {prog : Program} {w : World} {A : Around} {E : Value → Shared → Prop} {s : Shared} {K : PySem.W.Frag} {x dx C f : Addr} {mA : Str → Option Value} {name : Str} {v : Value}

theorem get_map {expr : Bool} {Q : Value → Shared → Prop} (X : K.In s.heap) (I : ObjM s.heap x dx C mA) (hg : PySem.W.plainGet K C name = true) (hh : PySem.W.hasDictIn K C = true)
    (ha : PySem.W.findIn K (.ref C) name = some none) (hv : mA name = some v) (hv' : PySem.W.handedIn v = true) (h : Q v { s with toks := s.toks + 1 }) :
    wpAny (model prog w) A (getAttr (.ref x) name expr) Q E s := by
  obtain ⟨od, J, hl⟩ := I.look
  exact PySem.W.get_value X J (PySem.W.plainGet_of hg).1 (PySem.W.findObj_own hh ha rfl (by rw [hl, hv])) hv' h


theorem get_meth {pl : Sem Bool} {Q : Value × List Value → Shared → Prop} (X : K.In s.heap) (I : ObjM s.heap x dx C mA) (hg : PySem.W.plainGet K C name = true)
    (hf : PySem.W.findIn K (.ref C) name = some (some (.ref f))) (ht : PySem.W.isFn K (.ref f) = true) (hv : mA name = none) (h : Q (.ref f, [.ref x]) s) :
    wpAny (model prog w) A (getMethod (.ref x) name pl) Q E s := by
  obtain ⟨od, J, hl⟩ := I.look
  exact PySem.W.method_fn X J (PySem.W.plainGet_of hg).1 (PySem.W.plainGet_of hg).2 hf (beq_iff_eq.mp ht) (by show (PySem.W.lookIn name od).map (·.isSome) = some false; rw [hl, hv]; rfl) h

theorem set_map {ns : List Str} {Q : Unit → Shared → Prop} (X : K.In s.heap) (I : ObjM s.heap x dx C mA)
    (hs : PySem.W.findIn K (.ref C) "__setattr__" = some (some (.builtin "object.__setattr__"))) (hp : PySem.W.plainOver K C = true) (ht : PySem.W.takerIn K C name = some none) (hh : PySem.W.hasDictIn K C = true)
    (hw : PySem.Within mA ns) (hsz : ns.length ≤ sizeLine)
    (h : ∀ h', ObjM h' x dx C (fun y => if y = name then some v else mA y) → Heap.SameBut dx s.heap h' → Q () { s with heap := h', toks := s.toks + 2 }) :
    wpAny (model prog w) A (setAttr (.ref x) name v) Q E s := by
  obtain ⟨od, J, hl⟩ := I.look
  refine PySem.W.set_plain X J hs (PySem.W.osa_open (s := { s with toks := s.toks + 1 }) (r := none) X J hp ht fun b => ?_)
  obtain ⟨cd, hc, hd'⟩ := PySem.W.any_some hh
  have hx : s.heap.get? x = some ⟨.ref C, some dx, .plain, #[]⟩ := I.obj
  refine wpAny_bind (wpAny_pure (wpAny_bind (wpAny_bind (wpAny_loadPart hx (wpAny_bind (PySem.W.Looks.here (s := { s with toks := s.toks + 1 }) (PySem.W.looks_clsIn X hc) ?_))))))
  rw [hd']
  refine wpAny_pure (a := some dx) (wpAny_bind (wpAny_pure (wpAny_bind ?_)))
  refine wpAny_nsSet1 (s := { s with toks := s.toks + 1 }) I.ns fun h' hn2 hs2 => ?_
  obtain ⟨oD, esD, epD, hoD, hdD, hcD⟩ := hn2.count (PySem.Within.cons name v hw)
  refine wpAny_bind (wpAny_lookBehind hoD (by rw [hdD]; exact pastItsLine_dict (Nat.le_trans hcD (by rw [List.length_cons]; omega))) ?_)
  exact wpAny_pure (h _ ⟨(hs2.2 _ (Ne.symm I.ne)).trans I.obj, hn2, I.ne⟩ hs2)

/-- C(..): the dict at the heap's end, the instance behind it; then its __init__ -/
theorem make_map {R : Result → Shared → Prop} {vs : List Value} {kw : List (Str × Value)} (X : K.In s.heap) (hm : PySem.W.makesIn K C = true)
    (hi : PySem.W.findIn K (.ref C) "__init__" = some (some (.ref f))) (hf : PySem.W.typeIn K (.ref f) = some (.type "function"))
    (h : codeAny (model prog w) (A.under (.builtin "type.__call__" ⟨.ref C :: vs, kw⟩)) (.call (.ref f) ⟨.ref (s.heap.objs.size + 1) :: vs, kw⟩) (PySem.W.InitBack (s.heap.objs.size + 1) R)
      { s with heap := (s.heap.push PySem.W.emptyDict).push (PySem.W.instObj C s.heap.objs.size) }) :
    codeAny (model prog w) A (.call (.ref C) ⟨vs, kw⟩) R s := by
  obtain ⟨hh, g, d, t, os⟩ := s
  exact PySem.W.make_core (PySem.W.makes_of X hm) (PySem.W.looks_findIn X hi) (fun self => PySem.W.bind_fn X self hf) (.inl rfl) h
/-- C() where there is no __init__ but object's -/
theorem make_map0 {R : Result → Shared → Prop} (X : K.In s.heap) (hm : PySem.W.makesIn K C = true)
    (hi : PySem.W.findIn K (.ref C) "__init__" = some (some (.builtin "object.__init__")))
    (hb : ∀ self, PySem.W.Looks (model prog w) s.heap (bindSpecial (.builtin "object.__init__") self) (.builtin "object.__init__", [self]))
    (h : codeAny (model prog w) (A.under (.builtin "type.__call__" ⟨[.ref C], []⟩)) (.call (.builtin "object.__init__") ⟨[.ref (s.heap.objs.size + 1)], []⟩) (PySem.W.InitBack (s.heap.objs.size + 1) R)
      { s with heap := (s.heap.push PySem.W.emptyDict).push (PySem.W.instObj C s.heap.objs.size) }) :
    codeAny (model prog w) A (.call (.ref C) ⟨[], []⟩) R s := by
  obtain ⟨hh, g, d, t, os⟩ := s
  exact PySem.W.make_core (PySem.W.makes_of X hm) (PySem.W.looks_findIn X hi) hb (.inr ⟨rfl, rfl⟩) h
end

/-! ### the attributes as a list of pairs -/
noncomputable def putF (f : Str) (v : V) : List (Str × V) → List (Str × V)
  | [] => [(f, v)]
  | (g, x) :: r => if g = f then (g, v) :: r else (g, x) :: putF f v r
theorem lookup_putF (f g : Str) (v : V) : ∀ fs : List (Str × V), (putF f v fs).lookup g = if g = f then some v else fs.lookup g
  | [] => by
    show List.lookup g [(f, v)] = _
    by_cases h : g = f
    · have hb : (g == f) = true := beq_iff_eq.mpr h
      simp only [List.lookup, hb, if_pos h]
    · have hb : (g == f) = false := beq_eq_false_iff_ne.mpr h
      simp only [List.lookup, hb, if_neg h]
  | (k, x) :: r => by
    have ih := lookup_putF f g v r
    rw [show putF f v ((k, x) :: r) = (if k = f then (k, v) :: r else (k, x) :: putF f v r) from rfl]
    by_cases hk : k = f
    · rw [if_pos hk]
      by_cases h : g = k
      · have hb : (g == k) = true := beq_iff_eq.mpr h
        simp only [List.lookup, hb, if_pos (h.trans hk)]
      · have hb : (g == k) = false := beq_eq_false_iff_ne.mpr h
        simp only [List.lookup, hb, if_neg (fun e : g = f => h (e.trans hk.symm))]
    · rw [if_neg hk]
      by_cases h : g = k
      · have hb : (g == k) = true := beq_iff_eq.mpr h
        simp only [List.lookup, hb, if_neg (fun e : g = f => hk (h.symm.trans e))]
      · have hb : (g == k) = false := beq_eq_false_iff_ne.mpr h
        simp only [List.lookup, hb]
        exact ih
theorem keys_putF (f : Str) (v : V) : ∀ fs : List (Str × V), f ∈ (putF f v fs).map (·.1) ∧ ∀ g, g ∈ fs.map (·.1) → g ∈ (putF f v fs).map (·.1)
  | [] => ⟨by simp [putF], fun g h => by simp at h⟩
  | (k, x) :: r => by
    obtain ⟨i1, i2⟩ := keys_putF f v r
    rw [show putF f v ((k, x) :: r) = (if k = f then (k, v) :: r else (k, x) :: putF f v r) from rfl]
    by_cases hk : k = f
    · rw [if_pos hk]
      subst hk
      exact ⟨by simp, fun g h => by simpa using h⟩
    · rw [if_neg hk]
      refine ⟨?_, fun g h => ?_⟩
      · rw [List.map_cons]
        exact List.mem_cons_of_mem _ i1
      · rw [List.map_cons] at h ⊢
        rcases List.mem_cons.mp h with e | e
        · exact List.mem_cons.mpr (.inl e)
        · exact List.mem_cons_of_mem _ (i2 g e)
theorem length_putF (f : Str) (v : V) : ∀ fs : List (Str × V), (putF f v fs).length ≤ fs.length + 1
  | [] => by simp [putF]
  | (k, x) :: r => by
    have ih := length_putF f v r
    rw [show putF f v ((k, x) :: r) = (if k = f then (k, v) :: r else (k, x) :: putF f v r) from rfl]
    by_cases hk : k = f
    · rw [if_pos hk, List.length_cons, List.length_cons]; omega
    · rw [if_neg hk, List.length_cons, List.length_cons]; omega

theorem RelO.some_of {v : V} {o : Option Value} (r : RelO (some v) o) : ∃ u, o = some u ∧ RelV v u := by
  cases o with
  | none => exact (show False from r).elim
  | some u => exact ⟨u, rfl, r⟩
theorem RelO.none_of {o : Option Value} (r : RelO none o) : o = none := by
  cases o with
  | none => rfl
  | some u => exact (show False from r).elim
theorem handed_of {v : V} {u : Value} (r : RelV v u) : PySem.W.handedIn u = true := by
  cases v with
  | non => cases (show u = Value.none from r); rfl
  | bl b => cases (show u = Value.bool b from r); rfl
  | int i => obtain ⟨t, e⟩ := (show ∃ t, u = Value.int i t from r); cases e; rfl
  | str x => obtain ⟨t, e⟩ := (show ∃ t, u = Value.str x t from r); cases e; rfl
  | byt b => obtain ⟨t, e⟩ := (show ∃ t, u = Value.bytes b t from r); cases e; rfl
  | flt b => obtain ⟨t, e⟩ := (show ∃ t, u = Value.float b t from r); cases e; rfl
  | ref a => cases (show u = Value.ref a from r); rfl
  | ty n => cases (show u = Value.type n from r); rfl

section
variable {P : Program} {w : World} {H H' : Hp} {h h' : Heap} {a C dx : Addr} {fs fs' : List (Str × V)}
theorem ins_get (hok : HOk P w H h) (e : H a = some (.ins C dx fs)) : ∃ mA, ObjM h a dx C mA ∧ (∀ f, RelO (fs.lookup f) (mA f)) ∧ PySem.Within mA (fs.map (·.1)) ∧ fs.length ≤ 1000 ∧ H dx = some (.own a) := by
  obtain ⟨d, z, ne, ob, mA, n, r, q⟩ := (show ObjOk P w H h a (.ins C dx fs) from hok a _ e)
  exact ⟨mA, ⟨ob, n, ne⟩, r, q, z, d⟩
end

/-! ### what of the text a class must have -/
structure Cls (K : PySem.W.Frag) (C : Addr) : Prop where
  pg : PySem.W.plainGet K C Str.empty = true
  hd : PySem.W.hasDictIn K C = true
  po : PySem.W.plainOver K C = true
  sa : PySem.W.findIn K (.ref C) "__setattr__" = some (some (.builtin "object.__setattr__"))
theorem Cls.get {K : PySem.W.Frag} {C : Addr} (c : Cls K C) (f : Str) : PySem.W.plainGet K C f = true := c.pg
/-- no class of it has the name -/
noncomputable def NoAttr (K : PySem.W.Frag) (C : Addr) (f : Str) : Prop := PySem.W.findIn K (.ref C) f = some none
theorem NoAttr.taker {K : PySem.W.Frag} {C : Addr} {f : Str} (n : NoAttr K C f) : PySem.W.takerIn K C f = some none := by
  unfold PySem.W.takerIn
  rw [show PySem.W.findIn K (.ref C) f = some none from n]
  rfl
/-- a method: a plain def of the class or of one above it -/
structure Meth (K : PySem.W.Frag) (C : Addr) (m : Str) (f : Addr) : Prop where
  at_ : PySem.W.findIn K (.ref C) m = some (some (.ref f))
  fn : PySem.W.isFn K (.ref f) = true
  kp : PySem.W.keepIn K (.ref f) = true

section
variable {X : Cx} {pins : List (Addr × Obj)} {σ : St} {H : Hp} {s : Shared} {a C dx : Addr} {fs : List (Str × V)} {f : Str} {v : V} {A : Around} {E : Value → Shared → Prop}

theorem getattr_ok {b : Bool} {Q : Value → Shared → Prop} (I : Inv X pins σ H s) (e : H a = some (.ins C dx fs)) (c : Cls X.K C) (n : NoAttr X.K C f) (l : fs.lookup f = some v)
    (h : ∀ u s', Inv X pins σ H s' → RelV v u → Q u s') : wpAny (model X.prog X.w) A (getAttr (.ref a) f b) Q E s := by
  obtain ⟨mA, O, r, _, _, _⟩ := ins_get I.hok e
  obtain ⟨u, hu, ru⟩ := RelO.some_of (v := v) (o := mA f) (by rw [← l]; exact r f)
  exact get_map I.kIn O (c.get f) c.hd n hu (handed_of ru) (h u _ (I.tok _) ru)


theorem getmeth_ok {m : Str} {g : Addr} {pl : Sem Bool} {Q : Value × List Value → Shared → Prop} (I : Inv X pins σ H s) (e : H a = some (.ins C dx fs)) (c : Cls X.K C) (k : Meth X.K C m g) (l : fs.lookup m = none)
    (h : Q (.ref g, [.ref a]) s) : wpAny (model X.prog X.w) A (getMethod (.ref a) m pl) Q E s := by
  obtain ⟨mA, O, r, _, _, _⟩ := ins_get I.hok e
  have hn : mA m = none := RelO.none_of (by rw [← l]; exact r m)
  exact get_meth I.kIn O (c.get m) k.at_ k.fn hn h

theorem setattr_ok {y : V} {u : Value} {Q : Unit → Shared → Prop} (I : Inv X pins σ H s) (e : H a = some (.ins C dx fs)) (c : Cls X.K C) (n : NoAttr X.K C f) (hl : fs.length < 1000) (ry : RelV y u)
    (h : ∀ s', Inv X pins σ (upd H a (.ins C dx (putF f y fs))) s' → Q () s') : wpAny (model X.prog X.w) A (setAttr (.ref a) f u) Q E s := by
  obtain ⟨mA, O, r, wi, _, ho⟩ := ins_get I.hok e
  have hz : (fs.map (·.1)).length ≤ sizeLine := by rw [List.length_map, sizeLine_eq]; omega
  refine set_map I.kIn O c.sa c.po n.taker c.hd wi hz fun h' O' sb => h _ ?_
  have hd : ∃ o, h'.get? dx = some o := let ⟨o, _, _, e', _⟩ := O'.ns; ⟨o, e'⟩
  refine I.write (x := a) (e := dx) (by rw [e]; exact True.intro) (.inr ho) (fun b q hb z => (sb.2 b hb).trans z) hd ?_
  refine ⟨by rw [upd_ne O.ne]; exact ho, ?_, O.ne, O'.obj, _, O'.ns, fun g => ?_, fun g hg => ?_⟩
  · have := length_putF f y fs; omega
  · show RelO ((putF f y fs).lookup g) (if g = f then some u else mA g)
    rw [lookup_putF]
    by_cases q : g = f
    · rw [if_pos q, if_pos q]; exact ry
    · rw [if_neg q, if_neg q]; exact r g
  · by_cases q : g = f
    · rw [q]; exact (keys_putF f y fs).1
    · refine (keys_putF f y fs).2 g (wi g fun z => hg ?_)
      show (if g = f then some u else mA g) = none
      rw [if_neg q]; exact z

/-- a new instance, tracked, without attributes -/
theorem Inv.made (I : Inv X pins σ H s) : Inv X pins σ (upd (upd H s.heap.objs.size (.own (s.heap.objs.size + 1))) (s.heap.objs.size + 1) (.ins C s.heap.objs.size []))
    { s with heap := (s.heap.push PySem.W.emptyDict).push (PySem.W.instObj C s.heap.objs.size) } := by
  have e1 : (s.heap.push PySem.W.emptyDict).get? s.heap.objs.size = some PySem.W.emptyDict := Heap.get?_push_size s.heap rfl
  have e2 : ((s.heap.push PySem.W.emptyDict).push (PySem.W.instObj C s.heap.objs.size)).get? (s.heap.objs.size + 1) = some (PySem.W.instObj C s.heap.objs.size) := by
    have := Heap.get?_push_size (s.heap.push PySem.W.emptyDict) (o := PySem.W.instObj C s.heap.objs.size) rfl
    rwa [Heap.size_push] at this
  have e3 : (s.heap.push PySem.W.emptyDict).Ns s.heap.objs.size (fun _ => none) := ⟨PySem.W.emptyDict, #[], _, e1, rfl, (fun e he => absurd he (by simp)), fun _ => rfl⟩
  have I1 := I.laid (a := s.heap.objs.size) (o := .own (s.heap.objs.size + 1)) (h' := s.heap.push PySem.W.emptyDict) (t' := s.toks) (fun b u q => Heap.get?_push_of_some _ q) (Nat.le_refl _) ⟨_, e1⟩
  refine I1.laid (a := s.heap.objs.size + 1) (o := .ins C s.heap.objs.size []) (t' := s.toks) (fun b u q => Heap.get?_push_of_some _ q) (Nat.le_of_eq (Heap.size_push _ _)) ?_
  have ne : s.heap.objs.size ≠ s.heap.objs.size + 1 := Nat.ne_of_lt (Nat.lt_succ_self _)
  refine ⟨by rw [upd_ne ne, upd_same], Nat.zero_le _, ne, e2, fun _ => none, (Heap.Ns1.of_empty e3).at fun o q => Heap.get?_push_of_some _ q, fun _ => True.intro, fun y hy => absurd rfl hy⟩

/-- e.f where nothing but the object is asked: through attributeBase (super) and the last hold -/
theorem attr_of {prog : Program} {w : World} {env : Env} {e : Expr} {f : Str} {pos : Pos} {s : Shared} {Q : Value → Shared → Prop} (hb : attributeBase e f env (eval e env) = eval e env)
    (h : wpAny (model prog w) A (eval e env) (fun o s₁ => wpAny (model prog w) A (getAttr o f true) Q E s₁) E s) : wpAny (model prog w) A (eval (.Attribute e f pos) env) Q E s :=
  Attribute_any_ h (by rw [arm_eval_Attribute, hb])
end

/-! ### readings and rules -/
/-- e.f, an attribute of the instance -/
noncomputable def tFld (K : PySem.W.Frag) (ta : TE) (f : Str) : TE := fun σ H Q => ta σ H fun x H1 => ∃ a C dx fs v, x = .ref a ∧ H1 a = some (.ins C dx fs) ∧ Cls K C ∧ NoAttr K C f ∧ fs.lookup f = some v ∧ Q v H1
/-- e.f = value -/
noncomputable def sFld (K : PySem.W.Frag) (ta tv : TE) (f : Str) : TS := fun D σ H => tv σ H fun y H1 => ta σ H1 fun x H2 => ∃ a C dx fs, x = .ref a ∧ H2 a = some (.ins C dx fs) ∧ Cls K C ∧ NoAttr K C f ∧ fs.length < 1000 ∧
  D.nx σ (upd H2 a (.ins C dx (putF f y fs)))

section
variable {X : Cx} {o e value : Expr} {f : Str} {pos pos' tpos : Pos} {ta tv : TE}
theorem pe_fld (he : PE X e ta) (hb : attributeBase e f X.env (eval e X.env) = eval e X.env) : PE X (.Attribute e f pos) (tFld X.K ta f) := by
  intro pins s σ H Q I h
  refine attr_of hb (thn (he pins s σ H _ I h) fun u s1 zz => ?_)
  obtain ⟨x, H1, I1, rx, a, C, dx, fs, v, ex, ea, c, n, l, q⟩ := zz
  subst ex
  obtain rfl : u = Value.ref a := rx
  exact getattr_ok I1 ea c n l fun u' s2 I2 ru => ⟨v, H1, I2, ru, q⟩
theorem ps_fld (ha : PE X o ta) (hv : PE X value tv) (hs : swapsWith value (some (.Attribute o f pos')) pos.line X.env = pure false) : PS X (.Assign [.Attribute o f pos'] value pos) (sFld X.K ta tv f) := by
  intro pins s σ H D I h
  refine plainObj_wpAny_Assign_Attribute (thn (hv pins s σ H _ I h) fun u s1 ⟨y, H1, I1, ry, q⟩ => thn (ha pins s1 σ H1 _ I1 q) fun ov s2 zz => ?_) hs
  obtain ⟨x, H2, I2, rx, a, C, dx, fs, ex, ea, c, n, l, q2⟩ := zz
  subst ex
  obtain rfl : ov = Value.ref a := rx
  exact setattr_ok I2 ea c n l ry fun s3 I3 => ⟨σ, _, I3, q2⟩

end

/-! ### isinstance -/
section
variable {X : Cx} {pins : List (Addr × Obj)} {σ : St} {H : Hp} {s : Shared} {A : Around} {E : Value → Shared → Prop} {Q : Value → Shared → Prop} {c : Value} {b : Bool}
/-- the type of a value, as the fragment's deciders take it; for an instance its class -/
inductive TyOf (K : PySem.W.Frag) (H : Hp) : V → Value → Prop where
  | non : TyOf K H .non (.type "NoneType")
  | bl (x : Bool) : TyOf K H (.bl x) (.type "bool")
  | int (i : Int) : TyOf K H (.int i) (.type "int")
  | str (x : Str) : TyOf K H (.str x) (.type "str")
  | flt (x : UInt64) : TyOf K H (.flt x) (.type "float")
  | lst {a : Addr} {xs : List V} (e : H a = some (.lst xs)) : TyOf K H (.ref a) (.type "list")
  | frz {a : Addr} {o : Obj} {xs : List V} (e : H a = some (.frz o (.lst xs))) : TyOf K H (.ref a) (.type "list")
  | tup {a : Addr} {xs : List V} (e : H a = some (.tup xs)) : TyOf K H (.ref a) (.type "tuple")
  | dK {a : Addr} {kvs : List (Key × V)} (e : H a = some (.dK kvs)) : TyOf K H (.ref a) (.type "dict")
  | dT {a : Addr} {kvs : List (List Key × V)} (e : H a = some (.dT kvs)) : TyOf K H (.ref a) (.type "dict")
  | ins {a C dx : Addr} {fs : List (Str × V)} (e : H a = some (.ins C dx fs)) (cl : Cls K C) (ha : PySem.W.findIn K (.ref C) "__class__" = some (some (.builtin "object.__class__")))
      (hn : PySem.W.specialIn K (.builtin "object.__class__") "__get__" = some (some (.builtin "getset_descriptor.__get__"))) (htk : PySem.W.takesIn K (.builtin "object.__class__") = some true)
      (hm : PySem.W.mroIn K C (.type "object") = some true) : TyOf K H (.ref a) (.ref C)
/-- isinstance(x, c) for one class c, a built-in or an own one: kitOne's answer -/
theorem isinst_ok {x : V} {u t : Value} (I : Inv X pins σ H s) (rx : RelV x u) (ty : TyOf X.K H x t) (e : PySem.W.kitOne X.K t c = some b) (h : ∀ tk, Q (.bool b) { s with toks := tk }) :
    wpAny (model X.prog X.w) A (call (.builtin "isinstance") [u, c]) Q E s := by
  cases ty with
  | non => cases (show u = Value.none from rx); exact PySem.W.kia_one PySem.W.kitx_none I.kIn True.intro e (fun z => nomatch z) h
  | bl y => cases (show u = Value.bool y from rx); exact PySem.W.kia_one PySem.W.kitx_bool I.kIn True.intro e (fun z => nomatch z) h
  | int i => obtain ⟨t, q⟩ := (show ∃ t, u = Value.int i t from rx); cases q; exact PySem.W.kia_one PySem.W.kitx_int I.kIn True.intro e (fun z => nomatch z) h
  | str y => obtain ⟨t, q⟩ := (show ∃ t, u = Value.str y t from rx); cases q; exact PySem.W.kia_one PySem.W.kitx_str I.kIn True.intro e (fun z => nomatch z) h
  | flt y => obtain ⟨t, q⟩ := (show ∃ t, u = Value.float y t from rx); cases q; exact PySem.W.kia_one PySem.W.kitx_float I.kIn True.intro e (fun z => nomatch z) h
  | @lst a xs ea =>
    cases (show u = Value.ref a from rx)
    obtain ⟨_, _, n, _, h1⟩ := (show ObjOk X.prog X.w H s.heap a (.lst xs) from I.hok a _ ea)
    exact PySem.W.kia_one PySem.W.kitx_list I.kIn ⟨_, h1, rfl⟩ e (fun z => nomatch z) h
  | @frz a ob xs ea =>
    cases (show u = Value.ref a from rx)
    obtain ⟨_, _, _, n, _, h1⟩ := (show ObjOk X.prog X.w H s.heap a (.frz ob (.lst xs)) from I.hok a _ ea)
    exact PySem.W.kia_one PySem.W.kitx_list I.kIn ⟨_, h1, rfl⟩ e (fun z => nomatch z) h
  | @tup a xs ea =>
    cases (show u = Value.ref a from rx)
    obtain ⟨_, _, _, p⟩ := (show ObjOk X.prog X.w H s.heap a (.tup xs) from I.hok a _ ea)
    obtain ⟨o, h1, h2, _⟩ := p
    exact PySem.W.kia_one PySem.W.kitx_tuple I.kIn ⟨o, h1, h2⟩ e (fun z => nomatch z) h
  | @dK a kvs ea =>
    cases (show u = Value.ref a from rx)
    obtain ⟨_, _, vs, _, p⟩ := (show ObjOk X.prog X.w H s.heap a (.dK kvs) from I.hok a _ ea)
    obtain ⟨o, es, ep, h1, h2, _⟩ := p
    exact PySem.W.kia_one PySem.W.kitx_dict I.kIn ⟨o, h1, h2.1⟩ e (fun z => nomatch z) h
  | @dT a kvs ea =>
    cases (show u = Value.ref a from rx)
    obtain ⟨_, _, xs, _, o, es, ep, h1, h2, _⟩ := (show ObjOk X.prog X.w H s.heap a (.dT kvs) from I.hok a _ ea)
    exact PySem.W.kia_one PySem.W.kitx_dict I.kIn ⟨o, h1, h2.1⟩ e (fun z => nomatch z) h
  | @ins a C dx fs ea cl ha hn htk hm =>
    cases (show u = Value.ref a from rx)
    obtain ⟨mA, O, _⟩ := ins_get I.hok ea
    obtain ⟨od, J, _⟩ := O.look
    exact PySem.W.kia_one (PySem.W.kitx_own (cl.get _) cl.hd ha hn htk hm) I.kIn J e (fun z => nomatch z) h
end
end L2

namespace L2
open PySem PySem.Spec PyProof.Rows

/-! ### room -/
structure Room (k : Nat) (A : Around) : Prop where
  hd : A.handled = none
  dp : A.depth + 3 * k + 5 < recursionLimit
  un : A.units + 16 * k + 200 < cLine
theorem Room.mono {j k : Nat} {A : Around} (r : Room k A) (h : j ≤ k) : Room j A := ⟨r.hd, by have := r.dp; omega, by have := r.un; omega⟩
theorem Room.deeper {k : Nat} {A : Around} (r : Room (k + 1) A) (env : Env) : Room k (A.deeper env) :=
  ⟨r.hd, by have := r.dp; show A.depth + 1 + 3 * k + 5 < _; omega, by have := r.un; show A.units + 3 + 16 * k + 200 < _; omega⟩
theorem make_depth {A : Around} {C : Addr} {us : List Value} {kw : List (Str × Value)} : (A.under (.builtin "type.__call__" ⟨.ref C :: us, kw⟩)).depth = A.depth + 1 := by
  first | rfl | simp [Around.under, Code.weight, Code.isCreation, Code.isGuard, Code.isCaller, Code.frames, Code.isFrame, guardIds]
theorem make_units {A : Around} {C : Addr} {us : List Value} {kw : List (Str × Value)} : (A.under (.builtin "type.__call__" ⟨.ref C :: us, kw⟩)).units = A.units + 1 := by
  first | rfl | simp [Around.under, Code.cUnits, Code.frames, Code.isFrame]
theorem Room.make {k : Nat} {A : Around} (r : Room (k + 1) A) (C : Addr) (us : List Value) (kw : List (Str × Value)) : Room k (A.under (.builtin "type.__call__" ⟨.ref C :: us, kw⟩)) :=
  ⟨r.hd, by have := r.dp; rw [make_depth]; omega, by have := r.un; rw [make_units]; omega⟩
theorem Room.depth {k : Nat} {A : Around} (r : Room k A) : A.depth < recursionLimit := by have := r.dp; omega
theorem Room.units0 {k : Nat} {A : Around} (r : Room k A) : A.units < cLine := by have := r.un; omega

/-! ### argument lists and displays -/
noncomputable def tNil : TA := fun _ H Q => Q [] H
noncomputable def tCons (ta : TE) (tr : TA) : TA := fun σ H Q => ta σ H fun x H1 => tr σ H1 fun xs H2 => Q (x :: xs) H2
section
variable {X : Cx} {e : Expr} {es : List Expr} {te : TE} {t : TA} {pos : Pos}
theorem pa_nil : PA X [] tNil := fun _ _ _ _ H Q I h => Calls.spliced_nil ⟨[], H, I, .nil, h⟩
theorem pa_cons (ha : PE X e te) (hr : PA X es t) (hs : starEach (e :: es) X.env = (false, eval e X.env) :: starEach es X.env := by rfl) : PA X (e :: es) (tCons te t) := by
  intro pos pins s σ H Q I h
  rw [hs]
  show wpAny _ _ (spliced ((false, eval e X.env) :: backTo pos (starEach es X.env))) _ _ s
  refine Calls.spliced_cons (thn (ha pins s σ H _ I h) fun u s1 zz => ?_)
  obtain ⟨x, H1, I1, r1, q1⟩ := zz
  exact thn (hr pos pins s1 σ H1 _ I1 q1) fun us s2 ⟨xs, H2, I2, r2, q2⟩ => ⟨x :: xs, H2, I2, .cons r1 r2, q2⟩

/-- a tuple, a list of written items -/
noncomputable def tTup (t : TA) : TE := fun σ H Q => t σ H fun xs H1 => xs.length ≤ sizeLine ∧ ∀ p, H1 p = none → Q (.ref p) (upd H1 p (.tup xs))
noncomputable def tLst (t : TA) : TE := fun σ H Q => t σ H fun xs H1 => xs.length ≤ sizeLine ∧ ∀ p, H1 p = none → Q (.ref p) (upd H1 p (.lst xs))
theorem pe_tup {x1} (h : PA X es t) : PE X (.Tuple es x1 pos) (tTup t) := by
  intro pins s σ H Q I hq
  refine wpAny_Tuple_spliced (thn (h pos pins s σ H _ I hq) fun us s1 ⟨xs, H1, I1, r, z, q⟩ => ⟨by rw [← r.length]; exact z, ?_⟩)
  have hf : H1 s1.heap.objs.size = none := I1.hok.fresh (Nat.le_refl _)
  refine ⟨.ref s1.heap.objs.size, upd H1 s1.heap.objs.size (.tup xs), I1.laid (t' := s1.toks) (fun b u e => Heap.get?_push_of_some _ e) (Nat.le_refl _) ?_, rfl, q _ hf⟩
  exact ⟨z, us, r, ⟨_, Heap.get?_push_size _ rfl, rfl, _, rfl⟩⟩
theorem pe_lst (h : PA X es t) : PE X (.List es pos) (tLst t) := by
  intro pins s σ H Q I hq
  refine wpAny_List_spliced (thn (h pos pins s σ H _ I hq) fun us s1 ⟨xs, H1, I1, r, z, q⟩ => ⟨by rw [← r.length]; exact z, ?_⟩)
  have hf : H1 s1.heap.objs.size = none := I1.hok.fresh (Nat.le_refl _)
  refine ⟨.ref s1.heap.objs.size, upd H1 s1.heap.objs.size (.lst xs), I1.laid (t' := s1.toks) (fun b u e => Heap.get?_push_of_some _ e) (Nat.le_refl _) ?_, rfl, q _ hf⟩
  exact ⟨z, us, 0, r, Heap.get?_push_size _ rfl⟩
end

/-! ### what a def promises -/
/-- a def's promise: the bound arguments in the parameters' order, the heap, the wanted end, the wanted exception -/
noncomputable abbrev Sp := List V → Hp → VK → XK → Prop
/-- how an exception lies behind a call (file 08 gives it): the callers' frames, abstract heap and state ahead of the call, the wish, the exception, the state -/
noncomputable abbrev CXT := List Env → Hp → Shared → XK → Value → Shared → Prop

/-- the state at a call -/
structure Env0 (P : Program) (w : World) (K : PySem.W.Frag) (mg : Str → Option Value) (base : Heap) (A : Around) (outer : List Env) (s : Shared) (H : Hp) : Prop where
  frames : A.frames = some outer
  mod : Mod K mg base
  bs : ∀ b o, base.get? b = some o → s.heap.get? b = some o ∧ H b = none
  bsz : base.objs.size ≤ s.heap.objs.size
  funs : s.heap.FunFrames base outer
  frf : ∀ b ∈ frs outer, H b = none
  hok : HOk P w H s.heap
  bare : AllBare s.gens
/-- a call's end -/
noncomputable def CE (outer : List Env) (P : Program) (w : World) (H : Hp) (s : Shared) (Q : VK) (u : Value) (s' : Shared) : Prop :=
  ∃ v H', s'.os = s.os ∧ AllBare s'.gens ∧ Un (frs outer) [] H H' s.heap s'.heap ∧ HOk P w H' s'.heap ∧ RelV v u ∧ Q v H'
noncomputable def CR (CX : CXT) (outer : List Env) (P : Program) (w : World) (H : Hp) (s : Shared) (Q : VK) (E : XK) (r : Result) (s' : Shared) : Prop :=
  match r with
  | .ok (.ret u) => CE outer P w H s Q u s'
  | .ok _ => False
  | .error e => CX outer H s E e s'
structure FnOk (P : Program) (w : World) (K : PySem.W.Frag) (mg : Str → Option Value) (base : Heap) (CX : CXT) (k : Nat) (f : Addr) (fd : FuncData) (ps : List Str) (sp : Sp) : Prop where
  len : ∀ vs H Q E, sp vs H Q E → vs.length = ps.length
  run : ∀ (A : Around) (outer : List Env) (s : Shared) (H : Hp) (args : Args) (us : List Value) (vs : List V) (Q : VK) (E : XK), Room k A → Env0 P w K mg base A outer s H → BindsTo s fd args (ps.zip us) → Vals vs us → sp vs H Q E →
    codeAny (model P w) A (.call (.ref f) args) (CR CX outer P w H s Q E) s
theorem FnOk.mono {P : Program} {w : World} {K : PySem.W.Frag} {mg : Str → Option Value} {base : Heap} {CX : CXT} {j k : Nat} {f : Addr} {fd : FuncData} {ps : List Str} {sp : Sp} (F : FnOk P w K mg base CX j f fd ps sp) (h : j ≤ k) :
    FnOk P w K mg base CX k f fd ps sp := ⟨F.len, fun A outer s H args us vs Q E hr => F.run A outer s H args us vs Q E (hr.mono h)⟩

theorem Env0.make {P : Program} {w : World} {K : PySem.W.Frag} {mg : Str → Option Value} {base : Heap} {A : Around} {outer : List Env} {s : Shared} {H : Hp} (e : Env0 P w K mg base A outer s H) (C : Addr) (us : List Value) (kw : List (Str × Value)) :
    Env0 P w K mg base (A.under (.builtin "type.__call__" ⟨.ref C :: us, kw⟩)) outer s H := ⟨by first | exact e.frames | (simpa [Around.under, Code.envs, Code.isFrame, pushEnvs] using e.frames), e.mod, e.bs, e.bsz, e.funs, e.frf, e.hok, e.bare⟩

section
variable {X : Cx} {pins : List (Addr × Obj)} {σ : St} {H : Hp} {s s' : Shared}
/-- from a body: what a callee wants -/
theorem Inv.env0 (I : Inv X pins σ H s) : Env0 X.prog X.w X.K X.mg X.base X.A X.stack s H :=
  ⟨I.ok.frames, I.ok.mod, I.bs, Nat.le_trans I.ok.bsz I.sz, I.stack, I.stkFree, I.hok, I.bare⟩
/-- behind a call -/
theorem Inv.after {Q : VK} {u : Value} (I : Inv X pins σ H s) (h : CE X.stack X.prog X.w H s Q u s') : EP X pins σ Q u s' := by
  obtain ⟨v, H', os, bare, un, hok, r, q⟩ := h
  obtain ⟨hh, g, d, t, os'⟩ := s'
  obtain rfl : os' = s.os := os
  exact ⟨v, H', I.call (h' := hh) (g' := g) (d' := d) (t' := t) (ch := []) un hok bare (fun b z => absurd z (by simp)), r, q⟩
end

/-! ### calls -/
/-- f(..): the written arguments, then the defaults dvs; E: what is wanted of an exception -/
noncomputable def tCall (sp : Sp) (dvs : List V) (E : XK) (t : TA) : TE := fun σ H Q => t σ H fun vs H1 => sp (vs ++ dvs) H1 Q E
/-- C(..): a new instance and its dict, then __init__ -/
noncomputable def tMake (C : Addr) (sp : Sp) (dvs : List V) (E : XK) (t : TA) : TE := fun σ H Q => t σ H fun vs H1 => ∀ x dx, H1 x = none → H1 dx = none → dx ≠ x →
  sp (.ref x :: (vs ++ dvs)) (upd (upd H1 dx (.own x)) x (.ins C dx [])) (fun v H2 => v = .non ∧ Q (.ref x) H2) E

/-- how the parameters are bound: us the positional arguments, kw the keywords' values by name, ds the defaults that fill up -/
noncomputable def Binds (K : PySem.W.Frag) (fd : FuncData) (ps : List Str) (ds : List Value) : Prop :=
  ∀ (s : Shared) (us : List Value), K.In s.heap → (us ++ ds).length = ps.length → BindsTo s fd ⟨us, []⟩ (ps.zip (us ++ ds))
/-- every parameter is given -/
theorem Binds.all {K : PySem.W.Frag} {fd : FuncData} {ps : List Str} (h : ∀ us : List Value, us.length = ps.length → bindArgs fd ⟨us, []⟩ = pure (ps.zip us)) : Binds K fd ps [] := fun s us _ hl => by
  rw [List.append_nil] at hl ⊢
  exact .of_eq (h us hl)

/-- an exception of a callee reaches what this body wants of exceptions -/
noncomputable def Passes (CX : CXT) (X : Cx) (E : XK) : Prop := ∀ (pins : List (Addr × Obj)) (σ : St) (H : Hp) (s : Shared) (e : Value) (s' : Shared), Inv X pins σ H s → CX X.stack H s E e s' → X.xe e s'

section
variable {X : Cx} {CX : CXT} {k : Nat} {f C : Addr} {fd : FuncData} {ps : List Str} {sp : Sp} {dvs : List V} {ds : List Value} {E : XK} {x m : Str} {p pos apos : Pos} {e o : Expr} {es : List Expr} {ta : TE} {t : TA}

/-- the callee runs -/
theorem run_fn {pins : List (Addr × Obj)} {σ : St} {H : Hp} {s : Shared} {Q : VK} {us : List Value} {vs : List V} (F : FnOk X.prog X.w X.K X.mg X.base CX k f fd ps sp) (hr : Room k X.A) (hb : Binds X.K fd ps ds) (hd : Vals dvs ds) (hx : Passes CX X E)
    (I : Inv X pins σ H s) (r : Vals vs us) (h : sp (vs ++ dvs) H Q E) : wpAny (model X.prog X.w) X.A (call (.ref f) us) (EP X pins σ Q) X.xe s := by
  have r2 : Vals (vs ++ dvs) (us ++ ds) := r.append hd
  have hl : (us ++ ds).length = ps.length := by rw [← r2.length]; exact F.len _ _ _ _ h
  refine wpAny_call (codeAny_mono (F.run X.A X.stack s H ⟨us, []⟩ (us ++ ds) (vs ++ dvs) Q E hr I.env0 (hb s us I.kIn hl) r2 h) fun r s' hq => ?_)
  cases r with
  | error e => exact hx pins σ H s e s' I hq
  | ok fl =>
    cases fl with
    | ret u => exact I.after hq
    | next => exact False.elim hq
    | brk => exact False.elim hq
    | cont => exact False.elim hq

theorem pe_call (F : FnOk X.prog X.w X.K X.mg X.base CX k f fd ps sp) (hr : Room k X.A) (hg : Gl X x) (hm : X.mg x = some (.ref f)) (hk : PySem.W.keepIn X.K (.ref f) = true) (hb : Binds X.K fd ps ds) (hd : Vals dvs ds) (hx : Passes CX X E)
    (ha : PA X (e :: es) t) (hdb : (x == ("__debug__" : Str)) = false := by decide) (he : starEach (e :: es) X.env = (false, eval e X.env) :: starEach es X.env := by rfl) (hpl : (backTo pos (starEach es X.env)).any (·.1) = false := by rfl) :
    PE X (.Call (.Name x p) (e :: es) [] pos) (tCall sp dvs E t) := by
  intro pins s σ H Q I h
  refine wpAny_Call_Name_kw (ld_glob I hg hm ?_ hdb)
  refine PySem.W.callWith_K (h₀ := X.base) I.ok.mod.kin hk (thn (ha pos pins s σ H _ I h) fun us s1 ⟨vs, H1, I1, r, q⟩ => ⟨I1.kIn, ?_⟩) he hpl
  exact run_fn F hr hb hd hx I1 r q


/-- what a class must have to be made -/
structure Mk (K : PySem.W.Frag) (C f : Addr) : Prop where
  makes : PySem.W.makesIn K C = true
  init : PySem.W.findIn K (.ref C) "__init__" = some (some (.ref f))
  fn : PySem.W.isFn K (.ref f) = true
  kp : PySem.W.keepIn K (.ref C) = true

theorem run_make {pins : List (Addr × Obj)} {σ : St} {H : Hp} {s : Shared} {Q : VK} {us : List Value} {vs : List V} (M : Mk X.K C f) (F : FnOk X.prog X.w X.K X.mg X.base CX k f fd ps sp) (hr : Room (k + 1) X.A) (hb : Binds X.K fd ps ds) (hd : Vals dvs ds)
    (hx : Passes CX X E) (I : Inv X pins σ H s) (r : Vals vs us)
    (h : ∀ x dx, H x = none → H dx = none → dx ≠ x → sp (.ref x :: (vs ++ dvs)) (upd (upd H dx (.own x)) x (.ins C dx [])) (fun v H2 => v = .non ∧ Q (.ref x) H2) E) :
    wpAny (model X.prog X.w) X.A (call (.ref C) us) (EP X pins σ Q) X.xe s := by
  have hq := h (s.heap.objs.size + 1) s.heap.objs.size (I.hok.fresh (Nat.le_succ _)) (I.hok.fresh (Nat.le_refl _)) (Nat.ne_of_lt (Nat.lt_succ_self _))
  have I2 := Inv.made (C := C) I
  have r2 : Vals (V.ref (s.heap.objs.size + 1) :: (vs ++ dvs)) (Value.ref (s.heap.objs.size + 1) :: (us ++ ds)) := .cons rfl (r.append hd)
  have hl : (Value.ref (s.heap.objs.size + 1) :: us ++ ds).length = ps.length := by
    have e := r2.length
    rw [F.len _ _ _ _ hq] at e
    exact e.symm
  refine wpAny_call (make_map (f := f) I.kIn M.makes M.init (beq_iff_eq.mp M.fn) (codeAny_mono (F.run _ X.stack _ _ ⟨Value.ref (s.heap.objs.size + 1) :: us, []⟩ (Value.ref (s.heap.objs.size + 1) :: (us ++ ds)) _ _ E (hr.make C us [])
    (I2.env0.make C us []) (hb _ (Value.ref (s.heap.objs.size + 1) :: us) I2.kIn hl) r2 hq) fun r s' hq' => ?_))
  cases r with
  | error e => exact hx pins σ _ _ e s' I2 hq'
  | ok fl =>
    cases fl with
    | ret u =>
      obtain ⟨v, H', I3, rv, ev, q3⟩ := I2.after hq'
      subst ev
      exact ⟨rv, ⟨V.ref (s.heap.objs.size + 1), H', I3, rfl, q3⟩⟩
    | next => exact False.elim hq'
    | brk => exact False.elim hq'
    | cont => exact False.elim hq'
theorem pe_make (M : Mk X.K C f) (F : FnOk X.prog X.w X.K X.mg X.base CX k f fd ps sp) (hr : Room (k + 1) X.A) (hg : Gl X x) (hm : X.mg x = some (.ref C)) (hb : Binds X.K fd ps ds) (hd : Vals dvs ds) (hx : Passes CX X E)
    (ha : PA X (e :: es) t) (hdb : (x == ("__debug__" : Str)) = false := by decide) (he : starEach (e :: es) X.env = (false, eval e X.env) :: starEach es X.env := by rfl) (hpl : (backTo pos (starEach es X.env)).any (·.1) = false := by rfl) :
    PE X (.Call (.Name x p) (e :: es) [] pos) (tMake C sp dvs E t) := by
  intro pins s σ H Q I h
  refine wpAny_Call_Name_kw (ld_glob I hg hm ?_ hdb)
  refine PySem.W.callWith_K (h₀ := X.base) I.ok.mod.kin M.kp (thn (ha pos pins s σ H _ I h) fun us s1 ⟨vs, H1, I1, r, q⟩ => ⟨I1.kIn, ?_⟩) he hpl
  exact run_make M F hr hb hd hx I1 r q
end

/-! ### keywords -/
section
variable {X : Cx} {CX : CXT} {k : Nat} {f C : Addr} {fd : FuncData} {ps ks : List Str} {sp : Sp} {E : XK} {x m : Str} {p pos apos kpos : Pos} {e o : Expr} {es : List Expr} {kws : List Keyword} {te ta : TE} {t tk : TA} {nm : Option Str}

variable {g : List Value → List Value → List Value} {gV : List V → List V → List V}
end

/-! ### a def's body keeps its promise -/
/-- names: the parameters first -/
structure FnScope (N P : List Str) (sc : Scope) : Prop where
  kind : sc.kind = .function
  co : sc.isCoroutine = false
  gen : sc.isGenerator = false
  nd : N.Nodup
  pre : N.take P.length = P
  par : ∀ x ∈ P, sc.names.lookup x = some .local ∨ sc.names.lookup x = some .cell
  nofree : ∀ y ∈ sc.names, y.2 ≠ .free

theorem bindL_out {kindOf : Str → Option NameKind} {x : Str} : ∀ {binds : List (Str × Value)} {m : Str → Option Value}, (∀ v, (x, v) ∉ binds) → bindL kindOf binds m x = m x
  | [], _, _ => rfl
  | (n, v) :: r, m, h => by
    unfold bindL
    rw [bindL_out fun w hw => h w (List.mem_cons_of_mem _ hw)]
    split
    · have : x ≠ n := by rintro rfl; exact h v List.mem_cons_self
      simp [this]
    · rfl
theorem bindC_out {kindOf : Str → Option NameKind} {x : Str} : ∀ {binds : List (Str × Value)} {m : Str → Option Value}, (∀ v, (x, v) ∉ binds) → bindC kindOf binds m x = m x
  | [], _, _ => rfl
  | (n, v) :: r, m, h => by
    unfold bindC
    rw [bindC_out fun w hw => h w (List.mem_cons_of_mem _ hw)]
    split
    · rfl
    · have : x ≠ n := by rintro rfl; exact h v List.mem_cons_self
      simp [this]
theorem bindL_get {kindOf : Str → Option NameKind} {x : Str} {v : Value} : ∀ {P : List Str} {vs : List Value} {i : Nat} {m : Str → Option Value}, P.Nodup → P[i]? = some x → vs[i]? = some v → kindOf x = some .local →
    bindL kindOf (P.zip vs) m x = some v
  | [], _, _, _, _, h, _, _ => by simp at h
  | _ :: _, [], _, _, _, _, h, _ => by simp at h
  | p :: P, w :: vs, 0, m, nd, h1, h2, hk => by
    simp at h1 h2; subst h1; subst h2
    show bindL kindOf ((p, w) :: P.zip vs) m p = _
    unfold bindL
    rw [bindL_out fun v hv => (List.nodup_cons.mp nd).1 (List.of_mem_zip hv).1, if_pos hk]
    simp
  | p :: P, w :: vs, i + 1, m, nd, h1, h2, hk => by
    show bindL kindOf ((p, w) :: P.zip vs) m x = _
    unfold bindL
    exact bindL_get (i := i) (List.nodup_cons.mp nd).2 (by simpa using h1) (by simpa using h2) hk
theorem bindC_get {kindOf : Str → Option NameKind} {x : Str} {v : Value} : ∀ {P : List Str} {vs : List Value} {i : Nat} {m : Str → Option Value}, P.Nodup → P[i]? = some x → vs[i]? = some v → kindOf x ≠ some .local →
    bindC kindOf (P.zip vs) m x = some v
  | [], _, _, _, _, h, _, _ => by simp at h
  | _ :: _, [], _, _, _, _, h, _ => by simp at h
  | p :: P, w :: vs, 0, m, nd, h1, h2, hk => by
    simp at h1 h2; subst h1; subst h2
    show bindC kindOf ((p, w) :: P.zip vs) m p = _
    unfold bindC
    rw [bindC_out fun v hv => (List.nodup_cons.mp nd).1 (List.of_mem_zip hv).1, if_neg hk]
    simp
  | p :: P, w :: vs, i + 1, m, nd, h1, h2, hk => by
    show bindC kindOf ((p, w) :: P.zip vs) m x = _
    unfold bindC
    exact bindC_get (i := i) (List.nodup_cons.mp nd).2 (by simpa using h1) (by simpa using h2) hk

/-- the names' values at the entry -/
noncomputable def start (N : List Str) (vs : List V) : St := vs.map some ++ List.replicate (N.length - vs.length) none

/-- the context of a def's body, at its entry; an exception leaves the frame, then lies as CX says -/
noncomputable def cxOf (CX : CXT) (P : Program) (w : World) (K : PySem.W.Frag) (mg : Str → Option Value) (base : Heap) (N : List Str) (qual : Str) (scope : Scope) (f : Addr) (cd : Value) (A : Around) (outer : List Env) (s : Shared) (H : Hp) (E : XK) : Cx where
  prog := P
  w := w
  K := K
  mg := mg
  base := base
  A := A.deeper (envOfC qual scope s.heap.objs.size f cd)
  N := N
  s₀ := s
  H₀ := H
  env := envOfC qual scope s.heap.objs.size f cd
  outer := outer
  stack := envOfC qual scope s.heap.objs.size f cd :: outer
  ex := []
  calm := true
  fn := fun _ => true
  pn := []
  xe := fun e s' => wpAny (model P w) (A.deeper (envOfC qual scope s.heap.objs.size f cd)) (leaving (envOfC qual scope s.heap.objs.size f cd) e) (fun _ s'' => CX outer H s E e s'') (fun e' s'' => CX outer H s E e' s'') s'

theorem cell_has {sc : Scope} {n : Nat} {x : Str} (h : sc.names.lookup x = some .cell) : ∃ c, (cellsFrom n sc.names []).lookup x = some c := by
  have q := PySem.W.cellsFrom_some sc.names n [] (.inl h)
  exact Option.isSome_iff_exists.mp q

theorem inv_start {CX : CXT} {P : Program} {w : World} {K : PySem.W.Frag} {mg : Str → Option Value} {base : Heap} {N ps : List Str} {qual : Str} {scope : Scope} {f : Addr} {cd : Value} {A : Around} {outer : List Env} {s s1 : Shared} {H : Hp} {E : XK} {us : List Value} {vs : List V}
    (S : FnScope N ps scope) (hd : A.handled = none) (e0 : Env0 P w K mg base A outer s H) (hl : vs.length = ps.length) (r : Vals vs us)
    (x : InCallC s s.heap.objs.size (bindL (envOfC qual scope s.heap.objs.size f cd).kindOf (ps.zip us) fun _ => none) (cellsFrom (s.heap.objs.size + 1) scope.names []) (bindC (envOfC qual scope s.heap.objs.size f cd).kindOf (ps.zip us) fun _ => none) s1) :
    Inv (cxOf CX P w K mg base N qual scope f cd A outer s H E) [] (start N vs) H s1 := by
  have hpl : ps.length ≤ N.length := by have := congrArg List.length S.pre; rw [List.length_take] at this; omega
  obtain ⟨h1, tk, rfl, hk⟩ := x.done
  have noA : ∀ b : Addr, b ∉ (cxOf CX P w K mg base N qual scope f cd A outer s H E).ex := fun b z => absurd (show b ∈ ([] : List Addr) from z) (by simp)
  refine ⟨⟨e0.mod, S.kind, rfl, rfl, Nat.le_refl _, fun y z c h1 h2 => ?_, fun y hy => ?_, fun y c _ h => ?_, fun _ => hd, Around.frames_deeper e0.frames, .inr ⟨rfl, rfl⟩, fun b z => absurd z (noA b), e0.bs, e0.bsz, fun b _ _ => noA b, fun b z => absurd z (noA b), e0.funs, e0.frf⟩,
    rfl, e0.bare, Un.kept hk, ⟨_, x.toInCall.ns, fun i y v h1 h2 h3 => ?_⟩, fun y c h => ⟨_, x.cell y c h⟩, e0.hok.fresh (Nat.le_refl _), fun y c h => ?_, fun p hp => absurd (show p ∈ ([] : List (Addr × Obj)) from hp) (by simp), e0.hok.kept hk, ?_⟩
  · exact name_of_addr x.apart (PySem.mem_of_lookup h1) (PySem.mem_of_lookup h2)
  · have hy : scope.names.lookup y = some .cell ∨ scope.names.lookup y = some .free := hy
    rcases hy with hy | hy
    · exact cell_has hy
    · exact absurd rfl (S.nofree _ (PySem.mem_of_lookup hy))
  · exact Nat.le_of_lt (x.above y c (PySem.mem_of_lookup h))
  · have hi : i < vs.length := by
      unfold start at h2
      by_cases hi : i < vs.length
      · exact hi
      · rw [List.getElem?_append_right (by simpa using hi)] at h2
        rw [List.getElem?_replicate] at h2
        split at h2 <;> cases h2
    have ha : vs[i]? = some v := by
      unfold start at h2
      rw [List.getElem?_append_left (by simpa using hi), List.getElem?_map] at h2
      cases e : vs[i]? with
      | none => rw [e] at h2; cases h2
      | some a => rw [e] at h2; cases h2; rfl
    obtain ⟨u, hu, rv⟩ := r.get ha
    have hp : ps[i]? = some y := by
      rw [← S.pre, List.getElem?_take_of_lt (by omega)]; exact h1
    have ndP : ps.Nodup := by rw [← S.pre]; exact S.nd.sublist (List.take_sublist _ _)
    refine ⟨u, rv, ?_⟩
    rcases S.par y (List.mem_of_getElem? hp) with k | k
    · exact .inl ⟨k, bindL_get ndP hp hu k⟩
    · obtain ⟨c, e⟩ := cell_has (n := s.heap.objs.size + 1) k
      refine .inr ⟨.inl k, c, e, ?_⟩
      have q := x.cell y c e
      rw [bindC_get ndP hp hu (by show scope.names.lookup y ≠ _; rw [k]; decide)] at q
      exact q
  · exact e0.hok.fresh (Nat.le_of_lt (x.above y c (PySem.mem_of_lookup h)))
  · unfold start
    show _ = N.length
    rw [List.length_append, List.length_map, List.length_replicate]
    omega

/-- THE RULE: a def (or a method) of the text, by its body. The body's reading t is chosen for each entry; it is run at the parameters' values -/
theorem fn_of {CX : CXT} {P : Program} {w : World} {K : PySem.W.Frag} {mg : Str → Option Value} {base : Heap} {k : Nat} {f : Addr} {name qual : Str} {params : Arguments} {body : List Stmt} {scope : Scope} {dV kV doc pm cdv ct oc : Value} {an od : Option Addr}
    {osl : Array (Option Value)} {N ps : List Str} {sp : Sp} (lk : K.lookup f = some ⟨oc, od, .func (PySem.W.fnOf name qual params body scope dV kV doc pm an cdv ct), osl⟩) (hcd : PySem.W.codeIn K cdv qual = true) (S : FnScope N ps scope)
    (len : ∀ vs H Q E, sp vs H Q E → vs.length = ps.length)
    (hbody : ∀ (A : Around) (outer : List Env) (s : Shared) (H : Hp) (vs : List V) (Q : VK) (E : XK), Room k (A.deeper (envOfC qual scope s.heap.objs.size f cdv)) → sp vs H Q E →
      ∃ t, PSs (cxOf CX P w K mg base N qual scope f cdv A outer s H E) body t ∧ t { nx := fun _ H' => Q .non H', rt := Q } (start N vs) H) :
    FnOk P w K mg base CX (k + 1) f (PySem.W.fnOf name qual params body scope dV kV doc pm an cdv ct) ps sp := by
  refine ⟨len, fun A outer s H args us vs Q E hr e0 hb r hsp => ?_⟩
  have hl := len _ _ _ _ hsp
  have KX : K.In s.heap := e0.mod.kin.keeps fun b o e => (e0.bs b o e).1
  have lim : s.heap.NoLimit := e0.mod.nolimit.keeps fun b o e => (e0.bs b o e).1
  have hkind : ∀ y ∈ ps.zip us, scope.names.lookup y.1 = some .local ∨ (scope.names.lookup y.1 = some .cell ∧ ((cellsFrom (s.heap.objs.size + 1) scope.names []).lookup y.1).isSome = true) := fun ⟨n, v⟩ hy => by
    rcases S.par n (List.of_mem_zip hy).1 with q | q
    · exact .inl q
    · exact .inr ⟨q, PySem.W.cellsFrom_some _ _ _ (.inl q)⟩
  refine codeAny_call_function hr.depth (KX _ _ lk) rfl S.co S.gen rfl (PySem.W.codeRec_of KX hcd) (hb _ _ _ _ ?_)
  refine wpAny_newFunctionEnv_cells S.kind hkind fun env he s1 x => ?_
  subst he
  refine ⟨lim.keeps x.toInCall.keep, codeAny_func ?_⟩
  obtain ⟨t, ht, hq⟩ := hbody A outer s H vs Q E (hr.deeper _) hsp
  have I : Inv (cxOf CX P w K mg base N qual scope f cdv A outer s H E) [] (start N vs) H s1 := inv_start S hr.hd e0 hl r x
  refine wpAny_mono (ht [] s1 (start N vs) H _ I hq) (fun fl s' hs => ?_) fun e s' hs => hs
  have fin : ∀ {σ' : St} {H' : Hp} {v : V} {u : Value}, Inv (cxOf CX P w K mg base N qual scope f cdv A outer s H E) [] σ' H' s' → RelV v u → Q v H' → CE outer P w H s Q u s' :=
    fun {σ' H' v u} J rv q => ⟨v, H', J.os, J.bare, J.base, J.hok, rv, q⟩
  cases fl with
  | ret u =>
    obtain ⟨v, σ', H', J, rv, q⟩ := hs
    exact fin J rv q
  | next =>
    obtain ⟨σ', H', J, q⟩ := hs
    exact fin (v := V.non) (u := Value.none) J rfl q
  | brk =>
    obtain ⟨_, _, _, q⟩ := hs
    exact False.elim q
  | cont =>
    obtain ⟨_, _, _, q⟩ := hs
    exact False.elim q
end L2

namespace L2
open PySem PySem.Spec PyProof.Rows
section
variable {X : Cx} {x : Str} {p pos : Pos} {e : Expr} {es : List Expr} {t : TA} {id T : String} {r : List V → Hp → VK → Prop}

noncomputable def tCB (r : List V → Hp → VK → Prop) (t : TA) : TE := fun σ H Q => t σ H fun vs H1 => r vs H1 Q
/-- f(e, ..), f a built-in function -/
theorem pe_callB (hc : CallR X (.builtin id) r) (hg : Gl X x) (hm : X.mg x = none) (hv : bootBuiltins x = some (.builtin id)) (ha : PA X (e :: es) t) (hn : x ≠ "__name__" := by decide) (hdb : (x == ("__debug__" : Str)) = false := by decide)
    (he : starEach (e :: es) X.env = (false, eval e X.env) :: starEach es X.env := by rfl) (hpl : (backTo pos (starEach es X.env)).any (·.1) = false := by rfl) : PE X (.Call (.Name x p) (e :: es) [] pos) (tCB r t) := by
  intro pins s σ H Q I h
  refine wpAny_Call_Name_kw (ld_blt I hg hm hv ?_ hn hdb)
  exact PyProof.Rows.callWith_builtin1 (thn (ha pos pins s σ H _ I h) fun us s1 ⟨vs, H1, I1, r1, q1⟩ => hc pins s1 σ H1 vs us Q I1 r1 q1) he hpl
/-- T(e, ..), T a built-in type -/
theorem pe_callTy (hc : CallR X (.type T) r) (hg : Gl X x) (hm : X.mg x = none) (hv : bootBuiltins x = some (.type T)) (ha : PA X (e :: es) t) (hn : x ≠ "__name__" := by decide) (hdb : (x == ("__debug__" : Str)) = false := by decide)
    (he : starEach (e :: es) X.env = (false, eval e X.env) :: starEach es X.env := by rfl) (hpl : (backTo pos (starEach es X.env)).any (·.1) = false := by rfl) : PE X (.Call (.Name x p) (e :: es) [] pos) (tCB r t) := by
  intro pins s σ H Q I h
  refine wpAny_Call_Name_kw (ld_blt I hg hm hv ?_ hn hdb)
  exact PyProof.Rows.callWith_type1 (thn (ha pos pins s σ H _ I h) fun us s1 ⟨vs, H1, I1, r1, q1⟩ => hc pins s1 σ H1 vs us Q I1 r1 q1) he hpl
end
end L2

namespace HT
open PySem PyProof.Rows



section
open PySem.SeqAt
open PySem.AutoSeq1 (wpAny_loadPart')
open PySem.MeetsSeq PySem.MeetsSeq2 PySem.MeetsSeq3

end

section
variable {prog : Program} {w : World} {A : Around} {E : Value → Shared → Prop} {s : Shared}



/-! ### t[a:b], not the whole -/
/-- a slice's bound as a place among n (d where it is left out) -/
noncomputable def sIx (n d : Nat) : Option Int → Nat
  | none => d
  | some v => if v < 0 then (v + (n : Int)).toNat else min v.toNat n
theorem sIx_none (n d : Nat) : sIx n d none = d := rfl

end
end HT

namespace L2
open PySem PySem.Spec PyProof.Rows

/-! ### the parts of a slice -/
noncomputable abbrev TO := St → Hp → (Option Int → Hp → Prop) → Prop
/-- a slice's part (left out, or an int) -/
noncomputable def PO (X : Cx) (e : Option Expr) (t : TO) : Prop :=
  ∀ (pins : List (Addr × Obj)) (s : Shared) (σ : St) (H : Hp) (Q : Option Int → Hp → Prop), Inv X pins σ H s → t σ H Q →
    wpAny (model X.prog X.w) X.A (evalPart e X.env) (fun u s' => ∃ o H', Inv X pins σ H' s' ∧ IsPart u o ∧ Q o H') X.xe s
noncomputable def tNoPart : TO := fun _ H Q => Q none H
noncomputable def tPart (t : TE) : TO := fun σ H Q => t σ H fun x H1 => ∃ i, x = .int i ∧ Q (some i) H1


section
variable {X : Cx} {e : Expr} {te : TE} {lo hi : Option Expr} {tl th : TO} {pos p2 : Pos}

theorem po_none : PO X none tNoPart := by
  intro pins s σ H Q I h
  rw [evalPart_none]
  exact wpAny_pure ⟨none, H, I, .none, h⟩
theorem po_some (h : PE X e te) : PO X (some e) (tPart te) := by
  intro pins s σ H Q I hw
  rw [evalPart_some]
  refine thn (h pins s σ H _ I hw) fun u s1 zz => ?_
  obtain ⟨x, H1, I1, r1, q1⟩ := zz
  obtain ⟨i, rfl, q⟩ := q1
  obtain ⟨t, rfl⟩ := r1
  exact ⟨some i, H1, I1, .int i t, q⟩

/-- what a slice of a value is, by values: the slice object stands at sl -/
noncomputable def SlR (X : Cx) (r : V → Option Int → Option Int → Hp → VK → Prop) : Prop :=
  ∀ (pins : List (Addr × Obj)) (s : Shared) (σ : St) (H : Hp) (x : V) (v vl vu : Value) (lo hi : Option Int) (sl : Addr) (Q : VK), Inv X pins σ H s → RelV x v → s.heap.IsSliceOf sl vl vu .none → IsPart vl lo → IsPart vu hi → r x lo hi H Q →
    ∃ T id, typeLookup (.type T) "__getitem__" = pure (some (.builtin id)) ∧ s.TypeIs v T ∧ wpAny (model X.prog X.w) X.A (getItem v (.ref sl)) (EP X pins σ Q) X.xe s
noncomputable def tSl (r : V → Option Int → Option Int → Hp → VK → Prop) (te : TE) (tl th : TO) : TE := fun σ H Q => te σ H fun x H1 => tl σ H1 fun l H2 => th σ H2 fun u H3 => r x l u H3 Q
/-- a[lo:hi], any a -/
theorem pe_slice {r : V → Option Int → Option Int → Hp → VK → Prop} (hr : SlR X r) (he : PE X e te) (hl : PO X lo tl) (hu : PO X hi th) : PE X (.Subscript e (.Slice lo hi none p2) pos) (tSl r te tl th) := by
  intro pins s σ H Q I h
  refine Subscript_ (thn (he pins s σ H _ I h) fun v s1 zz => ?_)
  obtain ⟨x, H1, I1, r1, q1⟩ := zz
  refine wpAny_Slice (thn (hl pins s1 σ H1 _ I1 q1) fun vl s2 ⟨l, H2, I2, pl, q2⟩ => thn (hu pins s2 σ H2 _ I2 q2) fun vu s3 zz => ?_)
  obtain ⟨u, H3, I3, pu, q3⟩ := zz
  rw [evalPart_none]
  refine wpAny_pure ?_
  have I4 : Inv X pins σ H3 { s3 with heap := s3.heap.push { cls := .type "slice", data := .fields #[vl, vu, .none] } } := I3.kept (t' := s3.toks) fun b ob q => Heap.get?_push_of_some _ q
  obtain ⟨T, id, hT, ht, hg⟩ := hr pins { s3 with heap := s3.heap.push { cls := .type "slice", data := .fields #[vl, vu, .none] } } σ H3 x v vl vu l u s3.heap.objs.size Q I4 r1 (Heap.IsSliceOf.new ..) pl pu q3
  show wpAny (model X.prog X.w) X.A (subscriptTail e (.Slice lo hi none p2) v (.ref s3.heap.objs.size)) (EP X pins σ Q) X.xe { s3 with heap := s3.heap.push { cls := .type "slice", data := .fields #[vl, vu, .none] } }
  exact tail_any (ops := [.ref s3.heap.objs.size, v]) ht hT hg (by with_unfolding_all rfl)

/-- the items of xs[lo:hi] -/
noncomputable def cutV (xs : List V) (lo hi : Option Int) : List V := (xs.drop (HT.sIx xs.length 0 lo)).take (HT.sIx xs.length xs.length hi - HT.sIx xs.length 0 lo)
theorem cutV_length (xs : List V) (lo hi : Option Int) : (cutV xs lo hi).length ≤ xs.length := by
  unfold cutV
  rw [List.length_take, List.length_drop]
  omega

/-! ### t < u, t + u -/
end
end L2

namespace L2
open PySem PySem.Spec PyProof.Rows

/-! ### places -/
/-- the place that an index of any sign means -/
noncomputable def ixN (n : Nat) (i : Int) : Option Nat := if 0 ≤ i then (if i < n then some i.toNat else none) else if -(n : Int) ≤ i then some (i + n).toNat else none
noncomputable def atI {α : Type} (xs : List α) (i : Int) : Option α := (ixN xs.length i).bind fun j => xs[j]?
theorem ixN_seq {n : Nat} {i : Int} {j : Nat} (h : ixN n i = some j) : seqIndex? i n = some j ∧ j < n ∧ -(n : Int) ≤ i ∧ i < n := by
  unfold ixN at h
  by_cases h0 : 0 ≤ i
  · rw [if_pos h0] at h
    by_cases h1 : i < n
    · rw [if_pos h1] at h
      have e : i.toNat = j := Option.some.inj h
      exact ⟨by rw [seqIndex_of h0 h1, e], by omega, by omega, h1⟩
    · rw [if_neg h1] at h; cases h
  · rw [if_neg h0] at h
    by_cases h1 : -(n : Int) ≤ i
    · rw [if_pos h1] at h
      have e : (i + n).toNat = j := Option.some.inj h
      exact ⟨by rw [seqIndex_neg (by omega) h1, e], by omega, h1, by omega⟩
    · rw [if_neg h1] at h; cases h
theorem atI_get {α : Type} {xs : List α} {i : Int} {v : α} (h : atI xs i = some v) : ∃ j, seqIndex? i xs.length = some j ∧ xs[j]? = some v ∧ j < xs.length ∧ -(xs.length : Int) ≤ i ∧ i < xs.length := by
  unfold atI at h
  cases e : ixN xs.length i with
  | none => rw [e] at h; cases h
  | some j =>
    rw [e] at h
    obtain ⟨h1, h2, h3, h4⟩ := ixN_seq e
    exact ⟨j, h1, h, h2, h3, h4⟩
theorem atI_nat {α : Type} {xs : List α} {j : Nat} {v : α} (h : xs[j]? = some v) : atI xs (j : Int) = some v := by
  have hj : j < xs.length := (List.getElem?_eq_some_iff.mp h).1
  have e : ixN xs.length (j : Int) = some j := by
    unfold ixN
    rw [if_pos (by omega), if_pos (by omega)]; simp
  unfold atI; rw [e]; exact h

/-! ### what may be subscripted -/
/-- what stands as an index of a plain subscript -/
noncomputable def PlainIx (b : Expr) : Prop := ∀ o i, subscripted b false o i = operate [o, i] (getItem o i)
/-- a subscript by values -/
noncomputable def IxR (X : Cx) (r : R2) : Prop :=
  ∀ (value slice : Expr) (pins : List (Addr × Obj)) (s : Shared) (σ : St) (H : Hp) (x y : V) (v u : Value) (Q : VK), Inv X pins σ H s → RelV x v → RelV y u → r x y H Q →
    subscripted slice false v u = operate [v, u] (getItem v u) → wpAny (model X.prog X.w) X.A (subscriptTail value slice v u) (EP X pins σ Q) X.xe s
/-- a call of a builtin's method by values: the receiver, the arguments -/
noncomputable def MtR (X : Cx) (id : String) (r : V → List V → Hp → VK → Prop) : Prop :=
  ∀ (pins : List (Addr × Obj)) (s : Shared) (σ : St) (H : Hp) (x : V) (xs : List V) (v : Value) (us : List Value) (Q : VK), Inv X pins σ H s → RelV x v → Vals xs us → r x xs H Q →
    wpAny (model X.prog X.w) X.A (call (.builtin id) (v :: us)) (EP X pins σ Q) X.xe s
section
variable {X : Cx} {a b : Expr} {ta tb : TE} {pos : Pos}
/-- a[b] -/
theorem pe_ix {r : R2} (hr : IxR X r) (ha : PE X a ta) (hb : PE X b tb) (hs : PlainIx b) : PE X (.Subscript a b pos) (tOp r ta tb) := by
  intro pins s σ H Q I h
  exact Subscript_ (binT ha hb I h fun v u s2 x y H2 I2 rx ry q => hr a b pins s2 σ H2 x y v u Q I2 rx ry q (hs _ _))

noncomputable def rIxL (K : PySem.W.Frag) : R2 := fun x y H Q => ∃ p xs i v, x = .ref p ∧ y = .int i ∧ SqL K H p xs ∧ atI xs i = some v ∧ Q v H
noncomputable def rIxT (K : PySem.W.Frag) : R2 := fun x y H Q => ∃ p xs i v, x = .ref p ∧ y = .int i ∧ SqT K H p xs ∧ atI xs i = some v ∧ Q v H
theorem ix_list : IxR X (rIxL X.K) := by
  intro value slice pins s σ H x y v u Q I rx ry h hs
  obtain ⟨p, xs, i, z, rfl, rfl, hq, he, q⟩ := h
  cases rx
  obtain ⟨t, rfl⟩ := ry
  obtain ⟨its, r, pl, hz⟩ := I.list hq
  obtain ⟨j, h1, h2, h3, h4, h5⟩ := atI_get he
  obtain ⟨w, ew, rw'⟩ := r.get h2
  have hl := r.length
  have hn := line63
  have fin : EP X pins σ Q w s := ⟨z, H, I, rw', q⟩
  by_cases h0 : 0 ≤ i
  · have hj : i.toNat = j := by
      rw [seqIndex_of h0 h5] at h1
      exact Option.some.inj h1
    exact item_listR pl.isList h0 (by omega) (by rw [hj]; simpa using ew) fin hs
  · have hj : (i + (its.toArray.size : Int)).toNat = j := by
      rw [seqIndex_neg (by omega) h4] at h1
      rw [List.size_toArray, ← hl]
      exact Option.some.inj h1
    exact subscriptTail_builtinR (x := w) pl.isList.typeIs slot_list_getitem.lookup
      (wpAny_getItem_list_neg (Q := fun r s' => r = w ∧ EP X pins σ Q r s') pl.isList (by omega) (by rw [List.size_toArray] <;> omega) (by omega) (by rw [hj]; simpa using ew) ⟨rfl, fin⟩) hs
theorem ix_tup : IxR X (rIxT X.K) := by
  intro value slice pins s σ H x y v u Q I rx ry h hs
  obtain ⟨p, xs, i, z, rfl, rfl, hq, he, q⟩ := h
  cases rx
  obtain ⟨t, rfl⟩ := ry
  obtain ⟨its, r, pl, hz⟩ := I.tuple hq
  obtain ⟨j, h1, h2, h3, h4, h5⟩ := atI_get he
  obtain ⟨w, ew, rw'⟩ := r.get h2
  have hl := r.length
  have hn := line63
  have fin : EP X pins σ Q w s := ⟨z, H, I, rw', q⟩
  exact subscriptTail_builtinR (x := w) pl.typeIs slot_tuple_getitem.lookup
    (getItem_tuple (j := j) (Q := fun r s' => r = w ∧ EP X pins σ Q r s') pl (by omega) (by omega) (by rw [List.size_toArray, ← hl]; exact h1) (by simpa using ew) ⟨rfl, fin⟩) hs

/-! ### xs[i] = v, any sign -/
/-- the list's object behind a store -/
theorem mapSeq_set (its : List Value) (n j : Nat) (u : Value) : Obj.mapSeq (·.setIfInBounds j u) { cls := .type "list", data := .seq its.toArray n } = { cls := .type "list", data := .seq (its.set j u).toArray n } := by
  simp [Obj.mapSeq]
theorem Inv.lst {pins : List (Addr × Obj)} {σ : St} {H : Hp} {s : Shared} {p : Addr} {xs : List V} (I : Inv X pins σ H s) (h : H p = some (.lst xs)) :
    ∃ (its : List Value) (n : Nat), Vals xs its ∧ s.heap.get? p = some { cls := .type "list", data := .seq its.toArray n } ∧ xs.length ≤ sizeLine := by
  obtain ⟨z, its, n, r, e⟩ := I.hok p _ h
  exact ⟨its, n, r, e, z⟩
/-- the list at p is written by an update of its object -/
theorem Inv.lstUpd {pins : List (Addr × Obj)} {σ : St} {H : Hp} {s : Shared} {p : Addr} {xs ys : List V} {its its' : List Value} {n n' : Nat} {f : Obj → Obj} (I : Inv X pins σ H s) (h : H p = some (.lst xs))
    (ho : s.heap.get? p = some { cls := .type "list", data := .seq its.toArray n }) (hf : f { cls := .type "list", data := .seq its.toArray n } = { cls := .type "list", data := .seq its'.toArray n' }) (r : Vals ys its') (hz : ys.length ≤ sizeLine) (t : Nat) :
    Inv X pins σ (upd H p (.lst ys)) { s with heap := s.heap.update p f, toks := t } := by
  have e : (s.heap.update p f).get? p = some { cls := .type "list", data := .seq its'.toArray n' } := by
    rw [Heap.get?_update_self f ho (by rw [hf] <;> rfl), hf]
  refine I.write (x := p) (e := p) (by rw [h]; trivial) (.inl rfl) (fun b u hb q => (Heap.get?_update_other _ _ (Ne.symm hb)).trans q) ⟨_, e⟩ ?_
  exact ⟨hz, its', n', r, e⟩
noncomputable def rSetL : V → V → V → Hp → (Hp → Prop) → Prop := fun o i v H Q => ∃ p xs k j, o = .ref p ∧ i = .int k ∧ H p = some (.lst xs) ∧ ixN xs.length k = some j ∧ Q (upd H p (.lst (xs.set j v)))
theorem set_list : PSet X rSetL := by
  intro pins s σ H o i v ov iv u Q I ro ri rv h
  obtain ⟨p, xs, k, j, rfl, rfl, hp, hj, q⟩ := h
  cases ro
  obtain ⟨t, rfl⟩ := ri
  obtain ⟨its, n, r, ho, hz⟩ := I.lst hp
  obtain ⟨h1, h2, h3, h4⟩ := ixN_seq hj
  have hl := r.length
  have hn := line63
  have I' : Inv X pins σ (upd H p (.lst (xs.set j v))) { s with heap := s.heap.update p (Obj.mapSeq (·.setIfInBounds j u)) } :=
    I.lstUpd hp ho (mapSeq_set its n j u) (r.set rv j) (by rw [List.length_set]; exact hz) s.toks
  by_cases h0 : 0 ≤ k
  · have hk : k.toNat = j := by
      rw [seqIndex_of h0 h4] at h1
      exact Option.some.inj h1
    exact PySem.W.ki_setAt ho h0 (by omega) (by rw [List.size_toArray, ← hl]; exact h4) (by rw [hk]; exact ⟨_, I', q⟩)
  · have hk : (k + (its.toArray.size : Int)).toNat = j := by
      rw [seqIndex_neg (by omega) h3] at h1
      rw [List.size_toArray, ← hl]
      exact Option.some.inj h1
    exact PySem.W.ki_setBack ho (by omega) (by rw [List.size_toArray, ← hl]; exact h3) (by omega) (by rw [hk]; exact ⟨_, I', q⟩)

/-! ### slices -/
theorem slice_bounds (lo hi : Option Int) (n : Nat) : (sliceBounds lo hi none n).1 = ((HT.sIx n 0 lo : Nat) : Int) ∧ (sliceBounds lo hi none n).2.1 = ((HT.sIx n n hi : Nat) : Int) ∧ (sliceBounds lo hi none n).2.2 = 1 := by
  refine ⟨?_, ?_, rfl⟩
  · cases lo with
    | none => simp [sliceBounds, HT.sIx]
    | some i =>
      simp only [sliceBounds, HT.sIx, Option.getD_none, show (1 : Int) > 0 by decide, if_true]
      by_cases h : i < 0
      · simp only [h, if_true] <;> omega
      · simp only [h, if_false] <;> omega
  · cases hi with
    | none => simp [sliceBounds, HT.sIx]
    | some i =>
      simp only [sliceBounds, HT.sIx, Option.getD_none, show (1 : Int) > 0 by decide, if_true]
      by_cases h : i < 0
      · simp only [h, if_true] <;> omega
      · simp only [h, if_false] <;> omega
theorem slicePick_cut (its : List Value) (lo hi : Option Int) : slicePick its.toArray lo hi none = ((its.drop (HT.sIx its.length 0 lo)).take (HT.sIx its.length its.length hi - HT.sIx its.length 0 lo)).toArray := by
  obtain ⟨h1, h2, h3⟩ := slice_bounds lo hi its.toArray.size
  unfold slicePick
  rw [h1, h2, h3]
  simp only [sliceRange_one, pick_run, List.size_toArray] <;> rfl
/-- xs[lo:hi] of a list: a new list -/
noncomputable def rSlL (K : PySem.W.Frag) : V → Option Int → Option Int → Hp → VK → Prop := fun x lo hi H Q => ∃ a xs, x = .ref a ∧ SqL K H a xs ∧ ∀ p, H p = none → Q (.ref p) (upd H p (.lst (cutV xs lo hi)))
theorem sl_list : SlR X (rSlL X.K) := by
  intro pins s σ H x v vl vu lo hi sl Q I rx hs pl pu h
  obtain ⟨a, xs, rfl, hx, q⟩ := h
  cases rx
  obtain ⟨its, r, ht, hz⟩ := I.list hx
  have hlen := r.length
  refine ⟨"list", _, slot_list_getitem.lookup, ht.isList.typeIs, ?_⟩
  refine wpAny_getItem_list_slice ht.isList hs pl pu .none (by simp) ?_ (by rw [List.size_toArray] <;> omega)
  rw [slicePick_cut, ← hlen]
  refine ⟨.ref s.heap.objs.size, _, I.laid (t' := s.toks) (o := .lst (cutV xs lo hi)) (fun b ob q => Heap.get?_push_of_some _ q) (Nat.le_refl _) ?_, rfl, q _ (I.hok.fresh (Nat.le_refl _))⟩
  exact ⟨Nat.le_trans (cutV_length xs lo hi) hz, _, 0, (r.drop (HT.sIx xs.length 0 lo)).take (HT.sIx xs.length xs.length hi - HT.sIx xs.length 0 lo), Heap.get?_push_size _ rfl⟩

/-! ### in, not in: flat items -/

/-! ### len, list(x), tuple(x) of any list or tuple that is read -/
theorem call_len_seq : CallR X (.builtin "len") (fun xs H Q => ∃ p ys, xs = [.ref p] ∧ (SqL X.K H p ys ∨ SqT X.K H p ys) ∧ Q (.int ys.length) H) := by
  intro pins s σ H xs us Q I r h
  obtain ⟨p, ys, rfl, hq, q⟩ := h
  obtain ⟨u, rfl, rx⟩ := vals1 r
  cases rx
  have hn := line63
  rcases hq with hq | hq
  · obtain ⟨its, r', pl, hz⟩ := I.list hq
    have hlen := r'.length
    exact Calls.call_len_list pl.isList (by simp only [List.size_toArray] <;> omega) ⟨.int ys.length, H, I.tok _, ⟨s.toks + 1, by rw [List.size_toArray, hlen]⟩, q⟩
  · obtain ⟨its, r', pl, hz⟩ := I.tuple hq
    have hlen := r'.length
    exact len_tuple pl (by simp only [List.size_toArray] <;> omega) ⟨.int ys.length, H, I.tok _, ⟨s.toks + 1, by rw [List.size_toArray, hlen]⟩, q⟩
theorem call_list_of : CallR X (.type "list") (fun xs H Q => ∃ p ys, xs = [.ref p] ∧ (SqL X.K H p ys ∨ SqT X.K H p ys) ∧ ∀ l, H l = none → Q (.ref l) (upd H l (.lst ys))) := by
  intro pins s σ H xs us Q I r h
  obtain ⟨p, ys, rfl, hq, q⟩ := h
  obtain ⟨u, rfl, rx⟩ := vals1 r
  cases rx
  have fin : ∀ (its : List Value), Vals ys its → ys.length ≤ sizeLine → ∀ (h' : Heap) (c' : Nat), (∀ b o', s.heap.get? b = some o' → h'.get? b = some o') →
      h'.get? s.heap.objs.size = some { cls := .type "list", dict := none, data := .seq its.toArray c', slots := #[] } → EP X pins σ Q (.ref s.heap.objs.size) { s with heap := h' } := fun its r' hz h' c' kp e =>
    ⟨.ref s.heap.objs.size, _, I.laid (t' := s.toks) kp (Nat.le_refl _) (show ObjOk X.prog X.w _ h' _ (.lst ys) from ⟨hz, its, c', r', e⟩), rfl, q _ (I.hok.fresh (Nat.le_refl _))⟩
  rcases hq with hq | hq
  · obtain ⟨its, r', pl, hz⟩ := I.list hq
    have hlen := r'.length
    obtain ⟨o, ho, hc, n, hd⟩ := pl.isList
    exact call_list_seq p (.inl rfl) ho hc hd (fun h' c' kp e => fin its r' hz h' c' kp e) (by simp only [List.size_toArray] <;> omega)
  · obtain ⟨its, r', pl, hz⟩ := I.tuple hq
    have hlen := r'.length
    obtain ⟨o, ho, hc, n, hd⟩ := pl
    exact call_list_seq p (.inr rfl) ho hc hd (fun h' c' kp e => fin its r' hz h' c' kp e) (by simp only [List.size_toArray] <;> omega)

/-! ### the call of a builtin's method: o.m(..) -/
/-- the value is of that builtin type -/
noncomputable def tyV (K : PySem.W.Frag) (T : String) (x : V) (H : Hp) : Prop := match x with
  | .str _ => T = "str"
  | .int _ => T = "int"
  | .ref p => (T = "list" ∧ ∃ xs, SqL K H p xs) ∨ (T = "tuple" ∧ ∃ o, K.lookup p = some o ∧ o.cls = .type "tuple" ∧ o.dict = none) ∨
      (T = "dict" ∧ ((∃ kvs, H p = some (.dK kvs)) ∨ ∃ kvs, H p = some (.dT kvs))) ∨ (T = "set" ∧ ∃ S n, H p = some (.set S n))
  | _ => False
theorem tyV_is {pins : List (Addr × Obj)} {σ : St} {H : Hp} {s : Shared} {T : String} {x : V} {v : Value} (I : Inv X pins σ H s) (r : RelV x v) (ty : tyV X.K T x H) :
    s.TypeIs v T ∧ ∀ a, v = .ref a → ∃ ob, s.heap.get? a = some ob ∧ ob.dict = none := by
  cases x with
  | str z =>
    obtain ⟨t, rfl⟩ := r
    cases (show T = "str" from ty)
    exact ⟨typeIs_str s z t, fun _ e => nomatch e⟩
  | int i =>
    obtain ⟨t, rfl⟩ := r
    cases (show T = "int" from ty)
    exact ⟨typeIs_int s i t, fun _ e => nomatch e⟩
  | ref p =>
    cases r
    rcases ty with ⟨rfl, xs, hq⟩ | ⟨rfl, o, hk, hc, hd⟩ | ⟨rfl, hk⟩ | ⟨rfl, S, n, hk⟩
    · obtain ⟨its, _, pl, _⟩ := I.list hq
      refine ⟨pl.isList.typeIs, fun a e => ?_⟩
      cases e
      obtain ⟨o, n, e, c, hd, _⟩ := pl
      exact ⟨o, e, hd⟩
    · refine ⟨⟨o, I.kIn p o hk, hc⟩, fun a e => ?_⟩
      cases e
      exact ⟨o, I.kIn _ o hk, hd⟩
    · have z : ∃ o, s.heap.get? p = some o ∧ o.ExactDict := by
        rcases hk with ⟨kvs, hk⟩ | ⟨kvs, hk⟩
        · obtain ⟨_, _, _, _, o, _, _, e, ex, _⟩ := I.hok p _ hk
          exact ⟨o, e, ex⟩
        · obtain ⟨_, _, _, _, o, _, _, e, ex, _⟩ := I.hok p _ hk
          exact ⟨o, e, ex⟩
      obtain ⟨o, e, ex⟩ := z
      refine ⟨⟨o, e, ex.1⟩, fun a e2 => ?_⟩
      cases e2
      exact ⟨o, e, ex.2.1⟩
    · obtain ⟨o, _, _, _, e, ex, _⟩ := I.hok p _ hk
      refine ⟨⟨o, e, ex.1⟩, fun a e2 => ?_⟩
      cases e2
      exact ⟨o, e, ex.2.1⟩
  | _ => exact False.elim ty
noncomputable def tBM0 (K : PySem.W.Frag) (T : String) (r : V → List V → Hp → VK → Prop) (to : TE) : TE := fun σ H Q => to σ H fun x H1 => tyV K T x H1 ∧ r x [] H1 Q
noncomputable def tBM (K : PySem.W.Frag) (T : String) (r : V → List V → Hp → VK → Prop) (to : TE) (t : TA) : TE := fun σ H Q => to σ H fun x H1 => tyV K T x H1 ∧ t σ H1 fun xs H2 => r x xs H2 Q
variable {o e : Expr} {es : List Expr} {to : TE} {t : TA} {name : Str} {apos cpos : Pos} {T id : String} {r : V → List V → Hp → VK → Prop}
theorem pe_bm0 (pa : PlainAttrs T) (slot : Slot T name id) (hty : typeOf (.builtin id) = pure (.type "method_descriptor")) (hm : MtR X id r) (ho : PE X o to)
    (hbase : attributeBase o name X.env (eval o X.env) = eval o X.env := by rfl) (hline : (apos.endLine == cpos.line) = true := by rfl) : PE X (.Call (.Attribute o name apos) [] [] cpos) (tBM0 X.K T r to) := by
  intro pins s σ H Q I h
  refine wpAny_Call_method0_late hbase hline (thn (ho pins s σ H _ I h) fun v s1 zz => ?_)
  obtain ⟨x, H1, I1, r1, ty, q1⟩ := zz
  obtain ⟨h1, h2⟩ := tyV_is I1 r1 ty
  exact ⟨T, id, pa, slot, hty, h1, h2, Calls.callWith_builtin rfl (PySem.evalArgs_none (hm pins s1 σ H1 x [] v [] Q I1 r1 .nil q1))⟩
theorem pe_bm (pa : PlainAttrs T) (slot : Slot T name id) (hty : typeOf (.builtin id) = pure (.type "method_descriptor")) (hm : MtR X id r) (ho : PE X o to) (ha : PA X (e :: es) t)
    (hbase : attributeBase o name X.env (eval o X.env) = eval o X.env := by rfl)
    (hfew : ((backTo cpos (starEach (e :: es) X.env)).all (fun x => !x.1) && (backToKw cpos (keywordEach [] X.env)).all (fun x => x.1.isSome)
      && decide ((e :: es).length + ([] : List Keyword).length + (if ([] : List Keyword).isEmpty then 0 else 1) < 30)) = true := by rfl)
    (hline : (apos.endLine == cpos.line) = true := by rfl) (hs : starEach (e :: es) X.env = (false, eval e X.env) :: starEach es X.env := by rfl) (hplain : (backTo cpos (starEach es X.env)).any (·.1) = false := by rfl) :
    PE X (.Call (.Attribute o name apos) (e :: es) [] cpos) (tBM X.K T r to t) := by
  intro pins s σ H Q I h
  refine wpAny_Call_method_late hbase hfew hline rfl (thn (ho pins s σ H _ I h) fun v s1 zz => ?_)
  obtain ⟨x, H1, I1, r1, ty, q1⟩ := zz
  obtain ⟨h1, h2⟩ := tyV_is I1 r1 ty
  refine ⟨T, id, pa, slot, hty, h1, h2, ?_⟩
  have hA := ha cpos pins s1 σ H1 _ I1 q1
  rw [hs] at hA ⊢
  refine Calls.callWith_builtin (by show (false || (backTo cpos (starEach es X.env)).any (·.1)) = false; rw [hplain] <;> rfl) (Calls.evalArgs_plain ?_)
  exact thn hA fun us s2 ⟨vs, H2, I2, r2, q2⟩ => hm pins s2 σ H2 x vs v us Q I2 r1 r2 q2
/- xs.append(e), list.index on a module's tuple .. are MtR facts of 06m -/
end
end L2

namespace L2
open PySem PySem.Spec PyProof.Rows

noncomputable def MtM (X : Cx) (id : String) (r : V → List V → Hp → VK → Prop) : Prop :=
  ∀ (pins : List (Addr × Obj)) (s : Shared) (σ : St) (H : Hp) (x : V) (xs : List V) (v : Value) (us : List Value) (Q : VK), Inv X pins σ H s → RelV x v → Vals xs us → r x xs H Q →
    wpAny (model X.prog X.w) X.A (call (.builtin id) (v :: us)) (EP X pins σ Q) X.xe s

/-! ### lists of values -/
theorem Vals.one {x : V} {us : List Value} (h : Vals [x] us) : ∃ u, us = [u] ∧ RelV x u := by
  cases h with | cons r h => cases h with | nil => exact ⟨_, rfl, r⟩
theorem Vals.zero : ∀ {us : List Value}, Vals [] us → us = []
  | _, .nil => rfl

section
variable {X : Cx} {pins : List (Addr × Obj)} {σ : St} {H : Hp} {s : Shared} {l b : Addr} {xs ys zs : List V}

/-! ### the two steps: a tracked list is rewritten, a new list is laid -/
theorem Inv.lset {its its' : List Value} {n : Nat} {f : Array Value → Array Value} {t' : Nat} (I : Inv X pins σ H s) (hH : H l = some (.lst xs))
    (e : s.heap.get? l = some { cls := .type "list", data := .seq its.toArray n }) (hf : f its.toArray = its'.toArray) (hv : Vals ys its') (hz : ys.length ≤ sizeLine) :
    Inv X pins σ (upd H l (.lst ys)) { s with heap := s.heap.update l (Obj.mapSeq f), toks := t' } := by
  have q := PySem.IsL.update e f
  rw [hf] at q
  refine I.write (x := l) (e := l) (by rw [hH]; exact trivial) (.inl rfl) (fun b' u hb hu => (Heap.get?_update_other s.heap (Obj.mapSeq f) (Ne.symm hb)).trans hu) ⟨_, q⟩ ?_
  exact ⟨hz, its', _, hv, q⟩
theorem Inv.lnew {its : List Value} {t' : Nat} (I : Inv X pins σ H s) (hv : Vals ys its) (hz : ys.length ≤ sizeLine) :
    Inv X pins σ (upd H s.heap.objs.size (.lst ys)) { s with heap := s.heap.push { cls := .type "list", data := .seq its.toArray }, toks := t' } :=
  I.laid (fun _ _ q => Heap.get?_push_of_some _ q) (Nat.le_refl _) ⟨hz, its, 0, hv, Heap.get?_push_size _ rfl⟩
theorem Inv.fresh (I : Inv X pins σ H s) : H s.heap.objs.size = none := I.hok.fresh (Nat.le_refl _)
theorem Inv.lstM (I : Inv X pins σ H s) (hH : H l = some (.lst xs)) : xs.length ≤ sizeLine ∧ ∃ (its : List Value) (n : Nat), Vals xs its ∧ xs.length = its.length ∧ s.heap.get? l = some { cls := .type "list", data := .seq its.toArray n } := by
  obtain ⟨z, its, n, r, e⟩ := I.hok l _ hH
  exact ⟨z, its, n, r, r.length, e⟩

end

section
variable {X : Cx}

/-! ### methods -/
noncomputable def rAppend : V → List V → Hp → VK → Prop := fun x vs H Q => ∃ l xs y, x = .ref l ∧ vs = [y] ∧ H l = some (.lst xs) ∧ xs.length < sizeLine ∧ Q .non (upd H l (.lst (xs ++ [y])))
theorem mt_append : MtM X "list.append" rAppend := by
  intro pins s σ H x vs v us Q I rx rv h
  obtain ⟨l, xs, y, rfl, rfl, hH, hz, q⟩ := h
  cases rx
  obtain ⟨u, rfl, ru⟩ := rv.one
  obtain ⟨z, its, n, r, hl, e⟩ := I.lstM hH
  refine call_meets F.slot_list_append ⟨_, e, rfl⟩ F.entry_list_append (F.args_list_append_2 _ _) (PySem.list_append l its.toArray n u (by rw [List.size_toArray]; omega)) ⟨e, ?_⟩
  refine ⟨.non, _, I.lset (its' := its ++ [u]) hH e (by simp) (r.append (.cons ru .nil)) ?_, rfl, q⟩
  rw [List.length_append, List.length_singleton]
  omega





noncomputable def rClear : V → List V → Hp → VK → Prop := fun x vs H Q => ∃ l xs, x = .ref l ∧ vs = [] ∧ H l = some (.lst xs) ∧ Q .non (upd H l (.lst []))
theorem mt_clear : MtM X "list.clear" rClear := by
  intro pins s σ H x vs v us Q I rx rv h
  obtain ⟨l, xs, rfl, rfl, hH, q⟩ := h
  cases rx
  have hus := rv.zero
  subst hus
  obtain ⟨z, its, n, r, hl, e⟩ := I.lstM hH
  refine call_meets F.slot_list_clear ⟨_, e, rfl⟩ F.entry_list_clear (F.args_list_clear_1 _) (AutoSeq1.list_clear_list_0 l its.toArray n (by rw [List.size_toArray]; omega)) ⟨e, ?_⟩
  exact ⟨.non, _, I.lset (its' := []) (ys := []) hH e rfl .nil (Nat.zero_le _), rfl, q⟩

/-! ### list + list, list += list, list * int -/
noncomputable def rCat : R2 := fun x y H Q => ∃ l b xs zs, x = .ref l ∧ y = .ref b ∧ H l = some (.lst xs) ∧ H b = some (.lst zs) ∧ xs.length + zs.length ≤ sizeLine ∧ ∀ p, H p = none → Q (.ref p) (upd H p (.lst (xs ++ zs)))
theorem op_cat : OpR X (binaryOp .Add) rCat := by
  intro pins s σ H x y v u Q I rx ry h
  obtain ⟨l, b, xs, zs, rfl, rfl, hH, hB, hz, q⟩ := h
  cases rx
  cases ry
  obtain ⟨z, its, n, r, hl, e⟩ := I.lstM hH
  obtain ⟨z2, its2, n2, r2, hl2, e2⟩ := I.lstM hB
  refine PySem.P.add_list e e2 ?_ (by rw [List.size_toArray, List.size_toArray]; omega)
  have ea : its.toArray ++ its2.toArray = (its ++ its2).toArray := by simp
  rw [ea]
  exact ⟨.ref _, _, I.lnew (t' := s.toks) (r.append r2) (by rw [List.length_append]; omega), rfl, q _ I.fresh⟩

/-! ### del xs[i] -/
end

/-! ### xs[a:b] = ys -/
section
variable {prog : Program} {w : World} {A : Around} {E : Value → Shared → Prop} {s : Shared}
set_option maxRecDepth 100000 in
end

section
variable {X : Cx}
end
end L2


namespace L2
open PySem PySem.Spec PyProof.Rows

/-! ### lists of pairs as tables -/
section
variable {κ : Type} [DecidableEq κ]



end


/-! ### a tracked dict, its keys ints and texts or tuples of these -/


section
variable {P : Program} {w : World} {H : Hp} {h : Heap} {a : Addr}
end



section
variable {X : Cx} {pins : List (Addr × Obj)} {σ : St} {H : Hp} {s : Shared} {a : Addr} {y v : V} {u r : Value} {o : Option V} {A : Around} {E : Value → Shared → Prop}


end

section
variable {X : Cx} {pins : List (Addr × Obj)} {σ : St} {H : Hp} {s : Shared} {a : Addr} {kvs : List (Key × V)} {k : Key} {u : Value} {A : Around} {E : Value → Shared → Prop}
end


/-! ### readings and rules -/



section
variable {X : Cx} {o i e value : Expr} {pos pos' tpos : Pos} {td ty tv : TE}
end


/-! ### displays -/
section
variable {X : Cx} {pos : Pos}
end




/-! ### methods -/


section
variable {X : Cx} {pins : List (Addr × Obj)} {σ : St} {H : Hp} {s : Shared} {a : Addr} {y d : V} {u r : Value} {o : Option V} {A : Around} {E : Value → Shared → Prop}
end

section
variable {X : Cx} {o e f : Expr} {apos cpos : Pos} {td ty tx : TE}
end

/-! ### dict(d): a copy -/
section
variable {X : Cx} {pins : List (Addr × Obj)} {σ : St} {H : Hp} {s : Shared} {a : Addr} {kvs : List (Key × V)} {A : Around} {E : Value → Shared → Prop}
end


section
variable {X : Cx} {pins : List (Addr × Obj)} {σ : St} {H : Hp} {s : Shared} {a : Addr} {y : V} {u : Value} {A : Around} {E : Value → Shared → Prop}
end
end L2

namespace Att
open PySem PySem.W PySem.Calls PyProof.Rows

/-! ### the script -/
theorem ints_of_wellAll {P : Params} {h : Heap} : ∀ (ns : List Int) (vs : List Value), WellAll P h vs (ns.map WData.int) → IntsAre vs ns := by
  intro ns
  induction ns with
  | nil =>
    intro vs w
    rw [List.map_nil] at w
    cases w
    exact .nil
  | cons n ns ih =>
    intro vs w
    rw [List.map_cons] at w
    cases w with
    | cons a b =>
      cases a
      exact .cons _ _ (ih _ b)

theorem script_of {l : OpenLaw} {n : Nat} (hn : l.most = some n) {P : Params} {h : Heap} {args : List WData} {vals : List Value}
    (hpre : l.row.toRowW.claim.pre args = true) (hwl : WellAll P h vals args) :
    ∃ a vs ns, vals = [Value.ref a] ∧ args = [WData.list (ns.map WData.int)] ∧ h.get? a = some { cls := .type "list", data := .seq vs.toArray } ∧ IntsAre vs ns ∧ ns.length ≤ n := by
  have hsh : WShape.hasAll [] args [.list .int] = true := (pre_splitW hpre).1
  have hc : l.pre.holds [] { args := args } = true := (pre_splitW hpre).2
  obtain ⟨d, r, rfl, h1, h2⟩ := hasAllW_cons hsh
  obtain rfl := hasAllW_nil h2
  obtain ⟨xs, rfl, h3⟩ := hasW_list h1
  obtain ⟨ns, rfl⟩ := items_int h3
  have hlen : ns.length ≤ n := by
    unfold OpenLaw.pre at hc
    have h4 : (WTm.not (.lt (.lit (.int (n : Int))) (.len (.arg 0)))).holds [] { args := [.list (ns.map .int)] } = true := by
      have h4 := (holds_andW hc).1
      rw [hn] at h4
      exact h4
    have h5 := condW_of h4 (w_not (w_lt w_lit (w_len_list (w_arg rfl))))
    rw [List.length_map] at h5
    refine Nat.le_of_not_lt fun q => ?_
    have q' : (n : Int) < ((ns.length : Nat) : Int) := by omega
    first
      | (rw [decide_eq_true q'] at h5; exact absurd h5 (by decide))
      | (simp at h5; omega)
  cases hwl with
  | cons w1 w2 =>
    cases w2
    cases w1 with
    | list ho hall => exact ⟨_, _, ns, rfl, rfl, ho, ints_of_wellAll ns _ hall, hlen⟩

theorem post_true (l : OpenLaw) (args : List WData) : l.row.toRowW.claim.post args (.bool true) args = true :=
  postW_of (r := l.row.toRowW) (X := (true == true))
    (show WShape.has [] (.bool true) .bool = true by first | rfl | decide | simp [WShape.has, WShape.arms, WShape.armsAll])
    (show (WTm.eq .res (.lit (.bool true))).value [] { args := args, res := some (.bool true), after := args } = some (.bool (true == true)) from w_eq_bool (w_res rfl) w_lit) rfl

/-! ### the attachment: holds_open's last premise (the goal 'hc' behind k_head) from a wpAny of the law's body -/

/-- the same from a codeAny of the CALL (for a layer whose function contracts speak of calls) -/
theorem attach_call {l : OpenLaw} {n : Nat} {q : Program} {loose : List Str} {XP : (Str → Option Value) → Heap → Prop} {YP : World → Heap → Prop} {d : DefRec}
    (hn : l.most = some n) (hdf : d.params.defaults = [])
    (call : ∀ (w : World) (s₀ s₁ : Shared) (mg mb : Str → Option Value) (fa : Addr) (o : Obj) (pm cd doc : Value) (a : Addr) (vs : List Value) (ns : List Int),
      Ground q loose [] XP w s₀ mg mb s₁.heap → YP w s₁.heap →
      s₁.heap.get? fa = some o → o.data = .func (docDef d.name d.params d.body d.scope pm cd doc) → s₁.heap.CodeRec cd d.name → mg d.name = some (.ref fa) →
      s₁.heap.get? a = some { cls := .type "list", data := .seq vs.toArray } → IntsAre vs ns → ns.length ≤ n → s₁.gens = #[] →
      codeAny (model l.prog w) callerA (.call (.ref fa) ⟨[.ref a], []⟩) (fun r s' => r = .ok (.ret (.bool true)) ∧ OldK s₁.heap s'.heap ∧ s'.os = s₁.os ∧ AllBare s'.gens) s₁) :
    WalkO q loose XP YP l.row.toRowW d [] (fun f vs => PySem.call f vs) := by
  intro w s₀ s₁ mg mb G Y fa o pm cd doc dV kV ho hd hcd hD hmg hg args vals as hpre hlay hrd hwl hlo
  obtain rfl : dV = .none := Dflts.none hD hdf
  obtain rfl : kV = .none := Dflts.noKw hD
  obtain ⟨a, vs, ns, rfl, rfl, hobj, hints, hlen⟩ := script_of hn hpre hwl
  refine enter_call (codeAny_mono (call w s₀ s₁ mg mb fa o pm cd doc a vs ns G Y ho (fd_plain hd) hcd hmg hobj hints hlen hg) fun r s' hq => ?_)
  obtain ⟨rfl, h2, h3, h4⟩ := hq
  exact ⟨.inl ⟨.bool true, .bool true, [], rfl, fun _ => rfl, .bool true, post_true l _, fun _ => ⟨List.Pairwise.nil, fun _ hm => (nomatch hm)⟩⟩, h2, h3, h4⟩


/-! ### rules over ANY heap (no ledger) from facts about the written part K: the library's own take a ledger (News) for what they write -/
section
variable {prog : Program} {w : World} {A : Around} {E : Value → Shared → Prop} {s : Shared} {K : Frag}





/-! the whole heap as the ledger: makes every rule that writes through a ledger a rule over any heap -/

end
end Att

namespace L2
open PySem PySem.Spec PyProof.Rows

theorem vals_ints : ∀ {vs : List Value} {ns : List Int}, IntsAre vs ns → Vals (ns.map V.int) vs
  | _, _, .nil => .nil
  | _, _, .cons n t h => .cons ⟨t, rfl⟩ (vals_ints h)

/-- nothing is tracked but the script, known to the object (or it is an object of the module) -/
noncomputable def Only (H : Hp) : Prop := ∀ b, H b = none ∨ ∃ o xs, H b = some (.frz o (.lst xs))

/-- THE HEAD: the law's promise, at the heap behind the top. F, the promise of the law's def, may use that base is part of the heap (so K.In base, base.Ns mainGlobals mg stand in Mod) -/
theorem law_call {P : Program} {w : World} {K : PySem.W.Frag} {mg mb : Str → Option Value} {CX : CXT} {k : Nat} {fa a : Addr} {fd : FuncData} {x : Str} {sp : Sp} {s₁ : Shared} {vs : List Value} {ns : List Int}
    (KX : K.In s₁.heap) (hns : s₁.heap.Ns mainGlobals mg) (hb : s₁.heap.Ns builtinsNs mb) (hbb : ∀ x : Str, x ≠ "__name__" → mb x = bootBuiltins x) (hlim : s₁.heap.NoLimit) (hg : s₁.gens = #[])
    (ha : s₁.heap.get? a = some { cls := .type "list", data := .seq vs.toArray }) (hi : IntsAre vs ns) (hl : ns.length ≤ sizeLine) (hr : Room k callerA)
    (F : ∀ base : Heap, K.In base → base.Ns mainGlobals mg → FnOk P w K mg base CX k fa fd [x] sp) (hbind : ∀ (s : Shared) (u : Value), BindsTo s fd ⟨[u], []⟩ [(x, u)])
    (hsp : ∀ H : Hp, Only H → SqL K H a (ns.map V.int) → sp [.ref a] H (fun v _ => v = .bl true) fun _ _ _ => False)
    (hCX : ∀ H e s', CX [] H s₁ (fun _ _ _ => False) e s' → False) :
    codeAny (model P w) callerA (.call (.ref fa) ⟨[.ref a], []⟩) (fun r s' => r = .ok (.ret (.bool true)) ∧ OldK s₁.heap s'.heap ∧ s'.os = s₁.os ∧ AllBare s'.gens) s₁ := by
  have rv := vals_ints hi
  have lenV := hi.length
  -- from an abstract heap in which nothing but the script may be tracked
  have core : ∀ H : Hp, Only H → SqL K H a (ns.map V.int) → HOk P w H s₁.heap → (∀ b, H b ≠ none → b = a) → (H a ≠ none → K.lookup a = none) →
      codeAny (model P w) callerA (.call (.ref fa) ⟨[.ref a], []⟩) (fun r s' => r = .ok (.ret (.bool true)) ∧ OldK s₁.heap s'.heap ∧ s'.os = s₁.os ∧ AllBare s'.gens) s₁ := by
    intro H hO hS hok hA hK
    have base_of : ∀ {b : Addr} {o : Obj}, s₁.heap.get? b = some o → H b = none → (hidT s₁.heap H).get? b = some o := fun e n => hidT_get e n
    have noA : ∀ {b : Addr} {o : Obj} {es : Array DictEntry} {ep : Nat}, s₁.heap.get? b = some o → o.data = .dict es ep → H b = none := fun {b o es ep} e d => by
      cases q : H b with
      | none => rfl
      | some u =>
        have e' : b = a := hA b (by rw [q]; simp)
        subst e'
        rw [ha] at e; cases e
        have d' : Data.seq vs.toArray _ = Data.dict es ep := d
        cases d'
    have nsK : ∀ {b : Addr} {m : Str → Option Value}, s₁.heap.Ns b m → (hidT s₁.heap H).Ns b m := fun {b m} ⟨o, es, ep, e, d, r⟩ => ⟨o, es, ep, base_of e (noA e d), d, r⟩
    have hKb : K.In (hidT s₁.heap H) := fun b o e => base_of (KX b o e) (by
      cases q : H b with
      | none => rfl
      | some u =>
        have e' : b = a := hA b (by rw [q]; simp)
        subst e'
        rw [hK (by rw [q]; simp)] at e; cases e)
    have hM : Mod K mg (hidT s₁.heap H) := ⟨hKb, nsK hns, ⟨mb, nsK hb, hbb⟩, let ⟨mc, h1, h2⟩ := hlim; ⟨mc, nsK h1, h2⟩⟩
    have e0 : Env0 P w K mg (hidT s₁.heap H) callerA [] s₁ H := ⟨rfl, hM, fun b o e => of_hidT e, Nat.le_of_eq (hidT_size _ _), trivial, fun b hb => absurd (show b ∈ ([] : List Addr) from hb) (by simp), hok, .of_eq hg⟩
    refine codeAny_mono ((F _ hKb (nsK hns)).run callerA [] s₁ H ⟨[.ref a], []⟩ [.ref a] [.ref a] _ _ hr e0 (hbind s₁ (.ref a)) (.cons rfl .nil) (hsp H hO hS)) fun r s' h => ?_
    cases r with
    | error e => exact (hCX H e s' h).elim
    | ok fl =>
      cases fl with
      | next => exact False.elim h
      | brk => exact False.elim h
      | cont => exact False.elim h
      | ret u =>
        obtain ⟨v, H', os, bare, un, hok', r', q⟩ := h
        have q' : v = .bl true := q
        subst q'
        obtain rfl : u = Value.bool true := r'
        refine ⟨rfl, OldK.of_keep fun b o e => ?_, os, bare⟩
        cases q : H b with
        | none => exact un.keep b o e q (by intro z; exact absurd (show b ∈ ([] : List Addr) from z) (by simp)) (by simp)
        | some u =>
          rcases hO b with z | ⟨ob, xs, z⟩
          · rw [q] at z; cases z
          · have z2 := un.frzs b ob _ z
            obtain ⟨e1, _⟩ := hok b _ z
            obtain ⟨e2, _⟩ := hok' b _ z2
            rw [e] at e1; cases e1
            exact e2
  cases hk : K.lookup a with
  | some o =>
    -- the script is one of the module's own objects
    have e := KX a o hk
    rw [ha] at e
    cases e
    refine core (fun _ => none) (fun _ => .inl rfl) (.inr ⟨_, vs.toArray, _, hk, rfl, rfl, rfl, by rw [List.size_toArray, lenV]; exact hl, by simpa using rv⟩) (fun b u z => by have z' : (none : Option HO) = some u := z; cases z') (fun b z => absurd rfl z) fun z => absurd rfl z
  | none =>
    refine core (fun b => if b = a then some (.frz { cls := .type "list", data := .seq vs.toArray } (.lst (ns.map V.int))) else none) (fun b => ?_) (.inl (.inr ⟨{ cls := .type "list", data := .seq vs.toArray }, if_pos rfl⟩)) (fun b u z => ?_) (fun b z => ?_) fun _ => hk
    · by_cases hb : b = a
      · exact .inr ⟨_, _, if_pos hb⟩
      · exact .inl (if_neg hb)
    · by_cases hb : b = a
      · have z' := (if_pos hb).symm.trans z
        cases z'
        subst hb
        exact ⟨ha, by rw [List.length_map]; exact hl, vs, _, rv, ha⟩
      · have z' := (if_neg hb).symm.trans z
        cases z'
    · by_cases hb : b = a
      · exact hb
      · exact absurd (if_neg hb) z
end L2

namespace L2
open PySem PySem.Spec PyProof.Rows


/-- the goal that k_head leaves (case hc), from the law's promise. F gives the function object fd (K's own) once, then the promise over every base -/
theorem walk_of {l : PySem.W.OpenLaw} {n k : Nat} {q : Program} {loose : List Str} {XP : (Str → Option Value) → Heap → Prop} {YP : World → Heap → Prop} {d : DefRec} {K : Params → PySem.W.Frag} {CX : World → CXT} {sp : World → Sp} {x : Str}
    (hn : l.most = some n) (hn2 : n ≤ sizeLine) (hdf : d.params.defaults = []) (hr : Room k callerA)
    (hY : ∀ (w : World) (h : Heap), YP w h → (K w.params).In h)
    (F : ∀ (w : World) (mg : Str → Option Value) (fa : Addr) (h : Heap), (K w.params).In h → h.Ns mainGlobals mg → mg d.name = some (.ref fa) →
      ∃ fd : FuncData, (∀ (s : Shared) (u : Value), BindsTo s fd ⟨[u], []⟩ [(x, u)]) ∧
        ∀ base : Heap, (K w.params).In base → base.Ns mainGlobals mg → FnOk l.prog w (K w.params) mg base (CX w) k fa fd [x] (sp w))
    (hsp : ∀ (w : World) (H : Hp) (a : Addr) (ns : List Int), ns.length ≤ n → Only H → SqL (K w.params) H a (ns.map V.int) → sp w [.ref a] H (fun v _ => v = .bl true) fun _ _ _ => False)
    (hCX : ∀ (w : World) (H : Hp) (s : Shared) (e : Value) (s' : Shared), CX w [] H s (fun _ _ _ => False) e s' → False) :
    PySem.W.WalkO q loose XP YP l.row.toRowW d [] (fun f vs => PySem.call f vs) := by
  refine Att.attach_call hn hdf fun w s₀ s₁ mg mb fa o pm cd doc a vs ns G Y ho hd hcd hmg hobj hints hlen hg => ?_
  have KX := hY w _ Y
  obtain ⟨fd, hb, hF⟩ := F w mg fa _ KX G.T.g hmg
  exact law_call KX G.T.g G.T.b G.T.builtins G.T.nolimit hg hobj hints (Nat.le_trans hlen hn2) hr hF hb (fun H hO hS => hsp w H a ns hlen hO hS) fun H e s' => hCX w H s₁ e s'
end L2

/- THE LAST THEOREM (shape; LID, My.* are yours):
   My.Adr: a structure of the addresses that your layer names (classes, functions); My.Txt K t: a structure (Prop) of the equations over K;
   My.txt_mk : {K} {implicit addresses ..} (e1 : nsIn K mainGlobals "law" = some (some (.ref f))) (e2 : K.lookup f = some ⟨oc, od, .func (fnOf "law" "law" params body scope dV kV doc pm an cdv ct), sl⟩) (e3 : codeIn K cdv "law" = true) .. : ∃ t, My.Txt K t

set_option maxRecDepth 100000 in
set_option maxHeartbeats 0 in
theorem PySem.Challenge.cw_LID_holds : PySem.Challenge.rw_LID.Holds := by
  w_on; o_law; k_head; (case hw => w_witness2)
  k_fill
  refine L2.walk_of (l := PySem.Challenge.rw_LID) (n := 63) (k := 40) (x := "script") (CX := fun w => ..) (sp := fun _ => My.sp_law) rfl (by decide) rfl ⟨rfl, by decide, by decide⟩ (fun w h Y => PySem.W.kIn_of Y) ?F ?S ?C
  case F =>
    intro w mg fa h KX G hmg
    have T : ∃ t, My.Txt (L2.KOf KX) t := by
      dsimp only [L2.KOf]                          -- K must stand as «<heap const> w.params» for k_is
      refine' My.txt_mk ?e1 ?e2 ?e3 ..
      (case e1 => PySem.W.k_is)                    -- in the order: a name -> its address -> its object -> its parts
      (case e2 => PySem.W.k_is)
      ..
    obtain ⟨t, T⟩ := T
    have e0 := hmg.symm.trans (PySem.W.mg_of KX G T.law)
    cases e0                                       -- fa is the law's own address
    exact ⟨_, fun s u => .of_eq rfl, fun base kb nb => My.law_fn T kb nb⟩     -- if «.of_eq rfl» comes too early: refine' ⟨_, ?b, fun base kb nb => My.law_fn T kb nb⟩; exact fun s u => .of_eq rfl
  case S => exact fun w H a ns hl hO hS => ..
  case C => exact ..
(the tactic k_is has no namespace: write k_is) -/

/-! SHORT WORDS over the layer: a def of the text, its body, what a loop and a test want. -/
namespace L2
open PySem PySem.Spec PyProof.Rows

/-! ### the text by places -/
noncomputable def defArgs (s : Stmt) : Arguments := match s with
  | .FunctionDef _ a _ _ _ _ _ _ _ _ => a
  | _ => { posonlyargs := [], args := [], vararg := none, kwonlyargs := [], kw_defaults := [], kwarg := none, defaults := [] }
noncomputable def defBody (s : Stmt) : List Stmt := match s with
  | .FunctionDef _ _ b _ _ _ _ _ _ _ => b
  | _ => []
noncomputable def defScope (s : Stmt) : Scope := match s with
  | .FunctionDef _ _ _ _ _ _ sc _ _ _ => sc
  | _ => { kind := .function, names := [], isGenerator := false, isCoroutine := false }

/-! ### no exception leaves a def -/
noncomputable abbrev CX0 : CXT := fun _ _ _ _ _ _ => False
noncomputable abbrev E0 : XK := fun _ _ _ => False
theorem pass0 {X : Cx} : Passes CX0 X E0 := fun _ _ _ _ _ _ _ h => h.elim

/-! ### a def (or method) of the text as it stands behind the top -/
structure Fun (K : PySem.W.Frag) (x qual : Str) (st : Stmt) (f : Addr) (fd : FuncData) : Prop where
  ex : ∃ (oc : Value) (od : Option Addr) (kV doc pm : Value) (an : Option Addr) (cdv ct : Value) (osl : Array (Option Value)),
    fd = PySem.W.fnOf x qual (defArgs st) (defBody st) (defScope st) .none kV doc pm an cdv ct ∧ K.lookup f = some ⟨oc, od, .func fd, osl⟩ ∧ PySem.W.codeIn K cdv qual = true
  kp : PySem.W.keepIn K (.ref f) = true
section
variable {P : Program} {w : World} {K : PySem.W.Frag} {mg : Str → Option Value} {base : Heap}
/-- THE RULE for a def: its body as a term of rules, and the reading of that term -/
theorem Fun.ok {x qual : Str} {st : Stmt} {f : Addr} {fd : FuncData} {N ps : List Str} {k : Nat} {sp : Sp} (F : Fun K x qual st f fd) (S : FnScope N ps (defScope st)) (len : ∀ vs H Q E, sp vs H Q E → vs.length = ps.length)
    (hbody : ∀ (cdv : Value) (A : Around) (outer : List Env) (s : Shared) (H : Hp) (vs : List V) (Q : VK) (E : XK), Room k (A.deeper (envOfC qual (defScope st) s.heap.objs.size f cdv)) → sp vs H Q E →
      ∃ t, PSs (cxOf CX0 P w K mg base N qual (defScope st) f cdv A outer s H E).nox (defBody st) t ∧ t { nx := fun _ H' => Q .non H', rt := Q } (start N vs) H) : FnOk P w K mg base CX0 (k + 1) f fd ps sp := by
  obtain ⟨oc, od, kV, doc, pm, an, cdv, ct, osl, rfl, lk, hcd⟩ := F.ex
  refine fn_of lk hcd S len fun A outer s H vs Q E hr hsp => ?_
  obtain ⟨t, h, q⟩ := hbody cdv A outer s H vs Q E hr hsp
  exact ⟨t, h.nox, q⟩
/-- how its arguments bind (no defaults): h is «fun _ _ _ _ _ _ us hl => match us, hl with | [_, _], _ => rfl», one _ a parameter -/
theorem Fun.binds {x qual : Str} {st : Stmt} {f : Addr} {fd : FuncData} {ps : List Str} (F : Fun K x qual st f fd)
    (h : ∀ (kV doc pm : Value) (an : Option Addr) (cdv ct : Value) (us : List Value), us.length = ps.length → bindArgs (PySem.W.fnOf x qual (defArgs st) (defBody st) (defScope st) .none kV doc pm an cdv ct) ⟨us, []⟩ = pure (ps.zip us)) : Binds K fd ps [] := by
  obtain ⟨oc, od, kV, doc, pm, an, cdv, ct, osl, rfl, lk, hcd⟩ := F.ex
  exact .all (h kV doc pm an cdv ct)
theorem fun_mk {x qual : Str} {st : Stmt} {f : Addr} {oc : Value} {od an : Option Addr} {osl : Array (Option Value)} {kV doc pm cdv ct : Value} (l : K.lookup f = some ⟨oc, od, .func (PySem.W.fnOf x qual (defArgs st) (defBody st) (defScope st) .none kV doc pm an cdv ct), osl⟩)
    (c : PySem.W.codeIn K cdv qual = true) (k : PySem.W.keepIn K (.ref f) = true) : Fun K x qual st f (PySem.W.fnOf x qual (defArgs st) (defBody st) (defScope st) .none kV doc pm an cdv ct) := ⟨⟨oc, od, kV, doc, pm, an, cdv, ct, osl, rfl, l, c⟩, k⟩
end
theorem small1000 {n : Nat} (h : n ≤ 1000) : n < sizeLine := Nat.lt_of_le_of_lt h (by decide)

/-! ### expressions in short: the name that stands in the i-th slot -/
section
variable {X : Cx}
end

/-! ### tests -/
theorem iteF {A B : Prop} (h : B) : if false = true then A else B := by
  rw [if_neg Bool.false_ne_true]
  exact h
theorem iteT {A B : Prop} (h : A) : if true = true then A else B := by
  rw [if_pos rfl]
  exact h
theorem ite2 {c A B : Prop} [Decidable c] (h1 : c → A) (h2 : ¬ c → B) : if c then A else B := by
  by_cases h : c
  · rw [if_pos h]
    exact h1 h
  · rw [if_neg h]
    exact h2 h

/-! ### heaps -/
/-- all that was tracked is as it was -/
noncomputable def Same (H H' : Hp) : Prop := ∀ b o, H b = some o → H' b = some o
theorem Same.refl (H : Hp) : Same H H := fun _ _ h => h
theorem Same.trans {H H1 H2 : Hp} (a : Same H H1) (b : Same H1 H2) : Same H H2 := fun c o h => b c o (a c o h)
theorem Same.free {H H' : Hp} (e : Same H H') {l : Addr} (h : H' l = Option.none) : H l = Option.none := by
  cases q : H l with
  | none => rfl
  | some o =>
    rw [e l o q] at h
    cases h
theorem Same.seq {K : PySem.W.Frag} {H H' : Hp} {a : Addr} {xs : List V} (e : Same H H') (h : SqL K H a xs) : SqL K H' a xs := by
  rcases h with (h | ⟨o, h⟩) | h
  · exact .inl (.inl (e _ _ h))
  · exact .inl (.inr ⟨o, e _ _ h⟩)
  · exact .inr h

/-! ### a dict's pairs: keys that differ -/
section
variable {κ : Type} [DecidableEq κ]
end
end L2


namespace GM
/-! Whole numbers: divisors, lowest ratios, sizes. -/



end GM


set_option Elab.async false
set_option linter.all false
set_option maxRecDepth 100000
/-! MY RULES over the hand layer -/
namespace L2
open PySem PySem.Spec PyProof.Rows

/-! ### argument lists without stars: by a look at each item's head alone -/
noncomputable def noStar : Expr → Bool
  | .Starred _ _ => false
  | _ => true
theorem star_cons {e : Expr} {es : List Expr} {env : Env} (h : noStar e = true) : starEach (e :: es) env = (false, eval e env) :: starEach es env := by
  cases e <;> first | rfl | cases h
theorem star_any {pos : Pos} {env : Env} : ∀ {es : List Expr}, es.all noStar = true → (backTo pos (starEach es env)).any (·.1) = false
  | [], _ => rfl
  | e :: es, h => by
    rw [List.all_cons, Bool.and_eq_true] at h
    rw [star_cons h.1]
    show (false || (backTo pos (starEach es env)).any (·.1)) = false
    rw [star_any h.2]; rfl
theorem all_cons1 {e : Expr} {es : List Expr} (h : (e :: es).all noStar = true) : noStar e = true ∧ es.all noStar = true := by
  rw [List.all_cons, Bool.and_eq_true] at h; exact h
section
variable {X : Cx} {e o : Expr} {es : List Expr} {te : TE} {t : TA} {pos p : Pos}
theorem pa_c (ha : PE X e te) (hr : PA X es t) (hs : noStar e = true := by rfl) : PA X (e :: es) (tCons te t) := pa_cons ha hr (star_cons hs)
theorem pe_cB {x : Str} {id : String} {r : List V → Hp → VK → Prop} (hc : CallR X (.builtin id) r) (hg : Gl X x) (hm : X.mg x = none) (hv : bootBuiltins x = some (.builtin id)) (ha : PA X (e :: es) t) (hs : (e :: es).all noStar = true := by rfl)
    (hn : x ≠ "__name__" := by decide) (hdb : (x == ("__debug__" : Str)) = false := by decide) : PE X (.Call (.Name x p) (e :: es) [] pos) (tCB r t) :=
  pe_callB hc hg hm hv ha hn hdb (star_cons (all_cons1 hs).1) (star_any (all_cons1 hs).2)
theorem pe_cTy {x : Str} {T : String} {r : List V → Hp → VK → Prop} (hc : CallR X (.type T) r) (hg : Gl X x) (hm : X.mg x = none) (hv : bootBuiltins x = some (.type T)) (ha : PA X (e :: es) t) (hs : (e :: es).all noStar = true := by rfl)
    (hn : x ≠ "__name__" := by decide) (hdb : (x == ("__debug__" : Str)) = false := by decide) : PE X (.Call (.Name x p) (e :: es) [] pos) (tCB r t) :=
  pe_callTy hc hg hm hv ha hn hdb (star_cons (all_cons1 hs).1) (star_any (all_cons1 hs).2)
theorem few1 {env : Env} {cpos : Pos} (h : noStar e = true) : ((backTo cpos (starEach [e] env)).all (fun x => !x.1) && (backToKw cpos (keywordEach [] env)).all (fun x => x.1.isSome)
      && decide (([e] : List Expr).length + ([] : List Keyword).length + (if ([] : List Keyword).isEmpty then 0 else 1) < 30)) = true := by
  rw [star_cons h]; rfl
theorem pe_append {to : TE} {apos cpos : Pos} (ho : PE X o to) (ha : PA X [e] t) (hs : noStar e = true := by rfl) (hbase : attributeBase o "append" X.env (eval o X.env) = eval o X.env := by rfl) (hline : (apos.endLine == cpos.line) = true := by rfl) :
    PE X (.Call (.Attribute o "append" apos) [e] [] cpos) (tBM X.K "list" rAppend to t) :=
  pe_bm PySem.F.plainAttrs_list PySem.F.slot_list_append PySem.F.type_list_append mt_append ho ha hbase (few1 hs) hline (star_cons hs) rfl
end

/-! ### kinds of values, isinstance -/
inductive Nm where | non | bl | int | str | lst | tup | dct
  deriving DecidableEq
noncomputable def Nm.s : Nm → String
  | .non => "NoneType" | .bl => "bool" | .int => "int" | .str => "str" | .lst => "list" | .tup => "tuple" | .dct => "dict"
noncomputable def isN (n m : Nm) : Bool := decide (n = m) || (decide (n = .bl) && decide (m = .int))
noncomputable def bT (T U : String) : Option Bool := if (Value.type T == Value.type U) = true then some true else if PySem.W.kitMeta U = true then (fastBuiltinMro T).map (·.contains (Value.type U)) else none
theorem kitOne_bT (K : PySem.W.Frag) (T U : String) : PySem.W.kitOne K (.type T) (.type U) = bT T U := rfl
theorem bT_all (n m : Nm) : bT n.s m.s = some (isN n m) := by
  cases n <;> cases m <;> decide +kernel
noncomputable abbrev KindIs (K : PySem.W.Frag) (H : Hp) (v : V) (n : Nm) : Prop := TyOf K H v (.type (Nm.s n))
noncomputable def rIsi (K : PySem.W.Frag) (m : Nm) : List V → Hp → VK → Prop := fun xs H Q => ∃ x n, xs = [x, .ty (Nm.s m)] ∧ KindIs K H x n ∧ Q (.bl (isN n m)) H
theorem call_isinst {X : Cx} (m : Nm) : CallR X (.builtin "isinstance") (rIsi X.K m) := by
  intro pins s σ H xs us Q I r h
  obtain ⟨x, n, rfl, ty, q⟩ := h
  obtain ⟨u, u', rfl, ru, ru'⟩ := vals2 r
  cases ru'
  exact isinst_ok I ru ty ((kitOne_bT _ _ _).trans (bT_all n m)) fun tk => ⟨.bl (isN n m), H, I.tok tk, rfl, q⟩
theorem nm_ne (m : Nm) : (Str.ofString (Nm.s m)) ≠ "__name__" := by cases m <;> decide +kernel
theorem nm_db (m : Nm) : ((Str.ofString (Nm.s m)) == ("__debug__" : Str)) = false := by cases m <;> decide +kernel
theorem boot_nm (m : Nm) (h : m ≠ .non) : bootBuiltins (Str.ofString (Nm.s m)) = some (.type (Nm.s m)) := by
  cases m
  · exact absurd rfl h
  · exact boot_bool
  · exact boot_int
  · exact boot_str
  · exact boot_list
  · exact boot_tuple
  · exact boot_dict
theorem pe_isi {X : Cx} (m : Nm) {e : Expr} {te : TE} {p p2 pos : Pos} (hg : Gl X "isinstance") (hm : X.mg "isinstance" = none) (hgT : Gl X (Str.ofString (Nm.s m))) (hmT : X.mg (Str.ofString (Nm.s m)) = none) (ha : PE X e te) (h0 : m ≠ .non := by decide) (hs : noStar e = true := by rfl) :
    PE X (.Call (.Name "isinstance" p) [e, .Name (Str.ofString (Nm.s m)) p2] [] pos) (tCB (rIsi X.K m) (tCons te (tCons (tC (.ty (Nm.s m))) tNil))) :=
  pe_cB (call_isinst m) hg hm boot_isinstance (pa_c ha (pa_c (pe_bltn hgT hmT (boot_nm m h0) rfl (nm_ne m) (nm_db m)) pa_nil) hs) (by rw [List.all_cons, hs]; rfl)

/-! ### operations -/
section
variable {X : Cx} {a b c : Expr} {ta tb tc : TE} {pos : Pos}
theorem op_mulB : OpR X (binaryOp .Mult) (rI IntMulOk fun i j => .int (i * j)) := opI fun _ _ _ _ _ _ _ hc q => mul_int q hc
end
theorem mulOk_small {i j : Int} (h : j.natAbs < 2 ^ 64) : IntMulOk i j := IntMulOk.of_right (intBits_le_64 (by omega) (by omega))
theorem mulOk_left {i j : Int} (h : i.natAbs < 2 ^ 64) : IntMulOk i j := IntMulOk.of_left (intBits_le_64 (by omega) (by omega))

/-! ### defs -/
structure DefOk (P : Program) (w : World) (K : PySem.W.Frag) (mg : Str → Option Value) (base : Heap) (k : Nat) (x : Str) (ps : List Str) (dvs : List V) (sp : Sp) : Prop where
  ex : ∃ (f : Addr) (fd : FuncData) (ds : List Value), FnOk P w K mg base CX0 k f fd ps sp ∧ Binds K fd ps ds ∧ Vals dvs ds ∧ PySem.W.keepIn K (.ref f) = true ∧ mg x = some (.ref f)
theorem pe_callD {X : Cx} {k j : Nat} {x : Str} {ps : List Str} {dvs : List V} {sp : Sp} {p pos : Pos} {e : Expr} {es : List Expr} {t : TA}
    (D : DefOk X.prog X.w X.K X.mg X.base k x ps dvs sp) (hr : Room j X.A) (hj : k ≤ j) (hg : Gl X x) (ha : PA X (e :: es) t) (hs : (e :: es).all noStar = true := by rfl)
    (hdb : (x == ("__debug__" : Str)) = false := by decide) :
    PE X (.Call (.Name x p) (e :: es) [] pos) (tCall sp dvs E0 t) := by
  obtain ⟨f, fd, ds, F, b, hd, kp, m⟩ := D.ex
  exact pe_call F (hr.mono hj) hg m kp b hd pass0 ha hdb (star_cons (all_cons1 hs).1) (star_any (all_cons1 hs).2)
section
variable {P : Program} {w : World} {K : PySem.W.Frag} {mg : Str → Option Value} {base : Heap}
end
theorem same_new {H : Hp} {p : Addr} (h : H p = none) (o : HO) : Same H (upd H p o) := fun b u q => by rw [upd_ne (ne_of_none q h)]; exact q
end L2


set_option Elab.async false
set_option linter.all false
set_option maxRecDepth 100000
/-! texts written by f-strings -/
namespace L2
open PySem PySem.Spec PyProof.Rows
end L2


set_option Elab.async false
set_option linter.all false
set_option maxRecDepth 100000
/-! THE RULES, their judgements shut: nothing is unfolded where a term of rules is elaborated -/
namespace L2
open PySem PySem.Spec PyProof.Rows
structure QE (X : Cx) (e : Expr) (t : TE) : Prop where h : PE X e t
structure QT (X : Cx) (e : Expr) (t : TT) : Prop where h : PT X e t
structure QW (X : Cx) (e : Expr) (t : TT) : Prop where h : PW X e t
structure QA (X : Cx) (es : List Expr) (t : TA) : Prop where h : PA X es t
structure QS (X : Cx) (st : Stmt) (t : TS) : Prop where h : PS X st t
structure QSs (X : Cx) (st : List Stmt) (t : TS) : Prop where h : PSs X st t
structure QO (X : Cx) (e : Option Expr) (t : TO) : Prop where h : PO X e t
structure QI (X : Cx) (tg iter : Expr) (wi : TI) : Prop where h : PI X tg iter wi
structure QG (X : Cx) (tg : Expr) (t : TG) : Prop where h : PG X tg t
/-- no comprehension -/
noncomputable def noComp : Expr → Bool
  | .ListComp _ _ _ _ => false
  | .SetComp _ _ _ _ => false
  | .DictComp _ _ _ _ _ => false
  | _ => true
theorem swaps_no {e : Expr} {tg : Option Expr} {l : Nat} {env : Env} (h : noComp e = true) : swapsWith e tg l env = pure false := by
  cases e <;> first | rfl | cases h
namespace R
section
variable {X : Cx} {a b c e o : Expr} {es rest : List Expr} {ta tb tc te : TE} {tA tB' : TT} {t : TA} {pos p : Pos}
theorem pv (i : Nat) {x : Str} (hN : X.N[i]? = some x := by rfl) (hv : Vis X.env.scope x := by first | exact Or.inl rfl | exact Or.inr (Or.inl rfl) | exact Or.inr (Or.inr rfl)) (hd : (x == ("__debug__" : Str)) = false := by decide)
    (hcd : (x == ("__classdict__" : Str)) = false := by decide) : QE X (.Name x pos) (tVar i) := ⟨pe_var hN hv hd hcd⟩
theorem pe_int {i : Int} {j : Nat} : QE X (.Constant (.int i) j pos) (tC (.int i)) := ⟨L2.pe_int⟩
theorem pe_bl {k : Bool} {j : Nat} : QE X (.Constant (.bool k) j pos) (tC (.bl k)) := ⟨L2.pe_bl⟩
theorem pe_str {x : Str} {j : Nat} : QE X (.Constant (.str x) j pos) (tC (.str x)) := ⟨L2.pe_str⟩
theorem pe_op {op : Operator} {r : R2} (ho : OpR X (binaryOp op) r) (ha : QE X a ta) (hb : QE X b tb) : QE X (.BinOp a op b pos) (tOp r ta tb) := ⟨L2.pe_op ho ha.h hb.h⟩
theorem pe_un {op : UnaryOp} {r : V → Hp → VK → Prop} (ho : UnR X (unaryOp op) r) (ha : QE X a ta) : QE X (.UnaryOp op a pos) (tUn r ta) := ⟨L2.pe_un ho ha.h⟩
theorem pe_not (ha : QE X a ta) : QE X (.UnaryOp .Not a pos) (tNotV ta) := ⟨L2.pe_not ha.h⟩
theorem pe_one {op : BoolOp} (h : QE X a ta) : QE X (.BoolOp op [a] pos) ta := ⟨L2.pe_one h.h⟩
theorem pe_and (ha : QE X a ta) (hb : QE X (.BoolOp .And (b :: rest) pos) tb) : QE X (.BoolOp .And (a :: b :: rest) pos) (tAndV ta tb) := ⟨L2.pe_and ha.h hb.h⟩
theorem pe_cmpR {op : CmpOp} {r : R2} (ho : OpR X (compareOp op) r) (ha : QE X a ta) (hb : QE X b tb) (hm : behindInMarks op b = false) : QE X (.Compare a [op] [b] pos) (tOp r ta tb) := ⟨L2.pe_cmpR ho ha.h hb.h hm⟩
theorem pe_ifExp (hc : QT X c tA) (ha : QE X a ta) (hb : QE X b tb) : QE X (.IfExp c a b pos) (tIf tA ta tb) := ⟨L2.pe_ifExp hc.h ha.h hb.h⟩
theorem po_none : QO X none tNoPart := ⟨L2.po_none⟩
theorem po_some (h : QE X e te) : QO X (some e) (tPart te) := ⟨L2.po_some h.h⟩
theorem pe_slice {lo hi : Option Expr} {tl th : TO} {p2 : Pos} {r : V → Option Int → Option Int → Hp → VK → Prop} (hr : SlR X r) (he : QE X e te) (hl : QO X lo tl) (hu : QO X hi th) : QE X (.Subscript e (.Slice lo hi none p2) pos) (tSl r te tl th) := ⟨L2.pe_slice hr he.h hl.h hu.h⟩
theorem pe_ix {r : R2} (hr : IxR X r) (ha : QE X a ta) (hb : QE X b tb) (hs : PlainIx b) : QE X (.Subscript a b pos) (tOp r ta tb) := ⟨L2.pe_ix hr ha.h hb.h hs⟩
theorem pa_nil : QA X [] tNil := ⟨L2.pa_nil⟩
theorem pa_c (ha : QE X e te) (hr : QA X es t) (hs : noStar e = true := by rfl) : QA X (e :: es) (tCons te t) := ⟨L2.pa_c ha.h hr.h hs⟩
theorem pe_lst (h : QA X es t) : QE X (.List es pos) (tLst t) := ⟨L2.pe_lst h.h⟩
theorem pe_tup {x1 : Nat} (h : QA X es t) : QE X (.Tuple es x1 pos) (tTup t) := ⟨L2.pe_tup h.h⟩
theorem pe_callD {k j : Nat} {x : Str} {ps : List Str} {dvs : List V} {sp : Sp} (D : DefOk X.prog X.w X.K X.mg X.base k x ps dvs sp) (hr : Room j X.A) (hj : k ≤ j) (hg : Gl X x) (ha : QA X (e :: es) t) (hs : (e :: es).all noStar = true := by rfl)
    (hdb : (x == ("__debug__" : Str)) = false := by decide) : QE X (.Call (.Name x p) (e :: es) [] pos) (tCall sp dvs E0 t) := ⟨L2.pe_callD D hr hj hg ha.h hs hdb⟩
theorem pe_isi (m : Nm) {p2 : Pos} (hg : Gl X "isinstance") (hm : X.mg "isinstance" = none) (hgT : Gl X (Str.ofString (Nm.s m))) (hmT : X.mg (Str.ofString (Nm.s m)) = none) (ha : QE X e te) (h0 : m ≠ .non := by decide) (hs : noStar e = true := by rfl) :
    QE X (.Call (.Name "isinstance" p) [e, .Name (Str.ofString (Nm.s m)) p2] [] pos) (tCB (rIsi X.K m) (tCons te (tCons (tC (.ty (Nm.s m))) tNil))) := ⟨L2.pe_isi m hg hm hgT hmT ha.h h0 hs⟩
theorem pe_cB {x : Str} {id : String} {r : List V → Hp → VK → Prop} (hc : CallR X (.builtin id) r) (hg : Gl X x) (hm : X.mg x = none) (hv : bootBuiltins x = some (.builtin id)) (ha : QA X (e :: es) t) (hs : (e :: es).all noStar = true := by rfl)
    (hn : x ≠ "__name__" := by decide) (hdb : (x == ("__debug__" : Str)) = false := by decide) : QE X (.Call (.Name x p) (e :: es) [] pos) (tCB r t) := ⟨L2.pe_cB hc hg hm hv ha.h hs hn hdb⟩
theorem pe_cTy {x : Str} {T : String} {r : List V → Hp → VK → Prop} (hc : CallR X (.type T) r) (hg : Gl X x) (hm : X.mg x = none) (hv : bootBuiltins x = some (.type T)) (ha : QA X (e :: es) t) (hs : (e :: es).all noStar = true := by rfl)
    (hn : x ≠ "__name__" := by decide) (hdb : (x == ("__debug__" : Str)) = false := by decide) : QE X (.Call (.Name x p) (e :: es) [] pos) (tCB r t) := ⟨L2.pe_cTy hc hg hm hv ha.h hs hn hdb⟩
theorem pe_append {to : TE} {apos cpos : Pos} (ho : QE X o to) (ha : QA X [e] t) (hs : noStar e = true := by rfl) (hbase : attributeBase o "append" X.env (eval o X.env) = eval o X.env := by rfl) (hline : (apos.endLine == cpos.line) = true := by rfl) :
    QE X (.Call (.Attribute o "append" apos) [e] [] cpos) (tBM X.K "list" rAppend to t) := ⟨L2.pe_append ho.h ha.h hs hbase hline⟩
theorem pt_cmpR {op : CmpOp} {r : R2} (ho : OpR X (compareOp op) r) (ha : QE X a ta) (hb : QE X b tb) (hm : behindInMarks op b = false) : QT X (.Compare a [op] [b] pos) (tTest (tOp r ta tb)) := ⟨L2.pt_cmpR ho ha.h hb.h hm⟩
theorem pw_and1 (ha : QT X a tA) : QW X (.BoolOp .And [a] pos) tA := ⟨L2.pw_and1 ha.h⟩
theorem pw_or1 (ha : QT X a tA) : QW X (.BoolOp .Or [a] pos) tA := ⟨L2.pw_or1 ha.h⟩
theorem pw_and (ha : QT X a tA) (hb : QW X (.BoolOp .And (b :: rest) pos) tB') : QW X (.BoolOp .And (a :: b :: rest) pos) (tAnd tA tB') := ⟨L2.pw_and ha.h hb.h⟩
theorem pw_or (ha : QT X a tA) (hb : QW X (.BoolOp .Or (b :: rest) pos) tB') : QW X (.BoolOp .Or (a :: b :: rest) pos) (tOr tA tB') := ⟨L2.pw_or ha.h hb.h⟩
theorem pt (h : QW X e tA) : QT X e tA := ⟨PW.pt h.h⟩
theorem pt_not (ha : QT X a tA) : QT X (.UnaryOp .Not a pos) (tNot tA) := ⟨L2.pt_not ha.h⟩
theorem pt_val (h : QE X e te) (he : ∀ whole, isTrue e X.env whole = (do let v ← whole; standAt e.pos; holding [v] (truthy v)) := by intro _; rfl) : QT X e (tB te) := ⟨L2.pt_val h.h he⟩
end
section
variable {X : Cx} {c e : Expr} {te : TE} {tc : TT} {st : Stmt} {sts body orelse : List Stmt} {t u tb : TS} {pos : Pos}
theorem ps_ret (he : QE X e te) : QS X (.Return (some e) pos) (tRet te) := ⟨L2.ps_ret he.h⟩
theorem ps_never : QS X st tNever := ⟨L2.ps_never⟩
theorem ps_expr (he : QE X e te) (hs : noComp e = true := by rfl) : QS X (.Expr e pos) (tDrop te) := ⟨L2.ps_expr he.h (swaps_no hs)⟩
theorem ps_set {i : Nat} {x : Str} {pos' : Pos} (hN : X.N.Nodup) (hi : X.N[i]? = some x) (hx : Loc X.env.scope x) (he : QE X e te) (hs : noComp e = true := by rfl) (hf : X.fn x = true ∨ X.env.scope.names.lookup x = some .local := by first | exact .inl rfl | exact .inr rfl | assumption) :
    QS X (.Assign [.Name x pos'] e pos) (tAsg te (gName i)) := ⟨L2.ps_set hN hi hx he.h (swaps_no hs) hf⟩
theorem ps_if (hc : QT X c tc) (ha : QSs X body t) (hb : QSs X orelse u) : QS X (.If c body orelse pos) (tIfS tc t u) := ⟨L2.ps_if hc.h ha.h hb.h⟩
theorem ps_for {tg iter : Expr} {wi : TI} {g : TG} (hp : PassesOwn (model X.prog X.w) X.A X.env X.xe) (hc : X.calm = true) (hi : QI X tg iter wi) (hg : QG X tg g) (hb : QSs X body tb)
    (hs : ∀ x, foldedSetIterable iter X.env x = pure x := by intro _; rfl) : QS X (.For tg iter body [] pos) (tFor wi g tb) := ⟨L2.ps_for hp hc hi.h hg.h hb.h hs⟩
theorem pi_list {tg : Expr} (hl : QE X e te) : QI X tg e (iList X.K te) := ⟨L2.pi_list hl.h⟩
theorem pi_range1 {tg a : Expr} {ta : TA} {p : Pos} (hg : Gl X "range") (hm : X.mg "range" = none) (ha : QA X [a] ta) (hs : noStar a = true := by rfl) : QI X tg (.Call (.Name "range" p) [a] [] pos) (iRng1 ta) := ⟨L2.pi_range1 hg hm ha.h (star_cons hs)⟩
theorem pg_name {i : Nat} {x : Str} (hN : X.N.Nodup) (hi : X.N[i]? = some x) (hx : Loc X.env.scope x) (hf : X.fn x = true ∨ X.env.scope.names.lookup x = some .local := by first | exact .inl rfl | exact .inr rfl | assumption) : QG X (.Name x pos) (gName i) := ⟨L2.pg_name hN hi hx hf⟩
theorem pss_nil : QSs X [] tNext := ⟨L2.pss_nil⟩
theorem pss_one (h1 : QS X st t) : QSs X [st] t := ⟨L2.pss_one h1.h⟩
theorem pss_cons (h1 : QS X st t) (h2 : QSs X sts u) : QSs X (st :: sts) (tSeq t u) := ⟨L2.pss_cons h1.h h2.h⟩
end
end R
section
variable {P : Program} {w : World} {K : PySem.W.Frag} {mg : Str → Option Value} {base : Heap}
theorem Fun.okQ {x qual : Str} {st : Stmt} {f : Addr} {fd : FuncData} {N ps : List Str} {k : Nat} {sp : Sp} (F : Fun K x qual st f fd) (S : FnScope N ps (defScope st)) (len : ∀ vs H Q E, sp vs H Q E → vs.length = ps.length)
    (hbody : ∀ (cdv : Value) (A : Around) (outer : List Env) (s : Shared) (H : Hp) (vs : List V) (Q : VK) (E : XK), Room k (A.deeper (envOfC qual (defScope st) s.heap.objs.size f cdv)) → sp vs H Q E →
      ∃ t, QSs (cxOf CX0 P w K mg base N qual (defScope st) f cdv A outer s H E).nox (defBody st) t ∧ t { nx := fun _ H' => Q .non H', rt := Q } (start N vs) H) : FnOk P w K mg base CX0 (k + 1) f fd ps sp :=
  F.ok S len fun cdv A outer s H vs Q E hr h => let ⟨t, q, r⟩ := hbody cdv A outer s H vs Q E hr h; ⟨t, q.h, r⟩
theorem Fun.def_okQ {x qual : Str} {st : Stmt} {f : Addr} {fd : FuncData} {N ps : List Str} {k : Nat} {sp : Sp} (F : Fun K x qual st f fd) (m : mg x = some (.ref f)) (b : Binds K fd ps []) (S : FnScope N ps (defScope st)) (len : ∀ vs H Q E, sp vs H Q E → vs.length = ps.length)
    (hbody : ∀ (cdv : Value) (A : Around) (outer : List Env) (s : Shared) (H : Hp) (vs : List V) (Q : VK) (E : XK), Room k (A.deeper (envOfC qual (defScope st) s.heap.objs.size f cdv)) → sp vs H Q E →
      ∃ t, QSs (cxOf CX0 P w K mg base N qual (defScope st) f cdv A outer s H E).nox (defBody st) t ∧ t { nx := fun _ H' => Q .non H', rt := Q } (start N vs) H) : DefOk P w K mg base (k + 1) x ps [] sp :=
  ⟨f, fd, [], F.okQ S len hbody, b, .nil, F.kp, m⟩
end
end L2


set_option Elab.async false
set_option linter.all false
set_option maxRecDepth 100000
/-! y = [elt for x in iter] -/
namespace L2
open PySem PySem.Spec PyProof.Rows
section
variable {prog : Program} {w : World} {A : Around} {R : Result → Shared → Prop} {s : Shared}
end
/-- the block of a comprehension: its own frame's dict at C, the cells of the names that it takes from around it -/
noncomputable def cxComp (X : Cx) (scope : Scope) (cl : List (Str × Addr)) (Nc : List Str) (C : Addr) (s₂ : Shared) (H2 : Hp) (fp : List Addr) : Cx where
  prog := X.prog
  w := X.w
  K := X.K
  mg := X.mg
  base := X.base
  A := X.A
  N := Nc
  s₀ := s₂
  H₀ := H2
  env := compEnvC scope cl C X.env
  outer := X.stack
  stack := X.stack
  ex := fp
  fn := fun _ => false
  calm := true
  pn := []
  xe := fun _ _ => False
noncomputable def inner (σ : St) (fr : List Nat) : St := fr.map fun j => (σ[j]?).join
end L2


set_option Elab.async false
set_option linter.all false
set_option maxRecDepth 100000
/-! list(reversed(xs)); two lists of the same things -/
namespace L2
open PySem PySem.Spec PyProof.Rows
section
variable {prog : Program} {w : World} {A : Around} {s : Shared} {R : Result → Shared → Prop}
variable {I : Addr} {fp wr : List Addr} {G : Array GenState → Array GenState → Prop} {n : Nat} {P : Nat → Value → Prop} {St : Nat → Shared → Prop}
end
section
variable {prog : Program} {w : World} {A : Around} {E : Value → Shared → Prop} {s : Shared}
variable {I : Addr} {fp wr : List Addr} {G : Array GenState → Array GenState → Prop} {n : Nat} {P : Nat → Value → Prop} {St : Nat → Shared → Prop}
end
namespace R
variable {X : Cx}
end R
end L2
namespace L2
open PySem PySem.Spec PyProof.Rows
end L2
namespace L2
open PySem PySem.Spec PyProof.Rows
end L2


set_option Elab.async false
set_option linter.all false
set_option maxRecDepth 100000
/-! raise, try, except, isinstance: exceptions of own classes -/
namespace L2
open PySem PySem.Spec PyProof.Rows PySem.W

/-! ### an exception of an own class on its way -/


section
open Builtin Builtin.ObjectAttr Builtin.Getset_descriptor
variable {prog : Program} {w : World} {A : Around} {E : Value → Shared → Prop} {h : Heap} {g : Array GenState} {d : Drawn} {t : Nat} {os : OsState} {a C : Addr} {o : Obj} {K : Frag}


end

/-! ### isinstance of an exception -/

/-! ### calls where an exception is handled -/
/-! ### except D as n: D an own class; the suite returns -/
section
variable {M : Model} {A : Around} {E : Value → Shared → Prop} {h : Heap} {g : Array GenState} {d : Drawn} {t : Nat} {os : OsState} {a C D : Addr} {o oD : Obj} {K : Frag} {dD : Option Addr} {cD : ClassData} {sD : Array (Option Value)}
end


/-! ### the text's own class, by the written part -/

/-! ### defs that raise, defs that are called in a handler -/
section
variable {P : Program} {w : World} {K : PySem.W.Frag} {mg : Str → Option Value} {base : Heap}
end
namespace R
section
variable {X : Cx} {e : Expr} {es : List Expr} {te : TE} {t : TA} {pos p : Pos}
end
end R
end L2


set_option Elab.async false
set_option linter.all false
set_option maxRecDepth 100000
/-! [elt for target in iter if test], anywhere -/
namespace L2
open PySem PySem.Spec PyProof.Rows
/-! ### the cells that a comprehension takes from around it -/
noncomputable def clOf (cells : List (Str × Addr)) : List (Str × NameKind) → List (Str × Addr) → List (Str × Addr)
  | [], acc => acc
  | (n, k) :: r, acc => if (k == .free) = true then clOf cells r ((n, (cells.lookup n).getD 0) :: acc) else clOf cells r acc
theorem clOf_run {env : Env} : ∀ (names : List (Str × NameKind)) (acc : List (Str × Addr)), (∀ y ∈ names, y.2 = .free → ∃ c, env.cells.lookup y.1 = some c) →
    (forIn names acc fun (x : Str × NameKind) (r : List (Str × Addr)) => (if (x.2 == .free) = true then do let a ← cellOf env x.1; pure (ForInStep.yield ((x.1, a) :: r)) else pure (ForInStep.yield r) : Sem (ForInStep (List (Str × Addr))))) = (pure (clOf env.cells names acc) : Sem _)
  | [], acc, _ => rfl
  | (n, k) :: r, acc, h => by
    have ih := fun acc => clOf_run (env := env) r acc fun y hy => h y (List.mem_cons_of_mem _ hy)
    rw [List.forIn_cons]
    cases hk : (k == NameKind.free) with
    | false =>
      have e1 : clOf env.cells ((n, k) :: r) acc = clOf env.cells r acc := by
        show (if (k == NameKind.free) = true then _ else _) = _
        rw [hk]; rfl
      rw [e1, ← ih acc]
      rfl
    | true =>
      have hk' : k = .free := by simpa using hk
      obtain ⟨c, hc⟩ := h (n, k) List.mem_cons_self hk'
      have e1 : clOf env.cells ((n, k) :: r) acc = clOf env.cells r ((n, c) :: acc) := by
        show (if (k == NameKind.free) = true then clOf env.cells r ((n, (env.cells.lookup n).getD 0) :: acc) else _) = _
        rw [hk, show env.cells.lookup n = some c from hc]; rfl
      rw [e1, ← ih]
      have e2 : cellOf env n = pure c := by
        unfold cellOf
        rw [show env.cells.lookup n = some c from hc]
      rw [show cellOf env (n, k).fst = pure c from e2]; rfl
theorem closure_of {scope : Scope} {env : Env} (h : ∀ y ∈ scope.names, y.2 = .free → ∃ c, env.cells.lookup y.1 = some c) : closureFor scope env = pure (clOf env.cells scope.names []) := by
  have q := clOf_run (env := env) scope.names [] h
  have e : closureFor scope env = Bind.bind (forIn scope.names [] fun (x : Str × NameKind) (r : List (Str × Addr)) => (if (x.2 == .free) = true then do let a ← cellOf env x.1; pure (ForInStep.yield ((x.1, a) :: r)) else pure (ForInStep.yield r) : Sem (ForInStep (List (Str × Addr))))) (fun r => pure r) := rfl
  rw [e, q]; rfl
theorem clOf_acc {cells : List (Str × Addr)} {z : Str} : ∀ (names : List (Str × NameKind)) (acc : List (Str × Addr)), (acc.lookup z).isSome = true → ((clOf cells names acc).lookup z).isSome = true
  | [], _, h => h
  | (n, k) :: r, acc, h => by
    unfold clOf
    split
    · refine clOf_acc r _ ?_
      rw [List.lookup_cons]
      cases (z == n)
      · exact h
      · rfl
    · exact clOf_acc r _ h
theorem clOf_has {cells : List (Str × Addr)} {z : Str} : ∀ (names : List (Str × NameKind)) (acc : List (Str × Addr)), (z, NameKind.free) ∈ names → ((clOf cells names acc).lookup z).isSome = true
  | [], _, h => nomatch h
  | (n, k) :: r, acc, h => by
    unfold clOf
    rcases List.mem_cons.mp h with e | h
    · cases e
      rw [if_pos (by rfl)]
      refine clOf_acc r _ ?_
      rw [List.lookup_cons, show (z == z) = true from by simp]; rfl
    · split
      · exact clOf_has r _ h
      · exact clOf_has r _ h
theorem clOf_sub {cells : List (Str × Addr)} {z : Str} {c : Addr} : ∀ (names : List (Str × NameKind)) (acc : List (Str × Addr)), (∀ y ∈ names, y.2 = .free → ∃ c, cells.lookup y.1 = some c) → (∀ z c, acc.lookup z = some c → cells.lookup z = some c) →
    (clOf cells names acc).lookup z = some c → cells.lookup z = some c
  | [], _, _, h, e => h _ _ e
  | (n, k) :: r, acc, hn, h, e => by
    unfold clOf at e
    split at e
    · rename_i hk
      have hk' : k = .free := by simpa using hk
      obtain ⟨c', hc⟩ := hn (n, k) List.mem_cons_self hk'
      refine clOf_sub r _ (fun y hy => hn y (List.mem_cons_of_mem _ hy)) (fun z1 c1 e9 => ?_) e
      rw [show cells.lookup n = some c' from hc] at e9
      rw [List.lookup_cons] at e9
      cases hz : (z1 == n) with
      | false => rw [hz] at e9; exact h _ _ e9
      | true =>
        rw [hz] at e9
        have hz' : z1 = n := by simpa using hz
        rw [hz', show cells.lookup n = some c' from hc]
        exact e9
    · exact clOf_sub r _ (fun y hy => hn y (List.mem_cons_of_mem _ hy)) h e
structure CompOk2 (X : Cx) (scope : Scope) (cl : List (Str × Addr)) (xs ns : List Str) (fr : List Nat) : Prop where
  clos : closureFor scope X.env = pure cl
  sub : ∀ z c, cl.lookup z = some c → X.env.cells.lookup z = some c
  kind : scope.kind = .function
  nocell : ∀ y ∈ scope.names, y.2 ≠ .cell
  names : ∀ y ∈ scope.names, y.2 = .local → scope.names.lookup y.1 = some .local
  has : ∀ z, ((relabel scope X.env).names.lookup z = some .cell ∨ (relabel scope X.env).names.lookup z = some .free) → ∃ c, cl.lookup z = some c
  out : ∀ (j : Nat) (z : Str), ns[j]? = some z → ∃ i, fr[j]? = some i ∧ X.N[i]? = some z ∧ X.env.scope.names.lookup z = some .cell ∧ (relabel scope X.env).names.lookup z = some .cell
  len : fr.length = ns.length
/-- what can be looked at: the scope around, the comprehension's, the names -/
noncomputable def compB (sc cs : List (Str × NameKind)) (N ns : List Str) (fr : List Nat) : Bool :=
  cs.all (fun y => y.2 != .cell) && cs.all (fun y => y.2 != .local || cs.lookup y.1 == some .local) && cs.all (fun y => y.2 != .free || sc.lookup y.1 == some .cell)
    && (fr.length == ns.length) && (List.range ns.length).all (fun j => match ns[j]?, fr[j]? with
      | some z, some i => N[i]? == some z && sc.lookup z == some .cell && cs.lookup z == some .free
      | _, _ => false)
theorem lookup_relabel_free {env : Env} (hk : env.scope.kind = .function) : ∀ {names : List (Str × NameKind)} {x : Str}, names.lookup x = some .free → env.kindOf x = some .cell →
    (names.map fun (n, k) => if (k == NameKind.free && env.scope.kind == .function && env.kindOf n == some .cell) then (n, NameKind.cell) else (n, k)).lookup x = some .cell
  | [], _, h, _ => by simp at h
  | (n, k) :: r, x, h, hc => by
    have ih := @lookup_relabel_free env hk r x
    show List.lookup x ((if (k == NameKind.free && env.scope.kind == .function && env.kindOf n == some .cell) = true then (n, NameKind.cell) else (n, k)) :: _) = _
    cases hx : x == n with
    | true =>
      have e : x = n := by simpa using hx
      simp only [List.lookup_cons, hx] at h
      cases h
      subst e
      rw [if_pos (by rw [hk, hc]; decide)]
      simp only [List.lookup_cons, hx]
    | false =>
      simp only [List.lookup_cons, hx] at h
      by_cases hc' : (k == NameKind.free && env.scope.kind == .function && env.kindOf n == some .cell) = true
      · rw [if_pos hc']; simp only [List.lookup_cons, hx]; exact ih h hc
      · rw [if_neg hc']; simp only [List.lookup_cons, hx]; exact ih h hc
theorem relabel_mem {env : Env} : ∀ {names : List (Str × NameKind)} {x : Str} {k : NameKind},
    (names.map fun (n, k) => if (k == NameKind.free && env.scope.kind == .function && env.kindOf n == some .cell) then (n, NameKind.cell) else (n, k)).lookup x = some k → (∀ y ∈ names, y.2 ≠ .cell) → (k = .cell ∨ k = .free) → (x, NameKind.free) ∈ names
  | [], _, _, h, _, _ => by simp at h
  | (n, k0) :: r, x, k, h, hn, hk => by
    have ih := @relabel_mem env r x k
    have h' : List.lookup x ((if (k0 == NameKind.free && env.scope.kind == .function && env.kindOf n == some .cell) = true then (n, NameKind.cell) else (n, k0)) :: r.map fun (n, k) => if (k == NameKind.free && env.scope.kind == .function && env.kindOf n == some .cell) then (n, NameKind.cell) else (n, k)) = some k := h
    cases hx : x == n with
    | false =>
      refine List.mem_cons_of_mem _ (ih ?_ (fun y hy => hn y (List.mem_cons_of_mem _ hy)) hk)
      by_cases hc' : (k0 == NameKind.free && env.scope.kind == .function && env.kindOf n == some .cell) = true
      · rw [if_pos hc'] at h'; simpa only [List.lookup_cons, hx] using h'
      · rw [if_neg hc'] at h'; simpa only [List.lookup_cons, hx] using h'
    | true =>
      have e : x = n := by simpa using hx
      subst e
      by_cases hc' : (k0 == NameKind.free && env.scope.kind == .function && env.kindOf x == some .cell) = true
      · have : k0 = .free := by
          rw [Bool.and_eq_true, Bool.and_eq_true] at hc'
          simpa using hc'.1.1
        rw [this]; exact List.mem_cons_self
      · rw [if_neg hc'] at h'
        simp only [List.lookup_cons, hx] at h'
        have : k0 = k := Option.some.inj h'
        subst this
        rcases hk with e | e
        · exact absurd e (hn (x, k0) List.mem_cons_self)
        · rw [e]; exact List.mem_cons_self
theorem CompOk2.of {X : Cx} {scope sc : Scope} {N xs ns : List Str} {fr : List Nat} (hsc : X.env.scope = sc) (hN : X.N = N) (hcl : ∃ n, X.env.cells = cellsFrom n X.env.scope.names []) (hk : X.env.scope.kind = .function) (kind : scope.kind = .function)
    (h : compB sc.names scope.names N ns fr = true) : CompOk2 X scope (clOf X.env.cells scope.names []) xs ns fr := by
  subst hsc hN
  unfold compB at h
  rw [Bool.and_eq_true, Bool.and_eq_true, Bool.and_eq_true, Bool.and_eq_true] at h
  obtain ⟨⟨⟨⟨h1, h2⟩, h3⟩, h4⟩, h5⟩ := h
  have n1 : ∀ y ∈ scope.names, y.2 ≠ .cell := fun y hy e => by
    have := List.all_eq_true.mp h1 y hy
    rw [e] at this; cases this
  have n2 : ∀ y ∈ scope.names, y.2 = .local → scope.names.lookup y.1 = some .local := fun y hy e => by
    have := List.all_eq_true.mp h2 y hy
    rw [e] at this
    simpa using this
  have n3 : ∀ y ∈ scope.names, y.2 = .free → X.env.scope.names.lookup y.1 = some .cell := fun y hy e => by
    have := List.all_eq_true.mp h3 y hy
    rw [e] at this
    simpa using this
  have n4 : ∀ y ∈ scope.names, y.2 = .free → ∃ c, X.env.cells.lookup y.1 = some c := fun y hy e => by
    obtain ⟨n, hn⟩ := hcl
    rw [hn]
    exact cell_has (n3 y hy e)
  refine ⟨closure_of n4, fun z c e => clOf_sub _ [] n4 (fun z c e => by cases e) e, kind, n1, n2, fun z hz => ?_, fun j z e => ?_, by simpa using h4⟩
  · refine Option.isSome_iff_exists.mp (clOf_has _ [] ?_)
    rcases hz with q | q
    · exact relabel_mem q n1 (.inl rfl)
    · exact relabel_mem q n1 (.inr rfl)
  · have hj : j < ns.length := (List.getElem?_eq_some_iff.mp e).1
    have := List.all_eq_true.mp h5 j (List.mem_range.mpr hj)
    rw [e] at this
    have h4' : fr.length = ns.length := by simpa using h4
    have hj' : j < fr.length := by rw [h4']; exact hj
    rw [List.getElem?_eq_getElem hj'] at this
    have this' : (X.N[fr[j]]? == some z && X.env.scope.names.lookup z == some .cell && scope.names.lookup z == some .free) = true := this
    rw [Bool.and_eq_true, Bool.and_eq_true] at this'
    obtain ⟨⟨a1, a2⟩, a3⟩ := this'
    have a2' : X.env.scope.names.lookup z = some .cell := by simpa using a2
    exact ⟨fr[j], List.getElem?_eq_getElem hj', by simpa using a1, a2', lookup_relabel_free hk (by simpa using a3) a2'⟩
/-! ### the tests of a comprehension -/
noncomputable def PF (X : Cx) (ifs : List Expr) (t : TT) : Prop :=
  ∀ (pins : List (Addr × Obj)) (s : Shared) (σ : St) (H : Hp) (Q : Bool → Hp → Prop), Inv X pins σ H s → t σ H Q →
    wpAny (model X.prog X.w) X.A (forIn ifs true fun c r => if r = true then do let ok ← isTrue c X.env (eval c X.env); pure (ForInStep.yield ok) else pure (ForInStep.yield r)) (TP X pins σ Q) X.xe s
noncomputable def fNil : TT := fun _ H Q => Q true H
theorem pf_nil {X : Cx} : PF X [] fNil := fun pins s σ H Q I h => wpAny_tests_nil ⟨H, I, h⟩
theorem pf_one {X : Cx} {c : Expr} {t : TT} (h : PT X c t) : PF X [c] t := fun pins s σ H Q I hw => wpAny_tests_one (h pins s σ H Q I hw)
section
variable {prog : Program} {w : World} {A : Around} {R : Result → Shared → Prop} {s : Shared}
theorem comp_loop2 {elt target iter : Expr} {ifs : List Expr} {scope : Scope} {pos : Pos} {it acc : Value} {env : Env} (I : Nat → Shared → Prop)
    (turn : ∀ n s, I n s → wpAny (model prog w) A (pyNext it) (fun r s₁ => match r with
      | none => R (.ok .next) s₁
      | some v => wpAny (model prog w) A (letOwnedTupleGo target it v) (fun _ s₁' => wpAny (model prog w) A (assign target env v) (fun _ s₂ =>
          wpAny (model prog w) A (forIn ifs true fun c r => if r = true then do let ok ← isTrue c env (eval c env); pure (ForInStep.yield ok) else pure (ForInStep.yield r)) (fun ok s₂' => if ok = true then wpAny (model prog w) A (eval elt env) (fun x s₃ =>
            wpAny (model prog w) A (call (.builtin "list.append") [acc, x]) (fun _ s₄ => ∃ m, m < n ∧ I m s₄) (notedBy (model prog w) A env fun e s' => R (.error e) s') s₃) (notedBy (model prog w) A env fun e s' => R (.error e) s') s₂'
            else ∃ m, m < n ∧ I m s₂') (notedBy (model prog w) A env fun e s' => R (.error e) s') s₂)
          (notedBy (model prog w) A env fun e s' => R (.error e) s') s₁') (notedBy (model prog w) A env fun e s' => R (.error e) s') s₁) (notedBy (model prog w) A env fun e s' => R (.error e) s') s)
    (n : Nat) (h : I n s) : codeAny (model prog w) A (.compLoop (.ListComp elt [⟨target, iter, ifs, 0⟩] scope pos) 0 it acc env) R s := by
  refine codeAny_loop rfl I (fun n s hI => ?_) n h
  show wpAny _ A ((compTurn (.ListComp elt [⟨target, iter, ifs, 0⟩] scope pos) 0 it acc env).onRaise (fun x => do noteFrame x env; theTreesLotGoes x)) _ _ s
  refine wpAny_noted ?_
  rw [compTurn_list]
  refine wpAny_bind (wpAny_standAt (wpAny_bind (wpAny_mono (turn n s hI) (fun r s₁ h₁ => ?_) fun _ _ h' => h')))
  cases r with
  | none => exact wpAny_pure h₁
  | some v =>
    refine wpAny_bind (wpAny_mono h₁ (fun _ s₀ h₀' => ?_) fun _ _ h' => h')
    refine wpAny_bind (wpAny_mono h₀' (fun _ s₂ h₂ => ?_) fun _ _ h' => h')
    refine wpAny_bind (wpAny_mono h₂ (fun okb s₃ h₃ => ?_) fun _ _ h' => h')
    cases okb with
    | false => exact wpAny_pure ⟨rfl, h₃⟩
    | true => exact wpAny_bind (wpAny_bind (wpAny_mono h₃ (fun x s₄ h₄ => wpAny_bind (wpAny_mono h₄ (fun _ s₅ h₅ => wpAny_pure (wpAny_pure ⟨rfl, h₅⟩)) fun _ _ h' => h')) fun _ _ h' => h'))
end
/-- the end of a comprehension's reading: J the iterator; Pv k: behind k turns -/
noncomputable def CompGoal (J : It) (nx : Nat) (g : TG) (fr : List Nat) (tt : TT) (te : TE) (σ : St) (Q : VK) (H1 : Hp) (l : Addr) : Prop :=
  ∃ W : Nat → Nat → Hp → Prop, (∃ m, W 0 m (upd H1 l (.lst []))) ∧ ∀ k m H, W k m H →
    (J.stop k H ∧ Q (.ref l) H) ∨ (J.go k H ∧ ∀ v H', J.yld k H v H' → ∀ os : St, os.length = nx → g v (os ++ inner σ fr) H' fun σ2 H2 => (∃ os' : St, os'.length = nx ∧ σ2 = os' ++ inner σ fr) ∧ tt σ2 H2 fun b H3 =>
      if b = true then te σ2 H3 fun y H4 => ∃ zs m', H4 l = some (.lst zs) ∧ zs.length < sizeLine ∧ m' < m ∧ W (k + 1) m' (upd H4 l (.lst (zs ++ [y]))) else ∃ m', m' < m ∧ W (k + 1) m' H3)
/-- nx: how many names the target has; fr: where the names that it takes from around stand there -/
noncomputable def tCompE (wi : TI) (nx : Nat) (fr : List Nat) (g : TG) (tt : TT) (te : TE) : TE := fun σ H Q => wi σ H fun J H1 => ∀ l, H1 l = none → CompGoal J nx g fr tt te σ Q H1 l
theorem comp_all {X : Cx} {pins : List (Addr × Obj)} {σ : St} {H : Hp} {s : Shared} {tg iter elt : Expr} {ifs : List Expr} {scope : Scope} {pos pos' : Pos} {cl : List (Str × Addr)} {xs ns : List Str} {fr : List Nat} {wi : TI} {g : TG} {tt : TT} {te : TE}
    {use : Option (Value → Sem Unit)} {Qv : Value → Shared → Prop} {R : VK}
    (hc : X.calm = true) (ok : CompOk2 X scope cl xs ns fr) (hI : PI X tg iter wi) (hg : ∀ C s₂ H2 fp, PG (cxComp X scope cl (xs ++ ns) C s₂ H2 fp) tg g) (hf : ∀ C s₂ H2 fp, PF (cxComp X scope cl (xs ++ ns) C s₂ H2 fp) ifs tt)
    (he : ∀ C s₂ H2 fp, PE (cxComp X scope cl (xs ++ ns) C s₂ H2 fp) elt te) (hs : ∀ x, foldedSetIterable iter X.env x = pure x)
    (I : Inv X pins σ H s) (h : tCompE wi xs.length fr g tt te σ H R)
    (fin : ∀ (C l : Addr) (m : Str → Option Value) (s4 : Shared) (Hk : Hp), Inv X pins σ Hk s4 → s4.heap.Ns C m → Hk C = none → C ≠ X.env.locals → (∀ z c, X.env.cells.lookup z = some c → c ≠ C) → X.s₀.heap.objs.size ≤ C → (∀ p ∈ X.pn ++ pins, p.1 ≠ C) →
      R (.ref l) Hk → compPost (model X.prog X.w) X.A X.xe use Qv (.ref l) C (.ok .next) s4) :
    wpAny (model X.prog X.w) X.A (comprehension (.ListComp elt [⟨tg, iter, ifs, 0⟩] scope pos) scope X.env pos' (newList []) false (eval iter X.env) use) Qv X.xe s := by
  refine wpAny_comprehension_free (use := use) rfl hs ok.clos ok.kind ok.names ?_
  refine thn (hI pins s σ H _ I h) fun v s1 h1 => thn h1 fun itv s2 h2 => ?_
  obtain ⟨it, fp, tn, J, H2, rfl, I2, T, st2, f2, rd⟩ := h2
  refine wpAny_newObj_type (wpAny_newFunctionEnv ok.nocell (by intro y hy; simp at hy) (fun h₁ hns₁ hsb₁ => ?_) ok.kind)
  dsimp only at hns₁ hsb₁ ⊢
  generalize hG : s2.heap.push { cls := .type "list", dict := none, data := .seq ([] : List Value).toArray } = G at hns₁ hsb₁ ⊢
  have hC : G.objs.size = s2.heap.objs.size + 1 := by rw [← hG, Heap.size_push]
  have below : ∀ b, b < s2.heap.objs.size → b ≠ G.objs.size ∧ b ≠ s2.heap.objs.size := fun b hb => ⟨by rw [hC]; exact Nat.ne_of_lt (Nat.lt_succ_of_lt hb), Nat.ne_of_lt hb⟩
  have old : ∀ b o, s2.heap.get? b = some o → h₁.get? b = some o := fun b o e => hsb₁.extBut b o (below b (Heap.lt_size e)).1 (Heap.get?_push_of_some _ (hG ▸ Heap.get?_push_of_some _ e))
  have hacc : h₁.get? s2.heap.objs.size = some { cls := .type "list", data := .seq ([] : List Value).toArray } :=
    hsb₁.extBut _ _ (by rw [hC]; exact Nat.ne_of_lt (Nat.lt_succ_self _)) (Heap.get?_push_of_some _ (hG ▸ Heap.get?_push_size _ rfl))
  have lfree : H2 s2.heap.objs.size = none := I2.hok.fresh (Nat.le_refl _)
  have fplt : ∀ b ∈ fp, b < s2.heap.objs.size := fun b hb => by
    obtain ⟨o, e, _⟩ := T.obj 0 _ st2 b hb
    exact Heap.lt_size e
  have stk : ∀ b ∈ frs X.stack, b ∈ X.env.locals :: X.fs := I2.stkSub
  have clc : ∀ z c, cl.lookup z = some c → c < s2.heap.objs.size := fun z c e => by
    obtain ⟨v, q⟩ := I2.cell z c (ok.sub z c e)
    exact q.lt
  have okC : (cxComp X scope cl (xs ++ ns) G.objs.size s2 H2 fp).Ok := by
    refine ⟨I2.ok.mod, ok.kind, I2.ok.glob, I2.ok.blt, ?_, fun a b c h1 h2 => I2.ok.inj a b c (ok.sub a c h1) (ok.sub b c h2), fun z hz => ok.has z hz, fun z c hf => ?_, fun _ => I2.ok.hd hc, I2.ok.frames, .inl rfl, fun b hb => ⟨(below b (fplt b hb)).1, fun z c e => ?_⟩, I2.bs, Nat.le_trans I2.ok.bsz I2.sz, fun b o e hb => ?_, fun b hb => ?_, I2.stack, I2.stkFree⟩
    · show s2.heap.objs.size ≤ G.objs.size
      rw [hC]; exact Nat.le_succ _
    · exact absurd (show false = true from hf) Bool.false_ne_true
    · exact (f2 b hb).2.2.2.2.1 z c (ok.sub z c e)
    · rcases (f2 b hb).2.2.2.1 with z | z
      · exact I2.ok.noex b o e z
      · exact absurd (Nat.lt_of_lt_of_le (Heap.lt_size e) (Nat.le_trans I2.ok.bsz z)) (Nat.lt_irrefl _)
    · intro z
      rcases List.mem_cons.mp (stk b z) with q | q
      · exact (f2 b hb).2.1 q
      · exact (f2 b hb).2.2.1 q
  have fpC : ∀ {H' : Hp}, (∀ b ∈ fp, H' b = none) → ∀ b ∈ fp, FpOk (cxComp X scope cl (xs ++ ns) G.objs.size s2 H2 fp) [] H' b := fun hn b hb =>
    ⟨hn b hb, (below b (fplt b hb)).1, okC.exfs b hb, .inl hb, fun z c e => (f2 b hb).2.2.2.2.1 z c (ok.sub z c e), fun p hp => absurd (show p ∈ ([] : List (Addr × Obj)) from hp) (by simp)⟩
  have I4 : Inv (cxComp X scope cl (xs ++ ns) G.objs.size s2 H2 fp) [] (List.replicate xs.length none ++ inner σ fr) (upd H2 s2.heap.objs.size (.lst [])) { s2 with heap := h₁, toks := s2.toks + ([] : List (Str × Value)).length } := by
    refine ⟨okC, rfl, I2.bare, Un.laid old (Nat.le_refl _) lfree, ⟨_, hns₁, fun j z u e1 e2 e3 => ?_⟩, fun z c e => ?_, ?_, fun z c e => ?_, fun p hp => absurd (show p ∈ ([] : List (Addr × Obj)) from hp) (by simp), I2.hok.laid old (Nat.le_refl _) ⟨Nat.zero_le _, [], 0, .nil, hacc⟩, ?_⟩
    · by_cases hj : j < xs.length
      · rw [List.getElem?_append_left (by rw [List.length_replicate]; exact hj), List.getElem?_replicate, if_pos hj] at e2
        have e2' : (none : Option V) = some u := Option.some.inj e2
        cases e2'
      · have hj' : xs.length ≤ j := Nat.not_lt.mp hj
        rw [List.getElem?_append_right (by rw [List.length_replicate]; exact hj'), List.length_replicate] at e2
        have e1' : ns[j - xs.length]? = some z := by
          have e1'' : (xs ++ ns)[j]? = some z := e1
          rw [List.getElem?_append_right hj'] at e1''; exact e1''
        obtain ⟨i', q1, q2, q3, q4⟩ := ok.out _ z e1'
        have e3' : σ[i']? = some (some u) := by
          unfold inner at e2
          rw [List.getElem?_map, q1] at e2
          have e4 : (σ[i']?).join = some u := Option.some.inj e2
          cases q : σ[i']? with
          | none => rw [q] at e4; cases e4
          | some o => rw [q] at e4; cases o with
            | none => cases e4
            | some o => cases e4; rfl
        obtain ⟨m, hn, hl⟩ := I2.loc
        obtain ⟨val, r, l⟩ := hl i' z u q2 e3' (.inr (.inl q3))
        refine ⟨val, r, .inr ⟨.inl q4, ?_⟩⟩
        obtain ⟨c', hc'⟩ := ok.has z (.inl q4)
        rcases l with ⟨k1, _⟩ | ⟨_, c, hcc, hcell⟩
        · have k1' : X.env.scope.names.lookup z = some .local := k1
          rw [q3] at k1'; cases k1'
        · rw [ok.sub z c' hc'] at hcc
          cases hcc
          obtain ⟨ob, ho, hd⟩ := hcell
          exact ⟨c', hc', ob, old _ _ ho, hd⟩
    · obtain ⟨v', ob, ho, hd⟩ := I2.cell z c (ok.sub z c e)
      exact ⟨v', ob, old _ _ ho, hd⟩
    · show upd H2 s2.heap.objs.size (.lst []) G.objs.size = none
      rw [upd_ne (by rw [hC]; exact Nat.ne_of_gt (Nat.lt_succ_self _))]
      exact I2.hok.fresh (by rw [hC]; exact Nat.le_succ _)
    · rw [upd_ne (Nat.ne_of_lt (clc z c e))]
      exact I2.freeC z c (ok.sub z c e)
    · show (List.replicate xs.length none ++ inner σ fr).length = (xs ++ ns).length
      unfold inner
      rw [List.length_append, List.length_append, List.length_map, ok.len, List.length_replicate]
  obtain ⟨W, ⟨m0, w0⟩, turns⟩ := rd _ lfree
  have loop : codeAny (model X.prog X.w) X.A (.compLoop (.ListComp elt [⟨tg, iter, ifs, 0⟩] scope pos) 0 (.ref it) (.ref s2.heap.objs.size) (compEnvC scope cl G.objs.size X.env))
      (compPost (model X.prog X.w) X.A X.xe use Qv (.ref s2.heap.objs.size) G.objs.size) { s2 with heap := h₁, toks := s2.toks + ([] : List (Str × Value)).length } := by
    refine comp_loop2 (fun n s' => ∃ k Hk σk, Inv (cxComp X scope cl (xs ++ ns) G.objs.size s2 H2 fp) [] σk Hk s' ∧ (∃ os : St, os.length = xs.length ∧ σk = os ++ inner σ fr) ∧ tn k s'.heap ∧ (∀ b ∈ fp, Hk b = none) ∧ W k n Hk) ?_ m0
      ⟨0, _, _, I4, ⟨_, List.length_replicate, rfl⟩, T.keep _ _ _ st2 fun b _ o e => old b o e, fun b hb => by rw [upd_ne (below b (fplt b hb)).2]; exact (f2 b hb).1, w0⟩
    rintro n s3 ⟨k, Hk, σk, I3, ⟨os, hol, hσ⟩, st3, fr3, w3⟩
    subst hσ
    rcases turns k n Hk w3 with ⟨stop, qn⟩ | ⟨go, step⟩
    · refine thn (T.done (cxComp X scope cl (xs ++ ns) G.objs.size s2 H2 fp) rfl rfl rfl rfl k [] s3 _ Hk _ I3 (fpC fr3) st3 stop) fun r s4 zz => ?_
      obtain ⟨hr, I5⟩ := zz
      subst hr
      have J5 : Inv X pins σ Hk s4 := I2.call' I5.os I5.base I5.hok I5.bare fun b hb => ⟨(f2 b hb).2.2.2.1, (f2 b hb).2.1, (f2 b hb).2.2.2.2.1, (f2 b hb).2.2.2.2.2⟩
      obtain ⟨mC, hnC, _⟩ := I5.loc
      have neL : G.objs.size ≠ X.env.locals := Nat.ne_of_gt (Nat.lt_trans I2.lt (by rw [hC]; exact Nat.lt_succ_self _))
      have neCell : ∀ z c, X.env.cells.lookup z = some c → c ≠ G.objs.size := fun z c e q => by
        obtain ⟨v', hcell⟩ := I2.cell z c e
        have := hcell.lt
        rw [q, hC] at this
        exact absurd this (Nat.not_lt.mpr (Nat.le_succ _))
      exact fin G.objs.size s2.heap.objs.size mC s4 Hk J5 hnC I5.free neL neCell (Nat.le_trans I2.sz (by rw [hC]; exact Nat.le_succ _)) (fun p hp q => by
        have := Heap.lt_size (I2.pin p hp).1
        rw [q, hC] at this
        exact absurd this (Nat.not_lt.mpr (Nat.le_succ _))) qn
    · refine thn (T.item (cxComp X scope cl (xs ++ ns) G.objs.size s2 H2 fp) rfl rfl rfl rfl k [] s3 _ Hk _ I3 (fpC fr3) st3 go) fun r s4 zz => ?_
      obtain ⟨u, hr, h4⟩ := zz
      subst hr
      refine thn h4 fun _ s5 zz => ?_
      obtain ⟨val, H5, I5, r5, y5, st5, fr5⟩ := zz
      have I5' := I5.pinned (fpC fr5) (T.obj _ _ st5)
      refine wpAny_mono (hg _ _ _ _ _ s5 _ H5 val u _ I5' r5 (step val H5 y5 os hol)) (fun _ s6 zz => ?_) fun _ _ z => z.elim
      obtain ⟨σ6, H6, I6, ⟨os6, hol6, hσ6⟩, q6⟩ := zz
      subst hσ6
      have back : ∀ {H8 : Hp} {s8 : Shared} {m' : Nat}, Inv (cxComp X scope cl (xs ++ ns) G.objs.size s2 H2 fp) ([] ++ pinsAt fp s5.heap) (os6 ++ inner σ fr) H8 s8 → m' < n → W (k + 1) m' H8 →
          ∃ m, m < n ∧ ∃ k Hk σk, Inv (cxComp X scope cl (xs ++ ns) G.objs.size s2 H2 fp) [] σk Hk s8 ∧ (∃ os : St, os.length = xs.length ∧ σk = os ++ inner σ fr) ∧ tn k s8.heap ∧ (∀ b ∈ fp, Hk b = none) ∧ W k m Hk := fun {H8 s8 m'} I8 hm w8 => by
        refine ⟨m', hm, k + 1, _, _, I8.unpinned, ⟨os6, hol6, rfl⟩, T.keep _ _ _ st5 fun b hb o e => (I8.pin (b, o) (List.mem_append_right _ (List.mem_append_right _ (mem_pinsAt hb e)))).1, fun b hb => ?_, w8⟩
        obtain ⟨ob, e, d⟩ := T.obj _ _ st5 b hb
        exact (I8.pin (b, ob) (List.mem_append_right _ (List.mem_append_right _ (mem_pinsAt hb e)))).2.1
      refine wpAny_mono (hf _ _ _ _ _ s6 _ H6 _ I6 q6) (fun b s6' zz => ?_) fun _ _ z => z.elim
      obtain ⟨H6', I6', q6'⟩ := zz
      cases b with
      | false =>
        rw [if_neg (by decide)] at q6' ⊢
        obtain ⟨m', hm, w7⟩ := q6'
        exact back I6' hm w7
      | true =>
        rw [if_pos rfl] at q6' ⊢
        refine wpAny_mono (he _ _ _ _ _ s6' _ H6' _ I6' q6') (fun yv s7 zz => ?_) fun _ _ z => z.elim
        obtain ⟨yy, H7, I7, r7, zs, m', hz, hl, hm, w7⟩ := zz
        refine wpAny_mono (mt_append (X := cxComp X scope cl (xs ++ ns) G.objs.size s2 H2 fp) _ s7 _ H7 (.ref s2.heap.objs.size) [yy] (.ref s2.heap.objs.size) [yv] (fun _ H8 => H8 = upd H7 s2.heap.objs.size (.lst (zs ++ [yy]))) I7 rfl (.cons r7 .nil) ⟨_, zs, yy, rfl, rfl, hz, hl, rfl⟩) (fun _ s8 zz => ?_) fun _ _ z => z.elim
        obtain ⟨_, H8, I8, _, e8⟩ := zz
        subst e8
        exact back I8 hm w7
  exact codeAny_compStart_list loop (T.self _ 0 _ _ _ (T.keep _ _ _ st2 fun b _ o e => old b o e) loop)
theorem pe_comp {X : Cx} {tg iter elt : Expr} {ifs : List Expr} {scope : Scope} {pos : Pos} {cl : List (Str × Addr)} {xs ns : List Str} {fr : List Nat} {wi : TI} {g : TG} {tt : TT} {te : TE}
    (hc : X.calm = true) (ok : CompOk2 X scope cl xs ns fr) (hI : PI X tg iter wi) (hg : ∀ C s₂ H2 fp, PG (cxComp X scope cl (xs ++ ns) C s₂ H2 fp) tg g) (hf : ∀ C s₂ H2 fp, PF (cxComp X scope cl (xs ++ ns) C s₂ H2 fp) ifs tt)
    (he : ∀ C s₂ H2 fp, PE (cxComp X scope cl (xs ++ ns) C s₂ H2 fp) elt te) (hs : ∀ x, foldedSetIterable iter X.env x = pure x := by intro _; rfl) :
    PE X (.ListComp elt [⟨tg, iter, ifs, 0⟩] scope pos) (tCompE wi xs.length fr g tt te) := by
  intro pins s σ H Q I h
  rw [eval_ListComp]
  refine comp_all (use := none) hc ok hI hg hf he hs I h fun C l m s4 Hk J5 hn hC neL neCell sz hp q => ?_
  exact ⟨m, hn, fun h' sb => ⟨.ref l, Hk, J5.turned (t' := s4.toks) (it := C) (fun b o hb e => sb.extBut b o hb e) hC neL (.inr sz) neCell hp, rfl, q⟩⟩
theorem ps_compE {X : Cx} {i : Nat} {y : Str} {py spos : Pos} {tg iter elt : Expr} {ifs : List Expr} {scope : Scope} {pos : Pos} {cl : List (Str × Addr)} {xs ns : List Str} {fr : List Nat} {wi : TI} {g : TG} {tt : TT} {te : TE}
    (hc : X.calm = true) (ok : CompOk2 X scope cl xs ns fr) (hN : X.N.Nodup) (hi : X.N[i]? = some y) (hy : Loc X.env.scope y) (hfn : X.fn y = true ∨ X.env.scope.names.lookup y = some .local)
    (hsw : swapsWith (.ListComp elt [⟨tg, iter, ifs, 0⟩] scope pos) (some (.Name y py)) spos.line X.env = pure true)
    (hI : PI X tg iter wi) (hg : ∀ C s₂ H2 fp, PG (cxComp X scope cl (xs ++ ns) C s₂ H2 fp) tg g) (hf : ∀ C s₂ H2 fp, PF (cxComp X scope cl (xs ++ ns) C s₂ H2 fp) ifs tt)
    (he : ∀ C s₂ H2 fp, PE (cxComp X scope cl (xs ++ ns) C s₂ H2 fp) elt te) (hs : ∀ x, foldedSetIterable iter X.env x = pure x := by intro _; rfl) :
    PS X (.Assign [.Name y py] (.ListComp elt [⟨tg, iter, ifs, 0⟩] scope pos) spos) (tAsg (tCompE wi xs.length fr g tt te) (gName i)) := by
  intro pins s σ H D I h
  rw [exec_Assign_Name_used _ _ _ _ hsw]
  refine wpAny_bind (wpAny_standAt (wpAny_bind ?_))
  show wpAny _ X.A (do let _ ← comprehension (.ListComp elt [⟨tg, iter, ifs, 0⟩] scope pos) scope X.env _ (newList []) false (eval iter X.env) (some (assign (.Name y py) X.env))) _ _ s
  refine wpAny_bind (wpAny_mono (comp_all (use := some (assign (.Name y py) X.env)) (Qv := fun _ s' => SP X pins D .next s') hc ok hI hg hf he hs I h fun C l m s4 Hk J5 hn hC neL neCell sz hp q => ?_) (fun _ s' hq => wpAny_pure (wpAny_pure hq)) fun _ _ e => e)
  show wpAny _ X.A (assign (.Name y py) X.env (.ref l)) _ _ s4
  refine wpAny_assign_Name (store_ok2 J5 hN hi hy (v := .ref l) rfl (fun s5 I6 sb => ?_) hfn)
  obtain ⟨aa, hsb, haa⟩ := sb
  have aC : C ≠ aa := by
    rcases haa with q | q
    · rw [q]; exact neL
    · exact fun z => neCell _ _ q z.symm
  refine ⟨m, ?_, fun h' sb' => ⟨_, _, I6.turned (t' := s5.toks) (it := C) (fun b o hb e => sb'.extBut b o hb e) hC neL (.inr sz) neCell hp, q⟩⟩
  obtain ⟨oC, es, ep, ho, r⟩ := hn
  exact ⟨oC, es, ep, hsb.extBut _ _ aC ho, r⟩
end L2


set_option Elab.async false
set_option linter.all false
set_option maxRecDepth 100000
/-! sum, all, max of lists; bit_length -/
namespace L2
open PySem PySem.Spec PyProof.Rows
section
variable {X : Cx}
theorem vals_at : ∀ {xs : List V} {us : List Value} {i : Nat} {u : Value}, Vals xs us → us[i]? = some u → ∃ x, xs[i]? = some x ∧ RelV x u
  | [], _, _, _, .nil, e => by simp at e
  | x :: xs, _, 0, u, .cons r rr, e => ⟨x, rfl, by cases e; exact r⟩
  | x :: xs, _, i + 1, u, .cons r rr, e => by
    obtain ⟨y, hy, ry⟩ := vals_at (xs := xs) (i := i) rr (by simpa using e)
    exact ⟨y, by simpa using hy, ry⟩
theorem preSum_take (ns : List Int) : ∀ k, k ≤ ns.length → preSum (fun i => ns.getD i 0) k = (ns.take k).sum
  | 0, _ => rfl
  | k + 1, h => by
    have ih := preSum_take ns k (by omega)
    have hk : k < ns.length := by omega
    show preSum (fun i => ns.getD i 0) k + ns.getD k 0 = _
    rw [ih, List.take_succ, List.getElem?_eq_getElem hk, List.sum_append, List.getD_eq_getElem?_getD, List.getElem?_eq_getElem hk]
    show (ns.take k).sum + ns[k] = (ns.take k).sum + (ns[k] + 0)
    rw [Int.add_zero]
theorem ints_at {ns : List Int} {its : List Value} {i : Nat} {v : Value} (r : Vals (ns.map V.int) its) (e : its.toArray[i]? = some v) : ∃ t, v = .int (ns.getD i 0) t := by
  have e' : its[i]? = some v := by simpa using e
  obtain ⟨x, hx, rx⟩ := vals_at r e'
  rw [List.getElem?_map] at hx
  obtain ⟨n, hn, rfl⟩ := Option.map_eq_some_iff.mp hx
  obtain ⟨t, rfl⟩ := rx
  refine ⟨t, ?_⟩
  rw [List.getD_eq_getElem?_getD, hn]; rfl
theorem call_sumL (hc : X.calm = true) : CallR X (.builtin "sum") (fun xs H Q => ∃ (p : Addr) (ns : List Int), xs = [.ref p] ∧ SqL X.K H p (ns.map V.int) ∧ Q (.int ns.sum) H) := by
  intro pins s σ H xs us Q I r h
  obtain ⟨p, ns, rfl, hq, q⟩ := h
  obtain ⟨u, rfl, rx⟩ := vals1 r
  cases rx
  obtain ⟨its, r', pl, hz⟩ := I.list hq
  have hl := r'.length
  rw [List.length_map] at hl
  have hlt : p < s.heap.objs.size := by obtain ⟨_, e, _⟩ := pl.isList; exact Heap.lt_size e
  refine call_sum_walkG (wpAny_pyIter_list pl.isList ?_)
  refine ⟨_, _, _, _, _, _, fun i => ns.getD i 0, rfl, Walks.list (A := X.A.in1) (I.ok.hd hc) _ p (Nat.ne_of_lt hlt) its.toArray, ⟨⟨_, Heap.get?_push_size _ rfl, rfl, rfl⟩, pl.isList.push _⟩, ?_, fun i v e => ints_at r' e, fun h' tk t' hk => ?_⟩
  · intro b hb
    show b < (s.heap.push _).objs.size
    rw [Heap.size_push]
    rcases List.mem_cons.mp hb with rfl | hb
    · exact Nat.lt_succ_self _
    · rw [List.mem_singleton.mp hb]; exact Nat.lt_succ_of_lt hlt
  · refine ⟨.int ns.sum, H, I.kept (old_kept hk), ⟨t', ?_⟩, q⟩
    rw [List.size_toArray, ← hl, preSum_take ns _ (Nat.le_refl _), List.take_length]
/-- the greatest of some numbers -/
noncomputable def IsMax (ns : List Int) (m : Int) : Prop := m ∈ ns ∧ ∀ x ∈ ns, x ≤ m
theorem argBest_le (bt : Nat → Nat → Bool) : ∀ k, argBest bt k ≤ k
  | 0 => Nat.le_refl _
  | k + 1 => by
    unfold argBest
    split
    · exact Nat.le_refl _
    · exact Nat.le_succ_of_le (argBest_le bt k)
theorem argBest_max (val : Nat → Int) : ∀ k j, j ≤ k → val j ≤ val (argBest (fun i j => decide (val i > val j)) k)
  | 0, j, h => by
    have : j = 0 := by omega
    subst this; exact Int.le_refl _
  | k + 1, j, h => by
    have ih := argBest_max val k
    unfold argBest
    by_cases hj : j = k + 1
    · subst hj
      split
      · exact Int.le_refl _
      · rename_i hb
        have hb' : ¬ val (k + 1) > val (argBest (fun i j => decide (val i > val j)) k) := by simpa using hb
        omega
    · have hjk := ih j (by omega)
      split
      · rename_i hb
        have hb' : val (k + 1) > val (argBest (fun i j => decide (val i > val j)) k) := by simpa using hb
        omega
      · exact hjk
theorem best_isMax {ns : List Int} (h : 0 < ns.length) : IsMax ns (ns.getD (argBest (fun i j => decide (ns.getD i 0 > ns.getD j 0)) (ns.length - 1)) 0) := by
  have hle := argBest_le (fun i j => decide (ns.getD i 0 > ns.getD j 0)) (ns.length - 1)
  have hlt : argBest (fun i j => decide (ns.getD i 0 > ns.getD j 0)) (ns.length - 1) < ns.length := by omega
  refine ⟨?_, fun x hx => ?_⟩
  · rw [List.getD_eq_getElem?_getD, List.getElem?_eq_getElem hlt]
    exact List.getElem_mem hlt
  · obtain ⟨i, hi, rfl⟩ := List.mem_iff_getElem.mp hx
    have := argBest_max (fun i => ns.getD i 0) (ns.length - 1) i (by omega)
    have e : ns.getD i 0 = ns[i] := by rw [List.getD_eq_getElem?_getD, List.getElem?_eq_getElem hi]; rfl
    rw [e] at this
    exact this
theorem call_maxL (hc : X.calm = true) : CallR X (.builtin "max") (fun xs H Q => ∃ (p : Addr) (ns : List Int), xs = [.ref p] ∧ SqL X.K H p (ns.map V.int) ∧ 0 < ns.length ∧ ∀ m, IsMax ns m → Q (.int m) H) := by
  intro pins s σ H xs us Q I r h
  obtain ⟨p, ns, rfl, hq, h0, q⟩ := h
  obtain ⟨u, rfl, rx⟩ := vals1 r
  cases rx
  obtain ⟨its, r', pl, hz⟩ := I.list hq
  have hl := r'.length
  rw [List.length_map] at hl
  have hlt : p < s.heap.objs.size := by obtain ⟨_, e, _⟩ := pl.isList; exact Heap.lt_size e
  refine call_max_walk (wpAny_pyIter_list pl.isList ?_)
  refine ⟨_, _, _, _, _, _, _, rfl, Walks.list (A := X.A.in1) (I.ok.hd hc) _ p (Nat.ne_of_lt hlt) its.toArray, ⟨⟨_, Heap.get?_push_size _ rfl, rfl, rfl⟩, pl.isList.push _⟩, ?_, ?_, CmpOf.ints_gt (fun i => ns.getD i 0) (fun i v e => ints_at r' e), fun v h' tk hv hk => ?_⟩
  · intro b hb
    show b < (s.heap.push _).objs.size
    rw [Heap.size_push]
    rcases List.mem_cons.mp hb with rfl | hb
    · exact Nat.lt_succ_self _
    · rw [List.mem_singleton.mp hb]; exact Nat.lt_succ_of_lt hlt
  · rw [List.size_toArray, ← hl]; exact h0
  · obtain ⟨t, rfl⟩ := ints_at r' hv
    refine ⟨.int _, H, I.kept (old_kept hk), ⟨t, rfl⟩, q _ ?_⟩
    rw [List.size_toArray, ← hl]
    exact best_isMax h0
theorem mt_bits : MtR X "int.bit_length" (fun x xs H Q => ∃ i, x = .int i ∧ xs = [] ∧ Q (.int (Builtin.Int.intBits i)) H) := by
  intro pins s σ H x xs v us Q I rx r h
  obtain ⟨i, rfl, rfl, q⟩ := h
  obtain ⟨t, rfl⟩ := rx
  cases r
  exact call_int_bit_length ⟨.int (Builtin.Int.intBits i), H, I.tok _, ⟨_, rfl⟩, q⟩
noncomputable def tBits (to : TE) : TE := fun σ H Q => to σ H fun x H1 => ∃ i, x = .int i ∧ Q (.int (Builtin.Int.intBits i)) H1
theorem pe_bits {o : Expr} {to : TE} {apos cpos : Pos} (ho : PE X o to) (hbase : attributeBase o "bit_length" X.env (eval o X.env) = eval o X.env := by rfl) (hline : (apos.endLine == cpos.line) = true := by rfl) :
    PE X (.Call (.Attribute o "bit_length" apos) [] [] cpos) (tBits to) := by
  intro pins s σ H Q I h
  refine wpAny_Call_method0_late hbase hline (thn (ho pins s σ H _ I h) fun v s1 zz => ?_)
  obtain ⟨x, H1, I1, r1, i, e, q1⟩ := zz
  subst e
  obtain ⟨h1, h2⟩ := tyV_is I1 r1 (show tyV X.K "int" (.int i) H1 from rfl)
  exact ⟨"int", "int.bit_length", PySem.F.plainAttrs_int, PySem.F.slot_int_bit_length, PySem.F.type_int_bit_length, h1, h2, Calls.callWith_builtin rfl (PySem.evalArgs_none (mt_bits pins s1 σ H1 (.int i) [] v [] Q I1 r1 .nil ⟨i, rfl, rfl, q1⟩))⟩
end
/-! ### shut -/
structure QC (X : Cx) (ifs : List Expr) (t : TT) : Prop where h : PF X ifs t
structure QGs (X : Cx) (ts : List Expr) (t : TGs) : Prop where h : PGs X ts t
namespace R
section
variable {X : Cx} {e o : Expr} {te to : TE} {pos : Pos}
theorem pf_nil : QC X [] fNil := ⟨L2.pf_nil⟩
theorem pf_one {c : Expr} {t : TT} (h : QT X c t) : QC X [c] t := ⟨L2.pf_one h.h⟩
theorem pe_bits {apos cpos : Pos} (ho : QE X o to) (hbase : attributeBase o "bit_length" X.env (eval o X.env) = eval o X.env := by rfl) (hline : (apos.endLine == cpos.line) = true := by rfl) :
    QE X (.Call (.Attribute o "bit_length" apos) [] [] cpos) (tBits to) := ⟨L2.pe_bits ho.h hbase hline⟩
theorem ixL (K : PySem.W.Frag) (h : X.K = K := by rfl) : IxR X (rIxL K) := by subst h; exact ix_list
theorem pgs_nil : QGs X [] gNil := ⟨L2.pgs_nil⟩
theorem pgs_cons {es : List Expr} {t : TG} {u : TGs} (h1 : QG X e t) (h2 : QGs X es u) (hs : (assignEach (e :: es) X.env).map (·.2) = assign e X.env :: (assignEach es X.env).map (·.2) := by rfl) : QGs X (e :: es) (gCons t u) := ⟨L2.pgs_cons h1.h h2.h hs⟩
theorem pg_tup {es : List Expr} {k : Nat} {t : TGs} (K : PySem.W.Frag) (n : Nat) (hc : X.calm = true) (h : QGs X es t) (hK : X.K = K := by rfl) (hn : (assignEach es X.env).length = n := by rfl) (hst : (assignEach es X.env).findIdx? (·.1) = none := by rfl) : QG X (.Tuple es k pos) (gTup K n t) := by
  subst hK; exact ⟨L2.pg_tup hc h.h hn hst⟩
theorem pg_setL {i : Expr} {ti : TE} (ho : QE X o to) (hi : QE X i ti)
    (ha : ∀ v, assign (.Subscript o i pos) X.env v = (do
      let ov ← holding [v] (eval o X.env)
      let iv ← holding [v, ov] (eval i X.env)
      standAt pos
      holding [v, ov, iv] (setItem ov iv v)
      release [v, ov, iv] []) := by intro _; rfl) : QG X (.Subscript o i pos) (gSub to ti rSetL) := ⟨L2.pg_sub ho.h hi.h set_list ha⟩
theorem ps_asg {tg : Expr} {g : TG} (he : QE X e te) (hg : QG X tg g) (hs : swapsWithSole [tg] e pos.line X.env = pure false := by rfl) (hw : swappedStores [tg] e X.env = pure none := by rfl)
    (h1 : (assignEach [tg] X.env).map (·.2) = [assign tg X.env] := by rfl) : QS X (.Assign [tg] e pos) (tAsg te g) := ⟨L2.ps_asg he.h hg.h hs hw h1⟩
/-- sc, N: the def's scope and names; xs: the target's names; ns: those that are taken from around, at fr there -/
theorem pe_comp {tg iter elt : Expr} {ifs : List Expr} {scope : Scope} {wi : TI} {g : TG} {tt : TT} (sc : Scope) (N xs ns : List Str) (fr : List Nat) 
    (hc : X.calm = true) (hsc : X.env.scope = sc) (hN : X.N = N) (hcl : ∃ n, X.env.cells = cellsFrom n X.env.scope.names []) (hk : X.env.scope.kind = .function) (kind : scope.kind = .function) (hB : compB sc.names scope.names N ns fr = true)
    (hI : QI X tg iter wi) (hg : ∀ C s₂ H2 fp, QG (cxComp X scope (clOf X.env.cells scope.names []) (xs ++ ns) C s₂ H2 fp) tg g) (hf : ∀ C s₂ H2 fp, QC (cxComp X scope (clOf X.env.cells scope.names []) (xs ++ ns) C s₂ H2 fp) ifs tt)
    (he : ∀ C s₂ H2 fp, QE (cxComp X scope (clOf X.env.cells scope.names []) (xs ++ ns) C s₂ H2 fp) elt te) (hs : ∀ x, foldedSetIterable iter X.env x = pure x := by intro _; rfl) :
    QE X (.ListComp elt [⟨tg, iter, ifs, 0⟩] scope pos) (tCompE wi xs.length fr g tt te) :=
  ⟨L2.pe_comp hc (CompOk2.of hsc hN hcl hk kind hB) hI.h (fun C s H f => (hg C s H f).h) (fun C s H f => (hf C s H f).h) (fun C s H f => (he C s H f).h) hs⟩
theorem ps_compE {i : Nat} {y : Str} {py spos : Pos} {tg iter elt : Expr} {ifs : List Expr} {scope : Scope} {wi : TI} {g : TG} {tt : TT} (sc : Scope) (N xs ns : List Str) (fr : List Nat) (hnd : X.N.Nodup) (hi : X.N[i]? = some y) (hy : Loc X.env.scope y) (hfn : X.fn y = true)
    (hsw : swapsWith (.ListComp elt [⟨tg, iter, ifs, 0⟩] scope pos) (some (.Name y py)) spos.line X.env = pure true)
    (hc : X.calm = true) (hsc : X.env.scope = sc) (hN : X.N = N) (hcl : ∃ n, X.env.cells = cellsFrom n X.env.scope.names []) (hk : X.env.scope.kind = .function) (kind : scope.kind = .function) (hB : compB sc.names scope.names N ns fr = true)
    (hI : QI X tg iter wi) (hg : ∀ C s₂ H2 fp, QG (cxComp X scope (clOf X.env.cells scope.names []) (xs ++ ns) C s₂ H2 fp) tg g) (hf : ∀ C s₂ H2 fp, QC (cxComp X scope (clOf X.env.cells scope.names []) (xs ++ ns) C s₂ H2 fp) ifs tt)
    (he : ∀ C s₂ H2 fp, QE (cxComp X scope (clOf X.env.cells scope.names []) (xs ++ ns) C s₂ H2 fp) elt te) (hs : ∀ x, foldedSetIterable iter X.env x = pure x := by intro _; rfl) :
    QS X (.Assign [.Name y py] (.ListComp elt [⟨tg, iter, ifs, 0⟩] scope pos) spos) (tAsg (tCompE wi xs.length fr g tt te) (gName i)) :=
  ⟨L2.ps_compE hc (CompOk2.of hsc hN hcl hk kind hB) hnd hi hy (.inl hfn) hsw hI.h (fun C s H f => (hg C s H f).h) (fun C s H f => (hf C s H f).h) (fun C s H f => (he C s H f).h) hs⟩
end
end R
/-! ### the forms of a comprehension that one uses: one name, walked over a list that stays or over a range -/
section
variable {K : PySem.W.Frag} {fr : List Nat} {tt : TT} {te : TE} {σ : St} {Q : VK} {H1 : Hp} {l : Addr}
/-- one turn with the name bound to v -/
noncomputable def Turn1 (fr : List Nat) (tt : TT) (te : TE) (σ : St) (l : Addr) (v : V) (H : Hp) (N : Hp → Prop) : Prop :=
  ∀ (K1 : V → Hp → Prop) (K0 : Hp → Prop), (∀ y H4 zs, H4 l = some (.lst zs) → zs.length < sizeLine → N (upd H4 l (.lst (zs ++ [y]))) → K1 y H4) → (∀ H3, N H3 → K0 H3) →
    tt (some v :: inner σ fr) H fun b H3 => if b = true then te (some v :: inner σ fr) H3 K1 else K0 H3
theorem comp_by1 {J : It} (n : Nat) (Pv : Nat → Hp → Prop) (h0 : Pv 0 (upd H1 l (.lst []))) (hgo : ∀ k H, k < n → Pv k H → J.go k H) (hstop : ∀ H, Pv n H → J.stop n H)
    (hs : ∀ k H v H', k < n → Pv k H → J.yld k H v H' → Turn1 fr tt te σ l v H' (Pv (k + 1))) (hd : ∀ H, Pv n H → Q (.ref l) H) : CompGoal J 1 (gName 0) fr tt te σ Q H1 l := by
  refine ⟨fun k m H => m = n - k ∧ k ≤ n ∧ Pv k H, ⟨n, by simp, Nat.zero_le _, h0⟩, ?_⟩
  rintro k m H ⟨rfl, hk, p⟩
  by_cases hlt : k < n
  · refine .inr ⟨hgo k H hlt p, fun v H' hy os ho => ?_⟩
    obtain ⟨o, rfl⟩ := List.length_eq_one_iff.mp ho
    exact ⟨⟨[some v], rfl, rfl⟩, hs k H v H' hlt p hy _ _ (fun y H4 zs h1 h2 h3 => ⟨zs, n - (k + 1), h1, h2, by omega, rfl, hlt, h3⟩) fun H3 h3 => ⟨n - (k + 1), by omega, rfl, hlt, h3⟩⟩
  · have e : k = n := by omega
    subst e
    exact .inl ⟨hstop H p, hd H p⟩
theorem comp_rng1 {lo : Int} {n : Nat} (Pv : Nat → Hp → Prop) (h0 : Pv 0 (upd H1 l (.lst [])))
    (hs : ∀ k H, k < n → Pv k H → Turn1 fr tt te σ l (.int (lo + k)) H (Pv (k + 1))) (hd : ∀ H, Pv n H → Q (.ref l) H) : CompGoal (Itr lo n) 1 (gName 0) fr tt te σ Q H1 l :=
  comp_by1 n Pv h0 (fun _ _ h _ => h) (fun _ _ => Nat.le_refl _) (fun k H v H' hk p hy => by obtain ⟨rfl, rfl⟩ := hy; exact hs k _ hk p) hd
theorem comp_lst1 {a : Addr} {xs : List V} (Pv : Nat → Hp → Prop) (h0 : Pv 0 (upd H1 l (.lst []))) (hl : ∀ k H, k ≤ xs.length → Pv k H → SqL K H a xs)
    (hs : ∀ k x H, xs[k]? = some x → Pv k H → Turn1 fr tt te σ l x H (Pv (k + 1))) (hd : ∀ H, Pv xs.length H → Q (.ref l) H) : CompGoal (Itl K a) 1 (gName 0) fr tt te σ Q H1 l :=
  comp_by1 xs.length Pv h0 (fun k H h p => ⟨xs, xs[k], hl k H (Nat.le_of_lt h) p, by simp [h]⟩) (fun H p => ⟨xs, hl _ H (Nat.le_refl _) p, Nat.le_refl _⟩)
    (fun k H v H' hk p hy => by obtain ⟨rfl, y⟩ := hy; exact hs k v _ (y xs (hl k _ (Nat.le_of_lt hk) p)) p) hd
/-- two names, bound to the two parts of tuples -/
noncomputable def Turn2 (fr : List Nat) (tt : TT) (te : TE) (σ : St) (l : Addr) (v u : V) (H : Hp) (N : Hp → Prop) : Prop :=
  ∀ (K1 : V → Hp → Prop) (K0 : Hp → Prop), (∀ y H4 zs, H4 l = some (.lst zs) → zs.length < sizeLine → N (upd H4 l (.lst (zs ++ [y]))) → K1 y H4) → (∀ H3, N H3 → K0 H3) →
    tt (some v :: some u :: inner σ fr) H fun b H3 => if b = true then te (some v :: some u :: inner σ fr) H3 K1 else K0 H3
theorem comp_by2 {J : It} (n : Nat) (Pv : Nat → Hp → Prop) (h0 : Pv 0 (upd H1 l (.lst []))) (hgo : ∀ k H, k < n → Pv k H → J.go k H) (hstop : ∀ H, Pv n H → J.stop n H)
    (hs : ∀ k H v H', k < n → Pv k H → J.yld k H v H' → ∃ p x y, v = .ref p ∧ SqT K H' p [x, y] ∧ Turn2 fr tt te σ l x y H' (Pv (k + 1))) (hd : ∀ H, Pv n H → Q (.ref l) H) : CompGoal J 2 (gTup K 2 (gCons (gName 0) (gCons (gName 1) gNil))) fr tt te σ Q H1 l := by
  refine ⟨fun k m H => m = n - k ∧ k ≤ n ∧ Pv k H, ⟨n, by simp, Nat.zero_le _, h0⟩, ?_⟩
  rintro k m H ⟨rfl, hk, p⟩
  by_cases hlt : k < n
  · refine .inr ⟨hgo k H hlt p, fun v H' hy os ho => ?_⟩
    obtain ⟨o, o', rfl⟩ : ∃ a b, os = [a, b] := by
      cases os with
      | nil => cases ho
      | cons a t =>
        obtain ⟨b, rfl⟩ := List.length_eq_one_iff.mp (Nat.succ.inj ho)
        exact ⟨a, b, rfl⟩
    obtain ⟨p', x, y, rfl, hq, ht⟩ := hs k H v H' hlt p hy
    exact ⟨p', [x, y], rfl, hq, rfl, x, [y], rfl, y, [], rfl, rfl, ⟨[some x, some y], rfl, rfl⟩, ht _ _ (fun y H4 zs h1 h2 h3 => ⟨zs, n - (k + 1), h1, h2, by omega, rfl, hlt, h3⟩) fun H3 h3 => ⟨n - (k + 1), by omega, rfl, hlt, h3⟩⟩
  · have e : k = n := by omega
    subst e
    exact .inl ⟨hstop H p, hd H p⟩
end
end L2


set_option Elab.async false
set_option linter.all false
set_option maxRecDepth 100000
/-! bundles: whole numbers below 64, as Nat -/
namespace L2
open PySem PySem.Spec PyProof.Rows
theorem script_put {K : PySem.W.Frag} {H0 : Hp} {a l : Addr} {xs : List V} (h0 : SqL K H0 a xs) (hl : H0 l = none) : a ≠ l ∨ ∀ H, SqL K H a xs := by
  rcases h0 with (h | ⟨o, h⟩) | h
  · exact .inl (ne_of_none h hl)
  · exact .inl (ne_of_none h hl)
  · exact .inr fun H => .inr h
theorem seq_put {K : PySem.W.Frag} {H : Hp} {a l : Addr} {xs : List V} {o : HO} (h : SqL K H a xs) (d : a ≠ l ∨ ∀ H, SqL K H a xs) : SqL K (upd H l o) a xs := by
  rcases d with d | d
  · rcases h with (h | ⟨u, h⟩) | h
    · exact .inl (.inl (by rw [upd_ne d]; exact h))
    · exact .inl (.inr ⟨u, by rw [upd_ne d]; exact h⟩)
    · exact .inr h
  · exact d _
theorem Same.upd {H H' : Hp} {l : Addr} (s : Same H H') (h : H l = none) (o : HO) : Same H (upd H' l o) := fun b u q => by rw [upd_ne (ne_of_none q h)]; exact s b u q
/-! ### bits -/
theorem and_nat (a b : Nat) : Builtin.bitAnd (a : Int) b = ((a &&& b : Nat) : Int) := by
  unfold Builtin.bitAnd
  rw [show decide ((0 : Int) ≤ (a : Int)) = true from by simp, show decide ((0 : Int) ≤ (b : Int)) = true from by simp]
  show (((a : Int).toNat &&& (b : Int).toNat : Nat) : Int) = _
  rw [Int.toNat_natCast, Int.toNat_natCast]
theorem or_nat (a b : Nat) : Builtin.bitOr (a : Int) b = ((a ||| b : Nat) : Int) := by
  unfold Builtin.bitOr Builtin.bitAnd
  have h1 : decide ((0 : Int) ≤ Builtin.bitNot (a : Int)) = false := by unfold Builtin.bitNot; simp; omega
  have h2 : decide ((0 : Int) ≤ Builtin.bitNot (b : Int)) = false := by unfold Builtin.bitNot; simp; omega
  rw [h1, h2]
  show Builtin.bitNot (Builtin.bitNot (((Builtin.bitNot (Builtin.bitNot (a : Int))).toNat ||| (Builtin.bitNot (Builtin.bitNot (b : Int))).toNat : Nat) : Int)) = _
  have e : ∀ x : Int, Builtin.bitNot (Builtin.bitNot x) = x := fun x => by unfold Builtin.bitNot; omega
  rw [e, e, e, Int.toNat_natCast, Int.toNat_natCast]
theorem shl_nat (k : Nat) : (1 : Int) * 2 ^ (k : Int).toNat = ((2 ^ k : Nat) : Int) := by
  rw [Int.toNat_natCast, Int.one_mul, Int.natCast_pow]; rfl
theorem bits_nat (b : Nat) : Builtin.Int.intBits (b : Int) = if b = 0 then 0 else b.log2 + 1 := by
  unfold Builtin.Int.intBits
  by_cases h : b = 0
  · subst h; rfl
  · rw [if_neg h, if_neg (by simpa using h), Int.natAbs_natCast]
theorem bits64 {b : Nat} (h : b < 64) : Builtin.Int.intBits (b : Int) ≤ 6 := by
  rw [bits_nat]
  split
  · omega
  · rename_i h0
    have := (Nat.log2_lt h0 (k := 6)).mpr h
    omega
/-- the things of a bundle -/
noncomputable def things (b : Nat) : List Nat := (List.range 6).filter b.testBit
theorem things_comp : ∀ b < 64, (List.range (if b = 0 then 0 else b.log2 + 1)).filter (fun k => decide (b &&& 2 ^ k = 2 ^ k)) = things b := by decide +kernel
theorem things_mem {b k : Nat} : k ∈ things b ↔ k < 6 ∧ b.testBit k = true := by
  unfold things
  rw [List.mem_filter, List.mem_range]
theorem things_len (b : Nat) : (things b).length ≤ 6 := by
  have := List.length_filter_le (b.testBit) (List.range 6)
  rw [List.length_range] at this
  exact this
theorem int_eq_nat {a b : Nat} : decide (V.int (a : Int) = V.int (b : Int)) = decide (a = b) := by
  by_cases h : a = b
  · subst h; simp
  · rw [decide_eq_false h, decide_eq_false]
    intro z
    exact h (Int.ofNat.inj (V.int.inj z))
/-! ### comprehensions whose turns only lay new things on the heap -/
section
variable {K : PySem.W.Frag} {fr : List Nat} {tt : TT} {te : TE} {σ : St} {Q : VK} {H1 : Hp} {l : Addr}
theorem comp_rng_map {lo : Int} {n : Nat} (p : Nat → Bool) (f : Nat → V) (hn : n ≤ 100) (hl : H1 l = none)
    (ht : ∀ k H, k < n → Same H1 H → ∀ C, (∀ H', Same H H' → C (p k) H') → tt (some (.int (lo + k)) :: inner σ fr) H C)
    (he : ∀ k H, k < n → p k = true → Same H1 H → ∀ C, (∀ H', Same H H' → C (f k) H') → te (some (.int (lo + k)) :: inner σ fr) H C)
    (hd : ∀ H, Same H1 H → H l = some (.lst (((List.range n).filter p).map f)) → Q (.ref l) H) : CompGoal (Itr lo n) 1 (gName 0) fr tt te σ Q H1 l := by
  refine comp_rng1 (fun k H => Same H1 H ∧ H l = some (.lst (((List.range k).filter p).map f))) ⟨same_new hl _, upd_same⟩ ?_ fun H ⟨s, e⟩ => hd H s e
  rintro k H hk ⟨s, e⟩ K1 K0 h1 h0
  refine ht k H hk s _ fun H' s' => ?_
  have e' : (List.range (k + 1)).filter p = (List.range k).filter p ++ (if p k = true then [k] else []) := by
    rw [List.range_succ, List.filter_append]
    cases hp : p k <;> simp [hp]
  cases hp : p k with
  | false =>
    rw [if_neg (by decide)]
    refine h0 _ ⟨s.trans s', ?_⟩
    rw [e', hp, if_neg (by decide), List.append_nil]
    exact s' _ _ e
  | true =>
    rw [if_pos rfl]
    refine he k H' hk hp (s.trans s') _ fun H'' s'' => ?_
    refine h1 _ _ _ (s'' _ _ (s' _ _ e)) ?_ ⟨((s.trans s').trans s'').upd hl _, ?_⟩
    · rw [List.length_map]
      have := List.length_filter_le p (List.range k)
      rw [List.length_range] at this
      exact small1000 (by omega)
    · rw [upd_same, e', hp, if_pos rfl, List.map_append]; rfl
theorem comp_lst_map {α : Type} {a : Addr} (emb : α → V) (xs : List α) (p : α → Bool) (f : α → V) (hS : SqL K H1 a (xs.map emb)) (hn : xs.length ≤ 100) (hl : H1 l = none)
    (ht : ∀ x ∈ xs, ∀ H, Same H1 H → ∀ C, (∀ H', Same H H' → C (p x) H') → tt (some (emb x) :: inner σ fr) H C)
    (he : ∀ x ∈ xs, p x = true → ∀ H, Same H1 H → ∀ C, (∀ H', Same H H' → C (f x) H') → te (some (emb x) :: inner σ fr) H C)
    (hd : ∀ H, Same H1 H → H l = some (.lst ((xs.filter p).map f)) → Q (.ref l) H) : CompGoal (Itl K a) 1 (gName 0) fr tt te σ Q H1 l := by
  refine comp_lst1 (xs := xs.map emb) (fun k H => Same H1 H ∧ H l = some (.lst (((xs.take k).filter p).map f))) ⟨same_new hl _, upd_same⟩ (fun k H _ ⟨s, _⟩ => s.seq hS) ?_ fun H ⟨s, e⟩ => hd H s (by rw [List.length_map, List.take_length] at e; exact e)
  rintro k v H hv ⟨s, e⟩ K1 K0 h1 h0
  rw [List.getElem?_map] at hv
  obtain ⟨x, hx, rfl⟩ := Option.map_eq_some_iff.mp hv
  have hm : x ∈ xs := List.mem_of_getElem? hx
  refine ht x hm H s _ fun H' s' => ?_
  have e' : (xs.take (k + 1)).filter p = (xs.take k).filter p ++ (if p x = true then [x] else []) := by
    rw [List.take_succ, hx, List.filter_append]
    cases hp : p x <;> simp [hp]
  cases hp : p x with
  | false =>
    rw [if_neg (by decide)]
    refine h0 _ ⟨s.trans s', ?_⟩
    rw [e', hp, if_neg (by decide), List.append_nil]
    exact s' _ _ e
  | true =>
    rw [if_pos rfl]
    refine he x hm hp H' (s.trans s') _ fun H'' s'' => ?_
    refine h1 _ _ _ (s'' _ _ (s' _ _ e)) ?_ ⟨((s.trans s').trans s'').upd hl _, ?_⟩
    · rw [List.length_map]
      have h1 := List.length_filter_le p (xs.take k)
      have h2 := List.length_take_le' k xs
      exact small1000 (by omega)
    · rw [upd_same, e', hp, if_pos rfl, List.map_append]; rfl
end
theorem at_nat {α : Type} {xs : List α} {k : Nat} {x : α} (h : xs[k]? = some x) : atI xs (k : Int) = some x := atI_nat h
end L2
namespace L2
open PySem PySem.Spec PyProof.Rows
/-! ### == and != of two lists of whole numbers -/
noncomputable def rEqI (K : PySem.W.Frag) (neg : Bool) : R2 := fun x y H Q => ∃ (a b : Addr) (ns ms : List Int), x = .ref a ∧ y = .ref b ∧ SqL K H a (ns.map V.int) ∧ SqL K H b (ms.map V.int) ∧ Q (.bl (if neg then !decide (ns = ms) else decide (ns = ms))) H
theorem ints_all {ns ms : List Int} (h : ns.length = ms.length) : ((List.range ns.length).all fun j => ns.getD j 0 == ms.getD j 0) = decide (ns = ms) := by
  rw [Bool.eq_iff_iff, List.all_eq_true, decide_eq_true_iff]
  constructor
  · intro q
    refine List.ext_getElem? fun i => ?_
    by_cases hi : i < ns.length
    · have := q i (List.mem_range.mpr hi)
      have e : ns.getD i 0 = ms.getD i 0 := by simpa using this
      rw [List.getD_eq_getElem?_getD, List.getD_eq_getElem?_getD, List.getElem?_eq_getElem hi, List.getElem?_eq_getElem (by rw [← h]; exact hi)] at e
      rw [List.getElem?_eq_getElem hi, List.getElem?_eq_getElem (by rw [← h]; exact hi)]
      exact congrArg some e
    · rw [List.getElem?_eq_none (by omega), List.getElem?_eq_none (by omega)]
  · intro e j _
    rw [e]; simp
theorem eqAt_ints {A : Around} {s : Shared} {ns ms : List Int} {us vs : List Value} (r1 : Vals (ns.map V.int) us) (r2 : Vals (ms.map V.int) vs) (j : Nat) (h1 : j < us.toArray.size) (h2 : j < vs.toArray.size) : SeqAt.EqAt A s us.toArray[j] vs.toArray[j] (ns.getD j 0 == ms.getD j 0) := by
  obtain ⟨t, e1⟩ := ints_at r1 (Array.getElem?_eq_getElem h1)
  obtain ⟨t', e2⟩ := ints_at r2 (Array.getElem?_eq_getElem h2)
  rw [e1, e2]
  exact SeqAt.EqAt.int_int _ _ _ _
theorem op_eqI {X : Cx} (hu : X.A.units < cLine) : OpR X (compareOp .Eq) (rEqI X.K false) := by
  intro pins s σ H x y v u Q I rx ry h
  obtain ⟨a, b, ns, ms, rfl, rfl, ha, hb, q⟩ := h
  cases rx; cases ry
  obtain ⟨its, r1, p1, _⟩ := I.list ha
  obtain ⟨its2, r2, p2, _⟩ := I.list hb
  have l1 := r1.length
  have l2 := r2.length
  rw [List.length_map] at l1 l2
  by_cases hl : ns.length = ms.length
  · refine SeqAt.eq_listAt p1.isList p2.isList (by rw [List.size_toArray, List.size_toArray]; omega) hu (fun j h1 h2 => eqAt_ints r1 r2 j h1 h2) ?_
    refine ⟨_, H, I, ?_, q⟩
    show Value.bool _ = Value.bool (decide (ns = ms))
    rw [List.size_toArray, ← l1, ints_all hl]
  · refine SeqAt.eq_list_lengthsAt p1.isList p2.isList (by rw [List.size_toArray, List.size_toArray]; simp; omega) hu ?_
    refine ⟨_, H, I, ?_, q⟩
    show Value.bool false = Value.bool (decide (ns = ms))
    rw [decide_eq_false fun e => hl (by rw [e])]
end L2
namespace L2
open PySem PySem.Spec PyProof.Rows
section
variable {X : Cx}
theorem op_andN : OpR X (binaryOp .BitAnd) (fun x y H Q => ∃ a b : Nat, x = .int a ∧ y = .int b ∧ Q (.int ((a &&& b : Nat) : Int)) H) := by
  intro pins s σ H x y v u Q I rx ry ⟨a, b, e1, e2, q⟩
  exact op_and pins s σ H x y v u Q I rx ry ⟨_, _, e1, e2, by show Q (.int (Builtin.bitAnd a b)) H; rw [and_nat]; exact q⟩
theorem op_orN : OpR X (binaryOp .BitOr) (fun x y H Q => ∃ a b : Nat, x = .int a ∧ y = .int b ∧ Q (.int ((a ||| b : Nat) : Int)) H) := by
  intro pins s σ H x y v u Q I rx ry ⟨a, b, e1, e2, q⟩
  exact op_or pins s σ H x y v u Q I rx ry ⟨_, _, e1, e2, by show Q (.int (Builtin.bitOr a b)) H; rw [or_nat]; exact q⟩
theorem op_shlN : OpR X (binaryOp .LShift) (fun x y H Q => ∃ k : Nat, x = .int 1 ∧ y = .int k ∧ k ≤ 1000 ∧ Q (.int ((2 ^ k : Nat) : Int)) H) := by
  intro pins s σ H x y v u Q I rx ry ⟨k, e1, e2, hk, q⟩
  exact op_shl pins s σ H x y v u Q I rx ry ⟨1, k, e1, e2, ⟨by omega, by omega, by decide⟩, by show Q (.int ((1 : Int) * 2 ^ (k : Int).toNat)) H; rw [shl_nat]; exact q⟩
theorem op_shrN : OpR X (binaryOp .RShift) (fun x y H Q => ∃ a k : Nat, x = .int a ∧ y = .int k ∧ Q (.int ((a / 2 ^ k : Nat) : Int)) H) := by
  intro pins s σ H x y v u Q I rx ry ⟨a, k, e1, e2, q⟩
  refine op_shr pins s σ H x y v u Q I rx ry ⟨a, k, e1, e2, by show (0 : Int) ≤ (k : Int); omega, ?_⟩
  show Q (.int ((a : Int) / 2 ^ (k : Int).toNat)) H
  rw [Int.toNat_natCast]
  have e : ((a / 2 ^ k : Nat) : Int) = (a : Int) / 2 ^ k := by rw [Int.natCast_ediv, Int.natCast_pow]; rfl
  rw [← e]; exact q
end
end L2
namespace L2
open PySem PySem.Spec PyProof.Rows
/-- the answer by an equation -/
theorem opE {X : Cx} {f : Value → Value → Sem Value} {C : Int → Int → Prop} {g : Int → Int → V} (h : OpR X f (rI C g)) : OpR X f (fun x y H Q => ∃ i j r, x = .int i ∧ y = .int j ∧ C i j ∧ g i j = r ∧ Q r H) := by
  intro pins s σ H x y v u Q I rx ry ⟨i, j, r, e1, e2, hc, e3, q⟩
  subst e3
  exact h pins s σ H x y v u Q I rx ry ⟨i, j, e1, e2, hc, q⟩
theorem opE0 {X : Cx} {f : Value → Value → Sem Value} {g : Int → Int → V} (h : OpR X f (rI0 g)) : OpR X f (fun x y H Q => ∃ i j r, x = .int i ∧ y = .int j ∧ g i j = r ∧ Q r H) := by
  intro pins s σ H x y v u Q I rx ry ⟨i, j, r, e1, e2, e3, q⟩
  subst e3
  exact h pins s σ H x y v u Q I rx ry ⟨i, j, e1, e2, q⟩
end L2


set_option Elab.async false
set_option linter.all false
set_option maxRecDepth 100000
/-! for a, b in zip(xs, ys) -/
namespace L2
open PySem PySem.Spec PyProof.Rows
section
variable {X : Cx} {pins : List (Addr × Obj)} {σ : St} {H : Hp} {s : Shared} {h' : Heap}
theorem Inv.turnedL {t' : Nat} {ch : List Addr} (I : Inv X pins σ H s) (k : ∀ b o, b ∉ ch → s.heap.get? b = some o → h'.get? b = some o) (hf : ∀ b ∈ ch, FpOk X pins H b) : Inv X pins σ H { s with heap := h', toks := t' } := by
  have nit : ∀ b u, H b = some u → b ∉ ch := fun b u e z => by have := (hf b z).1; rw [e] at this; cases this
  refine I.step (g' := s.gens) (d' := s.drawn) (ch := ch) (fun b hb => ?_) (fun b o _ _ hc e _ => k b o hc e) (fun b o _ _ hc e _ => ⟨o.slots, k b o hc e⟩) (fun _ _ _ _ n => n)
    (fun b o hc e => ⟨o, k b o hc e⟩) (fun _ _ e => e) (fun _ _ _ e => e) (fun b ps e => ⟨#[], by rw [e]; simp⟩) (fun m hm => ?_) (fun b u e => ?_) I.bare
  · obtain ⟨f0, f1, f2, f3, f4, f5⟩ := hf b hb
    exact ⟨f3, f1, f4, f5⟩
  · obtain ⟨o, es, ep, ho, r⟩ := hm
    exact ⟨o, es, ep, k _ o (fun z => (hf _ z).2.1 rfl) ho, r⟩
  · refine (I.hok b u e).stay (fun c v hc q => k c v ?_ q) (fun _ q => q) fun _ _ q => q
    rcases hc with z | z
    · rw [z]; exact nit b u e
    · exact nit c _ z
end
noncomputable def Itz (K : PySem.W.Frag) (a b : Addr) : It :=
  ⟨fun i H => ∃ xs x ys y, SqL K H a xs ∧ xs[i]? = some x ∧ SqL K H b ys ∧ ys[i]? = some y,
   fun i H v H' => ∃ p x y, v = .ref p ∧ H p = none ∧ H' = upd H p (.tup [x, y]) ∧ (∀ xs, SqL K H a xs → xs[i]? = some x) ∧ (∀ ys, SqL K H b ys → ys[i]? = some y),
   fun i H => ∃ xs ys, SqL K H a xs ∧ SqL K H b ys ∧ (xs.length ≤ i ∨ ys.length ≤ i)⟩
theorem turn_zip {P : Program} {w : World} {K : PySem.W.Frag} {es : List Expr} {kk : Nat} {pos : Pos} (a b z TI TO i1 i2 : Addr) (D : ZipApart z TI TO i1 i2 a b) :
    Turn P w K (.Tuple es kk pos) (Itz K a b) [z, TI, TO, i1, i2] z (fun i h => IsZip h z TI TO .none ∧ IsPair h TI (.ref i1) (.ref i2) ∧ (∃ u v, IsPair h TO u v) ∧ h.IsListIter i1 a i ∧ h.IsListIter i2 b i) where
  mem := by simp
  obj := fun i h st c hc => by
    obtain ⟨hz, hTI, ⟨u, v, hTO⟩, ⟨o1, e1, c1, d1⟩, ⟨o2, e2, c2, d2⟩⟩ := st
    simp only [List.mem_cons, List.not_mem_nil, or_false] at hc
    rcases hc with rfl | rfl | rfl | rfl | rfl
    · exact ⟨_, hz, fun v x => by cases x⟩
    · exact ⟨_, hTI, fun v x => by cases x⟩
    · exact ⟨_, hTO, fun v x => by cases x⟩
    · exact ⟨_, e1, fun v x => by rw [d1] at x; cases x⟩
    · exact ⟨_, e2, fun v x => by rw [d2] at x; cases x⟩
  keep := fun i h h' st k => by
    obtain ⟨hz, hTI, ⟨u, v, hTO⟩, h1, h2⟩ := st
    exact ⟨k z (by simp) _ hz, k TI (by simp) _ hTI, ⟨u, v, k TO (by simp) _ hTO⟩, h1.at fun o e => k i1 (by simp) o e, h2.at fun o e => k i2 (by simp) o e⟩
  item := by
    intro X hP hw hK hc i pins s σ H E I hf st hg
    subst hP hw hK
    obtain ⟨hz, hTI, ⟨u, v, hTO⟩, h1, h2⟩ := st
    obtain ⟨xs, x, ys, y, hq1, hx, hq2, hy⟩ := hg
    obtain ⟨its, rv, p, hz1⟩ := I.list hq1
    obtain ⟨its2, rv2, p2, hz2⟩ := I.list hq2
    obtain ⟨ux, hux, rux⟩ := rv.get hx
    obtain ⟨uy, huy, ruy⟩ := rv2.get hy
    refine wpAny_pyNext_zip_item D hz hTI hTO h1 h2 p.isList p2.isList (x := ux) (y := uy) (by simpa using hux) (by simpa using huy) fun h' a1 a2 a3 a4 a5 a6 hk => ?_
    have lt : ∀ {c o}, s.heap.get? c = some o → c < s.heap.objs.size := fun e => Heap.lt_size e
    have ltz : ∀ c ∈ [z, TI, TO, i1, i2], c < s.heap.objs.size := by
      intro c hc
      simp only [List.mem_cons, List.not_mem_nil, or_false] at hc
      rcases hc with rfl | rfl | rfl | rfl | rfl
      · exact lt hz
      · exact lt hTI
      · exact lt hTO
      · obtain ⟨_, e, _⟩ := h1; exact lt e
      · obtain ⟨_, e, _⟩ := h2; exact lt e
    -- the tuple is laid, then the iterator's objects turn
    have I1 : Inv X pins σ (upd H s.heap.objs.size (.tup [x, y])) { s with heap := s.heap.push { cls := .type "tuple", data := .seq #[ux, uy] }, toks := s.toks } := by
      refine I.laid (fun c o e => Heap.get?_push_of_some _ e) (Nat.le_refl _) ⟨by show 2 ≤ sizeLine; decide, [ux, uy], .cons rux (.cons ruy .nil), ?_⟩
      exact ⟨_, Heap.get?_push_size _ rfl, rfl, _, rfl⟩
    have hfr : ∀ c ∈ [z, TI, TO, i1, i2], upd H s.heap.objs.size (.tup [x, y]) c = none := fun c hc => by
      rw [upd_ne (Nat.ne_of_lt (ltz c hc))]; exact (hf c hc).1
    have hf1 : ∀ c ∈ [z, TI, TO, i1, i2], FpOk X pins (upd H s.heap.objs.size (.tup [x, y])) c := fun c hc => ⟨hfr c hc, (hf c hc).2⟩
    have kk : ∀ c o, c ∉ [z, TI, TO, i1, i2] → (s.heap.push { cls := .type "tuple", data := .seq #[ux, uy] }).get? c = some o → h'.get? c = some o := fun c o hc e => by
      rcases Heap.get?_push_cases e with ⟨e9, e8⟩ | e'
      · subst e9 e8; exact a5
      · exact hk c o (fun x => hc (by simp [x])) (fun x => hc (by simp [x])) (fun x => hc (by simp [x])) (fun x => hc (by simp [x])) e'
    have I2 : Inv X pins σ (upd H s.heap.objs.size (.tup [x, y])) { s with heap := h' } := by
      have z := Inv.turnedL (t' := s.toks) I1 kk hf1
      exact z
    refine ⟨_, rfl, wpAny_letOwnedTupleGo_zip (s := { s with heap := h' }) a1 fun h'' hz'' hs'' => ?_⟩
    have I3 : Inv X pins σ (upd H s.heap.objs.size (.tup [x, y])) { s with heap := h'' } :=
      by
      have z := Inv.turnedL (h' := h'') (t' := s.toks) (ch := [z]) I2 (fun c o hc e => hs''.extBut c o (fun q => hc (by simp [q])) e) (fun c hc => hf1 c (by simp at hc; simp [hc]))
      exact z
    refine ⟨.ref s.heap.objs.size, _, I3, rfl, ⟨_, x, y, rfl, I.hok.fresh (Nat.le_refl _), rfl, fun zs hzs => by rw [I.list_inj hzs hq1]; exact hx, fun zs hzs => by rw [I.list_inj hzs hq2]; exact hy⟩, ?_, hfr⟩
    have hTI' : IsPair h' TI (.ref i1) (.ref i2) := hk _ _ D.TIz D.TITO D.TIi1 D.TIi2 hTI
    exact ⟨hz'', hs''.extBut _ _ D.TIz hTI', ⟨_, _, hs''.extBut _ _ D.TOz a2⟩, a3.extBut hs''.extBut D.i1z, a4.extBut hs''.extBut D.i2z⟩
  done := by
    intro X hP hw hK hc i pins s σ H E I hf st hg
    subst hP hw hK
    obtain ⟨hz, hTI, ⟨u, v, hTO⟩, h1, h2⟩ := st
    obtain ⟨xs, ys, hq1, hq2, hend⟩ := hg
    obtain ⟨its, rv, p, hz1⟩ := I.list hq1
    obtain ⟨its2, rv2, p2, hz2⟩ := I.list hq2
    have l1 := rv.length
    have l2 := rv2.length
    refine wpAny_pyNext_zip_end (I.ok.hd hc) D hz hTI hTO h1 h2 p.isList p2.isList ?_ fun h' hk => ⟨rfl, ?_⟩
    · rcases hend with q | q
      · exact .inl (by simp; omega)
      · exact .inr (by simp; omega)
    · exact I.turnedL (t' := s.toks) (ch := [z, TI, TO, i1, i2]) (fun c o hc e => hk c o (fun x => hc (by simp [x])) (fun x => hc (by simp [x])) (fun x => hc (by simp [x])) (fun x => hc (by simp [x])) e) hf
  self := fun _ _ _ _ _ st h => wpAny_pyIter_zip st.1 h
noncomputable def iZip (K : PySem.W.Frag) (ta : TA) : TI := fun σ H R => ta σ H fun vs H1 => ∃ a b, vs = [.ref a, .ref b] ∧ (∃ xs, SqL K H1 a xs) ∧ (∃ ys, SqL K H1 b ys) ∧ R (Itz K a b) H1
theorem pi_zip {X : Cx} {es : List Expr} {kk : Nat} {tp : Pos} {a b : Expr} {ta : TA} {p pos : Pos} (hg : Gl X "zip") (hm : X.mg "zip" = none) (ha : PA X [a, b] ta) (hs : noStar a = true) (hs2 : noStar b = true) :
    PI X (.Tuple es kk tp) (.Call (.Name "zip" p) [a, b] [] pos) (iZip X.K ta) := by
  intro pins s σ H R I h
  refine Call_ (ld_blt I hg hm boot_zip (PyProof.Rows.callWith_type1 (thn (ha pos pins s σ H _ I h) fun us s1 zz => ?_) (by rw [star_cons hs, star_cons hs2]) (by rw [star_cons hs2]; rfl)))
  obtain ⟨vs, H1, I1, r1, q1⟩ := zz
  obtain ⟨l1, l2, e, ⟨xs, hq1⟩, ⟨ys, hq2⟩, q⟩ := q1
  subst e
  obtain ⟨u, u', rfl, ru, ru'⟩ := vals2 r1
  cases ru; cases ru'
  obtain ⟨its, rv, p1, _⟩ := I1.list hq1
  obtain ⟨its2, rv2, p2, _⟩ := I1.list hq2
  have lt1 : l1 < s1.heap.objs.size := by obtain ⟨_, e, _⟩ := p1.isList; exact Heap.lt_size e
  have lt2 : l2 < s1.heap.objs.size := by obtain ⟨_, e, _⟩ := p2.isList; exact Heap.lt_size e
  refine call_zip_2 p1.isList p2.isList fun h' hz hTI hTO hi1 hi2 hsz hk => ?_
  refine wpAny_pyIter_zip hz ?_
  refine ⟨s1.heap.objs.size + 4, _, _, _, H1, rfl, I1.kept (t' := s1.toks) hk, turn_zip l1 l2 _ _ _ _ _ (zipApart_new lt1 lt2), ⟨hz, hTI, ⟨_, _, hTO⟩, hi1, hi2⟩, fun c hc => ?_, q⟩
  have hge : s1.heap.objs.size ≤ c := by
    simp only [List.mem_cons, List.not_mem_nil, or_false] at hc
    rcases hc with rfl | rfl | rfl | rfl | rfl
    · exact Nat.le_add_right _ _
    · exact Nat.le_add_right _ _
    · exact Nat.le_add_right _ _
    · exact Nat.le_refl _
    · exact Nat.le_add_right _ _
  exact I1.fpOk hge (I1.hok.fresh hge)
namespace R
theorem pi_zip {X : Cx} {es : List Expr} {kk : Nat} {tp : Pos} {a b : Expr} {ta : TA} {p pos : Pos} (hg : Gl X "zip") (hm : X.mg "zip" = none) (ha : QA X [a, b] ta) (hs : noStar a = true := by rfl) (hs2 : noStar b = true := by rfl) :
    QI X (.Tuple es kk tp) (.Call (.Name "zip" p) [a, b] [] pos) (iZip X.K ta) := ⟨L2.pi_zip hg hm ha.h hs hs2⟩
end R
/-! ### the forms one uses -/
theorem comp_zip2 {K : PySem.W.Frag} {fr : List Nat} {tt : TT} {te : TE} {σ : St} {Q : VK} {H1 : Hp} {l : Addr} {a b : Addr} {xs ys : List V} (hlen : xs.length = ys.length) (Pv : Nat → Hp → Prop) (h0 : Pv 0 (upd H1 l (.lst []))) (hl : ∀ k H, k ≤ xs.length → Pv k H → SqL K H a xs ∧ SqL K H b ys)
    (hs : ∀ k x y p H, xs[k]? = some x → ys[k]? = some y → Pv k H → H p = none → Turn2 fr tt te σ l x y (upd H p (.tup [x, y])) (Pv (k + 1))) (hd : ∀ H, Pv xs.length H → Q (.ref l) H) :
    CompGoal (Itz K a b) 2 (gTup K 2 (gCons (gName 0) (gCons (gName 1) gNil))) fr tt te σ Q H1 l :=
  comp_by2 xs.length Pv h0 (fun k H h p => ⟨xs, xs[k], ys, ys[k], (hl k H (Nat.le_of_lt h) p).1, by simp [h], (hl k H (Nat.le_of_lt h) p).2, by simp [hlen ▸ h]⟩) (fun H p => ⟨xs, ys, (hl _ H (Nat.le_refl _) p).1, (hl _ H (Nat.le_refl _) p).2, .inl (Nat.le_refl _)⟩)
    (fun k H v H' hk p hy => by
      obtain ⟨q, x, y, rfl, hn, rfl, h1, h2⟩ := hy
      exact ⟨q, x, y, rfl, SqT.of upd_same, hs k x y q H (h1 _ (hl k H (Nat.le_of_lt hk) p).1) (h2 _ (hl k H (Nat.le_of_lt hk) p).2) p hn⟩) hd
theorem for_zip {K : PySem.W.Frag} {a b : Addr} {xs ys : List V} {g : TG} {tb : TS} {D : Ends} {σ : St} {H : Hp} (hlen : xs.length = ys.length) (Pv : Nat → St → Hp → Prop) (h0 : Pv 0 σ H) (hl : ∀ i σ H, i ≤ xs.length → Pv i σ H → SqL K H a xs ∧ SqL K H b ys)
    (hs : ∀ i x y p σ H, xs[i]? = some x → ys[i]? = some y → Pv i σ H → H p = none → g (.ref p) σ (upd H p (.tup [x, y])) fun σ2 H2 => tb { D with nx := Pv (i + 1), ct := Pv (i + 1), bk := D.nx } σ2 H2) (hd : ∀ σ H, Pv xs.length σ H → D.nx σ H) :
    ∃ W : Nat → Nat → St → Hp → Prop, (∃ m, W 0 m σ H) ∧ ∀ i m σ H, W i m σ H →
      ((Itz K a b).stop i H ∧ D.nx σ H) ∨ ((Itz K a b).go i H ∧ ∃ N : St → Hp → Prop, (∀ σ' H', N σ' H' → ∃ m', m' < m ∧ W (i + 1) m' σ' H') ∧ ∀ x H', (Itz K a b).yld i H x H' → g x σ H' fun σ2 H2 => tb { D with nx := N, ct := N, bk := D.nx } σ2 H2) := by
  refine ⟨fun i m σ H => m = xs.length - i ∧ i ≤ xs.length ∧ Pv i σ H, ⟨xs.length, by simp, Nat.zero_le _, h0⟩, ?_⟩
  rintro i m σ H ⟨rfl, hi, p⟩
  have q := hl i σ H hi p
  by_cases hlt : i < xs.length
  · refine .inr ⟨⟨xs, xs[i], ys, ys[i], q.1, by simp [hlt], q.2, by simp [hlen ▸ hlt]⟩, Pv (i + 1), fun σ' H' p' => ⟨xs.length - (i + 1), by omega, rfl, hlt, p'⟩, fun v H' y => ?_⟩
    obtain ⟨r, x, y, rfl, hn, rfl, h1, h2⟩ := y
    exact hs i x y r σ _ (h1 _ q.1) (h2 _ q.2) p hn
  · have e : i = xs.length := by omega
    subst e
    exact .inl ⟨⟨xs, ys, q.1, q.2, .inl (Nat.le_refl _)⟩, hd σ H p⟩
end L2


set_option Elab.async false
set_option linter.all false
set_option maxRecDepth 100000
/-! max(xs, default=d) -/
namespace L2
open PySem PySem.Spec PyProof.Rows
section
variable {prog : Program} {w : World} {A : Around} {R : Result → Shared → Prop} {I : Addr} {fp wr : List Addr} {n : Nat} {P : Nat → Value → Prop} {St' : Nat → Heap → Prop} {kw : List (Str × Value)}
theorem gv_mx (W : Walks prog w A.in1 I fp wr n P St') (bt : Nat → Nat → Bool) (cmp : CmpOf prog w A.in1 .Gt P bt) {S : Addr} (nf : S ∉ fp) :
    ∀ (k j : Nat) (s : Shared) (vb : Value) (c : Nat), (j + 1) + k = n → St' (j + 1) s.heap → P (argBest bt j) vb → s.heap.get? S = some { cls := .type "list", dict := none, data := .seq #[vb, vb] c, slots := #[] } →
      (∀ v h' tk, P (argBest bt (n - 1)) v → (∀ b o, b ∉ wr → b ≠ S → s.heap.get? b = some o → h'.get? b = some o) → R (.ok (.ret v)) { s with heap := h', toks := tk }) →
      codeAny (model prog w) A (.builtin "max.loop" ⟨[.ref I, .none, .ref S], kw⟩) R s := by
  have nw : S ∉ wr := fun z => nf (W.sub _ z)
  have nm : (toString "max" ++ toString ".loop" : String) = "max.loop" := by decide
  intro k
  induction k with
  | zero =>
    intro j s vb c e0 st pb hS hR
    have e1 : n = j + 1 := by omega
    subst e1
    refine codeAny_builtin F.entry_max_loop ?_; rw [Around.under_plainId F.plain_max_loop _]; show wpAny _ A.in1 (seqItems? (.ref S) >>= _) _ _ s; refine wpAny_bind (wpAny_seqItems hS rfl ?_); show wpAny _ A.in1 (tryCatch (pyNext (.ref I)) _ >>= _) _ _ s
    refine wpAny_bind (wpAny_tryCatch (W.done s _ _ st fun g tk keep => ?_))
    show wpAny _ A.in1 (updateSeq S (fun _ => #[]) >>= _) _ _ _
    refine wpAny_bind (wpAny_updateSeq (keep S _ nw hS) rfl (wpAny_bind (wpAny_letGo (wpAny_pure (hR vb _ tk pb fun b o q1 q2 e => ?_)))))
    exact (Heap.get?_update_other _ _ (Ne.symm q2)).trans (keep b o q1 e)
  | succ k ih =>
    intro j s vb c e0 st pb hS hR
    refine codeAny_builtin F.entry_max_loop ?_; rw [Around.under_plainId F.plain_max_loop _]; show wpAny _ A.in1 (seqItems? (.ref S) >>= _) _ _ s; refine wpAny_bind (wpAny_seqItems hS rfl ?_); show wpAny _ A.in1 (tryCatch (pyNext (.ref I)) _ >>= _) _ _ s
    refine wpAny_bind (wpAny_tryCatch (W.item (j + 1) s _ _ (by omega) st fun v g tk pv st2 keep => ?_))
    have hS2 := keep S _ nw hS
    show wpAny _ A.in1 (tryCatch (holding [v, v] (richCompare .Gt v vb >>= _)) _ >>= _) _ _ _
    refine wpAny_bind (wpAny_tryCatch (wpAny_holding (wpAny_bind (cmp (j + 1) (argBest bt j) v vb _ _ _ pv pb (wpAny_bind (wpAny_holding (wpAny_truthy_bool (wpAny_bind (wpAny_letGo (wpAny_pure ?_)))))))))) 
    have ea : argBest bt (j + 1) = if bt (j + 1) (argBest bt j) = true then j + 1 else argBest bt j := rfl
    by_cases hb : bt (j + 1) (argBest bt j) = true
    · rw [if_pos hb] at ea ⊢
      refine wpAny_bind (wpAny_updateSeq hS2 rfl (wpAny_bind (wpAny_letGo ?_)))
      rw [nm]
      refine wpAny_pure ⟨plainId_quiet F.plain_max_loop _, ih (j + 1) _ v _ (by omega) (W.frame _ _ _ st2 fun b q o e => ?_) (by rw [ea]; exact pv) (Heap.get?_update_self _ hS2 rfl) fun v' g' tk' pv' keep' => ?_⟩
      · exact (Heap.get?_update_other _ _ (fun z : S = b => nf (z ▸ q))).trans e
      · exact hR v' g' tk' pv' fun b o q1 q2 e => keep' b o q1 q2 ((Heap.get?_update_other _ _ (Ne.symm q2)).trans (keep b o q1 e))
    · rw [if_neg hb] at ea ⊢
      refine wpAny_bind (wpAny_letGo ?_)
      rw [nm]
      refine wpAny_pure ⟨plainId_quiet F.plain_max_loop _, ih (j + 1) _ vb c (by omega) st2 (by rw [ea]; exact pb) hS2 fun v' g' tk' pv' keep' => ?_⟩
      exact hR v' g' tk' pv' fun b o q1 q2 e => keep' b o q1 q2 (keep b o q1 e)
theorem gv_mx0 {d : Value} (W : Walks prog w A.in1 I fp wr n P St') (bt : Nat → Nat → Bool) (cmp : CmpOf prog w A.in1 .Gt P bt) {S : Addr} (nf : S ∉ fp) {s : Shared} {c : Nat} (st : St' 0 s.heap) (hS : s.heap.get? S = some { cls := .type "list", dict := none, data := .seq #[] c, slots := #[] })
    (hR : ∀ v h' tk, (n = 0 ∧ v = d ∨ 0 < n ∧ P (argBest bt (n - 1)) v) → (∀ b o, b ∉ wr → b ≠ S → s.heap.get? b = some o → h'.get? b = some o) → R (.ok (.ret v)) { s with heap := h', toks := tk }) :
    codeAny (model prog w) A (.builtin "max.loop" ⟨[.ref I, .none, .ref S], [(Str.ofString "default", d)]⟩) R s := by
  have nw : S ∉ wr := fun z => nf (W.sub _ z)
  have nm : (toString "max" ++ toString ".loop" : String) = "max.loop" := by decide
  refine codeAny_builtin F.entry_max_loop ?_; rw [Around.under_plainId F.plain_max_loop _]; show wpAny _ A.in1 (seqItems? (.ref S) >>= _) _ _ s; refine wpAny_bind (wpAny_seqItems hS rfl ?_); show wpAny _ A.in1 (tryCatch (pyNext (.ref I)) _ >>= _) _ _ s
  rcases Nat.eq_zero_or_pos n with e0 | e0
  · refine wpAny_bind (wpAny_tryCatch (W.done s _ _ (by rw [e0]; exact st) fun g tk keep => ?_))
    refine wpAny_bind (wpAny_rule (wpAny_pure ?_))
    exact hR d g tk (.inl ⟨e0, rfl⟩) fun b o q1 _ e => keep b o q1 e
  · refine wpAny_bind (wpAny_tryCatch (W.item 0 s _ _ e0 st fun v g tk pv st2 keep => ?_))
    have hS2 := keep S _ nw hS
    show wpAny _ A.in1 (updateSeq S (fun _ => #[v, v]) >>= _) _ _ _
    refine wpAny_bind (wpAny_updateSeq hS2 rfl ?_)
    rw [nm]
    refine wpAny_pure ⟨plainId_quiet F.plain_max_loop _, gv_mx W bt cmp nf (n - 1) 0 _ v _ (by omega) (W.frame _ _ _ st2 fun b q o e => ?_) pv (Heap.get?_update_self _ hS2 rfl) fun v' g' tk' pv' keep' => ?_⟩
    · exact (Heap.get?_update_other _ _ (fun z : S = b => nf (z ▸ q))).trans e
    · exact hR v' g' tk' (.inr ⟨e0, pv'⟩) fun b o q1 q2 e => keep' b o q1 q2 ((Heap.get?_update_other _ _ (Ne.symm q2)).trans (keep b o q1 e))
end
theorem gv_max_args (a v : Value) : argsOk "max" ⟨[a], [(Str.ofString "default", v)]⟩ := by unfold argsOk; kernel_rfl
section
variable {X : Cx}
theorem gv_maxD {pins : List (Addr × Obj)} {s : Shared} {σ : St} {H : Hp} {Q : VK} {p : Addr} {ns : List Int} {d : Int} {t : Tok} (hc : X.calm = true) (J : Inv X pins σ H s) (hq : SqL X.K H p (ns.map V.int)) (q0 : ns = [] → Q (.int d) H) (q1 : ∀ m, IsMax ns m → Q (.int m) H) :
    wpAny (model X.prog X.w) X.A (call (.builtin "max") [.ref p] [(Str.ofString "default", .int d t)]) (EP X pins σ Q) X.xe s := by
  obtain ⟨its, r', pl, hz⟩ := J.list hq
  have hl := r'.length
  rw [List.length_map] at hl
  have hlt : p < s.heap.objs.size := by obtain ⟨_, e, _⟩ := pl.isList; exact Heap.lt_size e
  have nm : (toString "max" ++ toString ".loop" : String) = "max.loop" := by decide
  refine kmk_tree PySem.F.kind_max PySem.F.plain_max PySem.F.entry_max (gv_max_args _ _) ?_
  show wpAny _ X.A.in1 (Builtin.Builtins.bindParams "max" ["key", "default"] 0 ⟨[], [(Str.ofString "default", .int d t)]⟩ >>= _) _ _ s
  refine wpAny_bind (wpAny_of_eq (show Builtin.Builtins.bindParams "max" ["key", "default"] 0 ⟨[], [(Str.ofString "default", .int d t)]⟩ = pure [none, some (.int d t)] from rfl) (wpAny_bind (wpAny_pure ?_)))
  refine wpAny_bind (wpAny_pyIter_list pl.isList (wpAny_bind (wpAny_newObj_type ?_)))
  rw [nm]
  have hI : p ≠ s.heap.objs.size := Nat.ne_of_lt hlt
  have hsz : (s.heap.push { cls := .type "list_iterator", data := .fields #[.ref p, .int 0 0] }).objs.size = s.heap.objs.size + 1 := Heap.size_push ..
  refine wpAny_pure ⟨plainId_quiet F.plain_max_loop _, gv_mx0 (Walks.list (A := X.A.in1) (J.ok.hd hc) s.heap.objs.size p hI its.toArray) _ (CmpOf.ints_gt (fun i => ns.getD i 0) (fun i v e => ints_at r' e)) ?_ ?_ (Heap.get?_push_size _ rfl) ?_⟩
  · intro z
    rw [hsz] at z
    rcases List.mem_cons.mp z with z | z
    · exact absurd z (Nat.ne_of_gt (Nat.lt_succ_self _))
    · have z' := List.mem_singleton.mp z
      exact absurd z'.symm (Nat.ne_of_lt (Nat.lt_succ_of_lt hlt))
  · exact ⟨⟨_, Heap.get?_push_of_some _ (Heap.get?_push_size _ rfl), rfl, rfl⟩, (pl.isList.push _).push _⟩
  · intro v g tk hv keep
    have J' : Inv X pins σ H { s with heap := g, toks := tk } := by
      refine J.kept fun b o e => keep b o (fun z => ?_) (fun z => ?_) (Heap.get?_push_of_some _ (Heap.get?_push_of_some _ e))
      · rw [List.mem_singleton.mp z] at e; exact absurd (Heap.lt_size e) (Nat.lt_irrefl _)
      · rw [z, hsz] at e; exact absurd (Nat.lt_of_succ_lt (Heap.lt_size e)) (Nat.lt_irrefl _)
    rcases hv with ⟨e0, rfl⟩ | ⟨e0, hv⟩
    · rw [List.size_toArray] at e0
      exact ⟨.int d, H, J', ⟨t, rfl⟩, q0 (List.length_eq_zero_iff.mp (by omega))⟩
    · obtain ⟨t', rfl⟩ := ints_at r' hv
      rw [List.size_toArray] at e0
      refine ⟨.int _, H, J', ⟨t', rfl⟩, q1 _ ?_⟩
      rw [List.size_toArray, ← hl]
      exact best_isMax (by omega)
noncomputable def tMaxD (K : PySem.W.Frag) (te td : TE) : TE := fun σ H Q => te σ H fun x H1 => td σ H1 fun y H2 => ∃ (p : Addr) (ns : List Int) (d : Int), x = .ref p ∧ y = .int d ∧ SqL K H2 p (ns.map V.int) ∧ (ns = [] → Q (.int d) H2) ∧ ∀ m, IsMax ns m → Q (.int m) H2
theorem pe_maxD {e d : Expr} {te td : TE} {p kpos pos : Pos} (hc : X.calm = true) (hg : Gl X "max") (hm : X.mg "max" = none) (ha : PE X e te) (hd : PE X d td) (hs : noStar e = true) :
    PE X (.Call (.Name "max" p) [e] [⟨some "default", d, kpos⟩] pos) (tMaxD X.K te td) := by
  intro pins s σ H Q I h
  refine wpAny_Call_Name_kw (ld_blt I hg hm boot_max ?_)
  refine callWith_kw (thn ((pa_c ha pa_nil hs) pos pins s σ H (fun vs H1 => match vs with
    | [x] => td σ H1 fun y H2 => ∃ (p : Addr) (ns : List Int) (d : Int), x = .ref p ∧ y = .int d ∧ SqL X.K H2 p (ns.map V.int) ∧ (ns = [] → Q (.int d) H2) ∧ ∀ m, IsMax ns m → Q (.int m) H2
    | _ => False) I h) fun us s1 zz => ?_) (by rw [star_cons hs]; rfl) (by rw [star_cons hs]; rfl) rfl rfl
  obtain ⟨vs, H1, I1, r1, q1⟩ := zz
  match vs, q1 with
  | [x], q1 =>
    obtain ⟨u, rfl, ru⟩ := vals1 r1
    refine kws_cons (thn (hd pins s1 σ H1 _ I1 q1) fun v s2 zz => kws_nil ?_)
    obtain ⟨y, H2, I2, r2, p2, ns, dd, e1, e2, hq, q0, qm⟩ := zz
    subst e1 e2
    cases ru
    obtain ⟨t, rfl⟩ := r2
    exact gv_maxD hc I2 hq q0 qm
end
namespace R
theorem pe_maxD {X : Cx} (K : PySem.W.Frag) {e d : Expr} {te td : TE} {p kpos pos : Pos} (hc : X.calm = true) (hg : Gl X "max") (hm : X.mg "max" = none) (ha : QE X e te) (hd : QE X d td) (hs : noStar e = true := by rfl) (hK : X.K = K := by rfl) :
    QE X (.Call (.Name "max" p) [e] [⟨some "default", d, kpos⟩] pos) (tMaxD K te td) := by subst hK; exact ⟨L2.pe_maxD hc hg hm ha.h hd.h hs⟩
end R
end L2


set_option Elab.async false
set_option linter.all false
set_option maxRecDepth 100000
/-! bundles within bundles; what offers tell -/
namespace L2
/-! ### parts -/
theorem sub_bits {b c : Nat} : b &&& c = c ↔ ∀ k, c.testBit k = true → b.testBit k = true := by
  constructor
  · intro h k hk
    have : (b &&& c).testBit k = true := by rw [h]; exact hk
    rw [Nat.testBit_and, Bool.and_eq_true] at this
    exact this.1
  · intro h
    refine Nat.eq_of_testBit_eq fun k => ?_
    rw [Nat.testBit_and]
    cases hc : c.testBit k with
    | false => rw [Bool.and_false]
    | true => rw [h k hc]; rfl
theorem sub_trans {a b c : Nat} (h1 : a &&& b = b) (h2 : b &&& c = c) : a &&& c = c := by
  rw [sub_bits] at *
  exact fun k hk => h1 k (h2 k hk)
/-! ### worths and offers -/
/-- the greatest number of a list, 0 of none -/
noncomputable def top (ns : List Int) : Int := ns.foldl max 0
theorem top_ge (ns : List Int) : ∀ a : Int, a ≤ ns.foldl max a ∧ ∀ x ∈ ns, x ≤ ns.foldl max a := by
  induction ns with
  | nil => intro a; exact ⟨Int.le_refl _, fun x h => by cases h⟩
  | cons y ns ih =>
    intro a
    obtain ⟨h1, h2⟩ := ih (max a y)
    refine ⟨Int.le_trans (Int.le_max_left a y) h1, fun x hx => ?_⟩
    rcases List.mem_cons.mp hx with e | hx
    · rw [e]; exact Int.le_trans (Int.le_max_right a y) h1
    · exact h2 x hx
theorem top_mem (ns : List Int) : ∀ a : Int, ns.foldl max a = a ∨ ns.foldl max a ∈ ns := by
  induction ns with
  | nil => intro a; exact .inl rfl
  | cons y ns ih =>
    intro a
    show ns.foldl max (max a y) = a ∨ ns.foldl max (max a y) ∈ y :: ns
    rcases ih (max a y) with h | h
    · rw [h]
      rcases Int.le_total a y with q | q
      · rw [Int.max_eq_right q]; exact .inr List.mem_cons_self
      · rw [Int.max_eq_left q]; exact .inl rfl
    · exact .inr (List.mem_cons_of_mem _ h)
theorem top_isMax {ns : List Int} {m : Int} (h0 : ∀ x ∈ ns, 0 ≤ x) (h : IsMax ns m) : m = top ns := by
  have h1 := (top_ge ns 0).2 m h.1
  rcases top_mem ns 0 with e | e
  · have := h0 m h.1
    unfold top; omega
  · have := h.2 _ e
    unfold top; omega
theorem top_nonneg (ns : List Int) : 0 ≤ top ns := (top_ge ns 0).1
end L2


set_option Elab.async false
set_option linter.all false
set_option maxRecDepth 100000
/-! a def with one default value, whatever it is -/
namespace L2
open PySem PySem.Spec PyProof.Rows
section
variable {P : Program} {w : World} {K : PySem.W.Frag} {mg : Str → Option Value} {base : Heap}
end
end L2


set_option Elab.async false
set_option linter.all false
set_option maxRecDepth 100000
/-! tuples of two whole numbers and lists of them: !=, ==; list.clear, pop(i), insert; a < b < c -/
namespace L2
open PySem PySem.Spec PyProof.Rows
section
variable {X : Cx}
end
/-! ### shut -/
namespace R
section
variable {X : Cx} {e e2 o a b c : Expr} {to ta tb tc : TE} {t : TA} {pos apos cpos : Pos}
theorem pe_clear (ho : QE X o to) (hbase : attributeBase o "clear" X.env (eval o X.env) = eval o X.env := by rfl) (hline : (apos.endLine == cpos.line) = true := by rfl) :
    QE X (.Call (.Attribute o "clear" apos) [] [] cpos) (tBM0 X.K "list" rClear to) := ⟨pe_bm0 PySem.F.plainAttrs_list PySem.F.slot_list_clear PySem.F.type_list_clear mt_clear ho.h hbase hline⟩
theorem pe_chain {op op' : CmpOp} {r r' : R2} (h1 : OpR X (compareOp op) r) (h2 : OpR X (compareOp op') r') (ha : QE X a ta) (hb : QE X b tb) (hc : QE X c tc)
    (hm : lastMarks [op, op'] [b, c] = false := by with_unfolding_all rfl) : QE X (.Compare a [op, op'] [b, c] pos) (tChain r r' ta tb tc) := ⟨L2.pe_chain h1 h2 ha.h hb.h hc.h hm⟩
end
end R
end L2


set_option Elab.async false
set_option linter.all false
set_option maxRecDepth 100000
/-! own classes: making, fields, methods chosen by the object's class, isinstance -/
namespace L2
open PySem PySem.Spec PyProof.Rows
noncomputable def clsBody (s : Stmt) : List Stmt := match s with
  | .ClassDef _ _ _ b _ _ _ _ _ _ _ => b
  | _ => []
/-- what is known of an own class: its name in the module, the names that are no attributes of it -/
structure Own (K : PySem.W.Frag) (mg : Str → Option Value) (x : Str) (C : Addr) (nos : List Str) : Prop where
  at_ : mg x = some (.ref C)
  cls : Cls K C
  makes : PySem.W.makesIn K C = true
  kp : PySem.W.keepIn K (.ref C) = true
  no : ∀ f ∈ nos, NoAttr K C f
  t1 : PySem.W.findIn K (.ref C) "__class__" = some (some (.builtin "object.__class__"))
  t2 : PySem.W.specialIn K (.builtin "object.__class__") "__get__" = some (some (.builtin "getset_descriptor.__get__"))
  t3 : PySem.W.takesIn K (.builtin "object.__class__") = some true
  t4 : PySem.W.mroIn K C (.type "object") = some true
theorem Own.ty {K : PySem.W.Frag} {mg : Str → Option Value} {x : Str} {C a dx : Addr} {nos : List Str} {H : Hp} {fs : List (Str × V)} (O : Own K mg x C nos) (e : H a = some (.ins C dx fs)) : TyOf K H (.ref a) (.ref C) := .ins e O.cls O.t1 O.t2 O.t3 O.t4
structure MethD (P : Program) (w : World) (K : PySem.W.Frag) (mg : Str → Option Value) (base : Heap) (k : Nat) (C : Addr) (m : Str) (ps : List Str) (sp : Sp) : Prop where
  ex : ∃ (f : Addr) (fd : FuncData), FnOk P w K mg base CX0 k f fd ps sp ∧ Binds K fd ps [] ∧ Meth K C m f ∧ Cls K C
structure MakeD (P : Program) (w : World) (K : PySem.W.Frag) (mg : Str → Option Value) (base : Heap) (k : Nat) (x : Str) (C : Addr) (ps : List Str) (sp : Sp) : Prop where
  ex : ∃ (f : Addr) (fd : FuncData), FnOk P w K mg base CX0 k f fd ps sp ∧ Binds K fd ps [] ∧ Mk K C f ∧ mg x = some (.ref C)
structure Make0 (K : PySem.W.Frag) (mg : Str → Option Value) (x : Str) (C : Addr) : Prop where
  makes : PySem.W.makesIn K C = true
  init : PySem.W.findIn K (.ref C) "__init__" = some (some (.builtin "object.__init__"))
  kp : PySem.W.keepIn K (.ref C) = true
  at_ : mg x = some (.ref C)
section
variable {X : Cx}
theorem run_make0 {pins : List (Addr × Obj)} {σ : St} {H : Hp} {s : Shared} {Q : VK} {C : Addr} {x : Str} (M : Make0 X.K X.mg x C) (I : Inv X pins σ H s)
    (h : ∀ a dx, H a = none → H dx = none → dx ≠ a → Q (.ref a) (upd (upd H dx (.own a)) a (.ins C dx []))) : wpAny (model X.prog X.w) X.A (call (.ref C) []) (EP X pins σ Q) X.xe s := by
  have hq := h (s.heap.objs.size + 1) s.heap.objs.size (I.hok.fresh (Nat.le_succ _)) (I.hok.fresh (Nat.le_refl _)) (Nat.ne_of_lt (Nat.lt_succ_self _))
  have I2 := Inv.made (C := C) I
  have Y := PySem.W.makes_of (M := model X.prog X.w) I.kIn M.makes
  have up : ∀ b o, s.heap.get? b = some o → ((s.heap.push PySem.W.emptyDict).push (PySem.W.instObj C s.heap.objs.size)).get? b = some o := fun b o e => Heap.get?_push_of_some _ (Heap.get?_push_of_some _ e)
  have hx : ((s.heap.push PySem.W.emptyDict).push (PySem.W.instObj C s.heap.objs.size)).get? (s.heap.objs.size + 1) = some (PySem.W.instObj C s.heap.objs.size) := by
    have z := Heap.get?_push_size (s.heap.push PySem.W.emptyDict) (o := PySem.W.instObj C s.heap.objs.size) rfl
    rwa [Heap.size_push] at z
  have t1 : PySem.W.Looks (model X.prog X.w) ((s.heap.push PySem.W.emptyDict).push (PySem.W.instObj C s.heap.objs.size)) (typeOf (.ref (s.heap.objs.size + 1))) (.ref C) := (PySem.W.Looks.ld hx).andThen .now
  have t2 : PySem.W.Looks (model X.prog X.w) ((s.heap.push PySem.W.emptyDict).push (PySem.W.instObj C s.heap.objs.size)) (isInstance (.ref (s.heap.objs.size + 1)) (.type "object")) true := t1.andThen (Y.top.keeps up)
  refine wpAny_call (make_map0 I.kIn M.makes M.init (fun self => PySem.W.Looks.of_pure (PySem.W.oi_bind self)) ?_)
  refine codeAny_call_builtin PySem.W.oi_plain PySem.W.entry_oi (@PySem.W.check_slot (model X.prog X.w) _ _ _ "object.__init__" "object" "__init__" (.ref (s.heap.objs.size + 1)) [] [] _ PySem.W.oi_kind PySem.W.oi_split t2 (PySem.W.oi_args (.ref (s.heap.objs.size + 1))) ?_)
  rw [PySem.W.oi_run]
  exact wpAny_pure (And.intro rfl ⟨V.ref (s.heap.objs.size + 1), _, I2, rfl, hq⟩)
noncomputable def tMake0 (C : Addr) : TE := fun _ H Q => ∀ a dx, H a = none → H dx = none → dx ≠ a → Q (.ref a) (upd (upd H dx (.own a)) a (.ins C dx []))
theorem pe_mk0 {x : Str} {C : Addr} {p pos : Pos} (M : Make0 X.K X.mg x C) (hg : Gl X x) (hdb : (x == ("__debug__" : Str)) = false := by decide) : PE X (.Call (.Name x p) [] [] pos) (tMake0 C) := by
  intro pins s σ H Q I h
  exact wpAny_Call_Name_kw (ld_glob I hg M.at_ (PySem.W.callWith_K0 I.kIn M.kp (run_make0 M I h)) hdb)
/-- o.m(..): T tells the promise of m by the object's class -/
noncomputable def tMethV (T : Addr → Sp → Prop) (m : Str) (ta : TE) (t : TA) : TE := fun σ H Q => ta σ H fun x H1 => ∃ (a C dx : Addr) (fs : List (Str × V)) (sp : Sp), x = .ref a ∧ H1 a = some (.ins C dx fs) ∧ fs.lookup m = none ∧ T C sp ∧ t σ H1 fun vs H2 => sp (x :: vs) H2 Q E0
theorem pe_methV {T : Addr → Sp → Prop} {m : Str} {o e : Expr} {es : List Expr} {ta : TE} {t : TA} {apos pos : Pos} {j : Nat} {pl : Sem Bool} (he : PE X o ta) (hT : ∀ C sp, T C sp → ∃ ps, MethD X.prog X.w X.K X.mg X.base j C m ps sp) (hr : Room j X.A) (ha : PA X (e :: es) t)
    (hst : starEach (e :: es) X.env = (false, eval e X.env) :: starEach es X.env) (hpl : (backTo pos (starEach es X.env)).any (·.1) = false)
    (ht : eval (.Call (.Attribute o m apos) (e :: es) [] pos) X.env = (do
      let ov ← eval o X.env
      standAt apos.atName
      let (f, first) ← holding [ov] (getMethod ov m pl)
      callWith pos f first (backTo pos (starEach (e :: es) X.env)) (backToKw pos (keywordEach [] X.env)))) :
    PE X (.Call (.Attribute o m apos) (e :: es) [] pos) (tMethV T m ta t) := by
  intro pins s σ H Q I h
  refine PySem.W.methodCall_KW (pl := pl) (thn (he pins s σ H _ I h) fun u s1 zz => ?_) ht
  obtain ⟨x, H1, I1, rx, a, C, dx, fs, sp, ex, ea, l, hC, q⟩ := zz
  subst ex
  obtain rfl : u = Value.ref a := rx
  obtain ⟨ps, D⟩ := hT C sp hC
  obtain ⟨f, fd, F, b, hm, c⟩ := D.ex
  refine getmeth_ok I1 ea c hm l (PySem.W.callWith_K (first := [.ref a]) (h₀ := X.base) I.ok.mod.kin hm.kp (thn (ha pos pins s1 σ H1 _ I1 q) fun us s2 ⟨vs, H2, I2, r, q2⟩ => ⟨I2.kIn, ?_⟩) hst hpl)
  have q3 : sp (V.ref a :: (vs ++ [])) H2 Q E0 := by rw [List.append_nil]; exact q2
  exact run_fn (us := .ref a :: us) (vs := .ref a :: vs) (dvs := []) F hr b .nil pass0 I2 (.cons rfl r) q3
theorem pe_methV0 {T : Addr → Sp → Prop} {m : Str} {o : Expr} {ta : TE} {apos pos : Pos} {j : Nat} {pl : Sem Bool} (he : PE X o ta) (hT : ∀ C sp, T C sp → ∃ ps, MethD X.prog X.w X.K X.mg X.base j C m ps sp) (hr : Room j X.A)
    (ht : eval (.Call (.Attribute o m apos) [] [] pos) X.env = (do
      let ov ← eval o X.env
      standAt apos.atName
      let (f, first) ← holding [ov] (getMethod ov m pl)
      callWith pos f first (backTo pos (starEach [] X.env)) (backToKw pos (keywordEach [] X.env)))) :
    PE X (.Call (.Attribute o m apos) [] [] pos) (tMethV T m ta tNil) := by
  intro pins s σ H Q I h
  refine PySem.W.methodCall_KW (pl := pl) (thn (he pins s σ H _ I h) fun u s1 zz => ?_) ht
  obtain ⟨x, H1, I1, rx, a, C, dx, fs, sp, ex, ea, l, hC, q⟩ := zz
  subst ex
  obtain rfl : u = Value.ref a := rx
  obtain ⟨ps, D⟩ := hT C sp hC
  obtain ⟨f, fd, F, b, hm, c⟩ := D.ex
  refine getmeth_ok I1 ea c hm l (PySem.W.callWith_K0 (first := [.ref a]) I1.kIn hm.kp ?_)
  exact run_fn (us := [.ref a]) (vs := [.ref a]) (dvs := []) F hr b .nil pass0 I1 (.cons rfl .nil) q
noncomputable def rIsOwn (K : PySem.W.Frag) (D : Addr) : List V → Hp → VK → Prop := fun xs H Q => ∃ x t b, xs = [x, .ref D] ∧ TyOf K H x t ∧ PySem.W.kitOne K t (.ref D) = some b ∧ Q (.bl b) H
theorem call_isOwn (D : Addr) : CallR X (.builtin "isinstance") (rIsOwn X.K D) := by
  intro pins s σ H xs us Q I r h
  obtain ⟨x, t, b, rfl, ty, e, q⟩ := h
  obtain ⟨u, u', rfl, ru, ru'⟩ := vals2 r
  cases ru'
  exact isinst_ok I ru ty e fun tk => ⟨.bl b, H, I.tok tk, rfl, q⟩
end
namespace R
section
variable {X : Cx} {e o value : Expr} {es : List Expr} {te to ta tv : TE} {t : TA} {pos p apos pos' : Pos}
theorem pe_fld (K : PySem.W.Frag) {f : Str} (he : QE X e ta) (hb : attributeBase e f X.env (eval e X.env) = eval e X.env := by rfl) (hK : X.K = K := by rfl) : QE X (.Attribute e f pos) (tFld K ta f) := by subst hK; exact ⟨L2.pe_fld he.h hb⟩
theorem ps_fld {f : Str} (ha : QE X o ta) (hv : QE X value tv) (hs : noComp value = true := by rfl) : QS X (.Assign [.Attribute o f pos'] value pos) (sFld X.K ta tv f) := ⟨L2.ps_fld ha.h hv.h (swaps_no hs)⟩
theorem pe_mk0 {x : Str} {C : Addr} (M : Make0 X.K X.mg x C) (hg : Gl X x) (hdb : (x == ("__debug__" : Str)) = false := by decide) : QE X (.Call (.Name x p) [] [] pos) (tMake0 C) := ⟨L2.pe_mk0 M hg hdb⟩
theorem pe_makeD {k j : Nat} {x : Str} {C : Addr} {ps : List Str} {sp : Sp} (D : MakeD X.prog X.w X.K X.mg X.base k x C ps sp) (hr : Room j X.A) (hj : k + 1 ≤ j) (hg : Gl X x) (ha : QA X (e :: es) t) (hs : (e :: es).all noStar = true := by rfl) (hdb : (x == ("__debug__" : Str)) = false := by decide) :
    QE X (.Call (.Name x p) (e :: es) [] pos) (tMake C sp [] E0 t) := by
  obtain ⟨f, fd, F, b, M, m⟩ := D.ex
  exact ⟨L2.pe_make M F (hr.mono hj) hg m b .nil pass0 ha.h hdb (star_cons (all_cons1 hs).1) (star_any (all_cons1 hs).2)⟩
theorem pe_methV {T : Addr → Sp → Prop} {m : Str} {k j : Nat} {pl : Sem Bool} (he : QE X o ta) (hT : ∀ C sp, T C sp → ∃ ps, MethD X.prog X.w X.K X.mg X.base k C m ps sp) (hr : Room j X.A) (hj : k ≤ j) (ha : QA X (e :: es) t) (hs : (e :: es).all noStar = true := by rfl)
    (ht : eval (.Call (.Attribute o m apos) (e :: es) [] pos) X.env = (do
      let ov ← eval o X.env
      standAt apos.atName
      let (f, first) ← holding [ov] (getMethod ov m pl)
      callWith pos f first (backTo pos (starEach (e :: es) X.env)) (backToKw pos (keywordEach [] X.env))) := by rfl) :
    QE X (.Call (.Attribute o m apos) (e :: es) [] pos) (tMethV T m ta t) := ⟨L2.pe_methV (pl := pl) he.h hT (hr.mono hj) ha.h (star_cons (all_cons1 hs).1) (star_any (all_cons1 hs).2) ht⟩
theorem pe_methV0 {T : Addr → Sp → Prop} {m : Str} {k j : Nat} {pl : Sem Bool} (he : QE X o ta) (hT : ∀ C sp, T C sp → ∃ ps, MethD X.prog X.w X.K X.mg X.base k C m ps sp) (hr : Room j X.A) (hj : k ≤ j)
    (ht : eval (.Call (.Attribute o m apos) [] [] pos) X.env = (do
      let ov ← eval o X.env
      standAt apos.atName
      let (f, first) ← holding [ov] (getMethod ov m pl)
      callWith pos f first (backTo pos (starEach [] X.env)) (backToKw pos (keywordEach [] X.env))) := by rfl) :
    QE X (.Call (.Attribute o m apos) [] [] pos) (tMethV T m ta tNil) := ⟨L2.pe_methV0 (pl := pl) he.h hT (hr.mono hj) ht⟩
theorem pe_isOwn {x : Str} {D : Addr} {p2 : Pos} (hg : Gl X "isinstance") (hm : X.mg "isinstance" = none) (hgT : Gl X x) (hmT : X.mg x = some (.ref D)) (ha : QE X e te) (hs : noStar e = true := by rfl) (hdb : (x == ("__debug__" : Str)) = false := by decide) :
    QE X (.Call (.Name "isinstance" p) [e, .Name x p2] [] pos) (tCB (rIsOwn X.K D) (tCons te (tCons (tC (.ref D)) tNil))) :=
  ⟨L2.pe_cB (call_isOwn D) hg hm boot_isinstance (L2.pa_c ha.h (L2.pa_c (L2.pe_glob hgT hmT rfl hdb) L2.pa_nil) hs) (by rw [List.all_cons, hs]; rfl)⟩
end
end R
end L2


set_option Elab.async false
set_option linter.all false
set_option maxRecDepth 100000
/-! trees of bids: depth, tally, what is spoken of -/
namespace L2
open PySem PySem.Spec PyProof.Rows
/-- bids without bids in them -/
inductive Form where
  | none
  | only (b : Nat) (m : Int)
  | some (k l : Nat) (m : Int)
  | most (k c : Nat) (m : Int)
/-! ### lists side by side -/
noncomputable def All2 {α β : Type} (R : α → β → Prop) (xs : List α) (ys : List β) : Prop := xs.length = ys.length ∧ ∀ (i : Nat) (x : α) (y : β), xs[i]? = some x → ys[i]? = some y → R x y
section
variable {α β : Type} {R S : α → β → Prop} {xs xs' : List α} {ys ys' : List β}
theorem All2.append (h : All2 R xs ys) (g : All2 R xs' ys') : All2 R (xs ++ xs') (ys ++ ys') := by
  refine ⟨by rw [List.length_append, List.length_append, h.1, g.1], fun i x y e1 e2 => ?_⟩
  by_cases hi : i < xs.length
  · rw [List.getElem?_append_left hi] at e1
    rw [List.getElem?_append_left (by rw [← h.1]; exact hi)] at e2
    exact h.2 i x y e1 e2
  · rw [List.getElem?_append_right (by omega)] at e1
    rw [List.getElem?_append_right (by rw [← h.1]; omega), ← h.1] at e2
    exact g.2 _ x y e1 e2
theorem All2.one {x : α} {y : β} (h : R x y) : All2 R [x] [y] := ⟨rfl, fun i a b e1 e2 => by
  match i with
  | 0 => cases e1; cases e2; exact h
  | i + 1 => simp at e1⟩
theorem All2.snoc {x : α} {y : β} (h : All2 R xs ys) (g : R x y) : All2 R (xs ++ [x]) (ys ++ [y]) := h.append (.one g)
end
end L2


set_option Elab.async false
set_option linter.all false
set_option maxRecDepth 100000
/-! what bids are worth, as functions of the bundle -/
namespace L2
open PySem PySem.Spec PyProof.Rows
structure AmtOk (m : Int) : Prop where
  lo : 0 ≤ m
  hi : m ≤ 10 ^ 9
noncomputable def FormOk : Form → Prop
  | .none => True
  | .only b m => 1 ≤ b ∧ b ≤ 63 ∧ AmtOk m
  | .some k l m => 1 ≤ k ∧ k ≤ 63 ∧ 1 ≤ l ∧ l ≤ 6 ∧ AmtOk m
  | .most k c m => 1 ≤ k ∧ k ≤ 63 ∧ 1 ≤ c ∧ c ≤ 6 ∧ AmtOk m
/-- what it is worth at a bundle -/
noncomputable def worthF : Form → Nat → Int
  | .none, _ => 0
  | .only b m, x => if x &&& b = b then m else 0
  | .some k l m, x => if l ≤ (things (x &&& k)).length then m else 0
  | .most k c m, x => m * (if c < (things (x &&& k)).length then c else (things (x &&& k)).length : Nat)
noncomputable def worthsF (f : Form) (n : Nat) : List Int := (List.range (2 ^ n)).map (worthF f)
/-- the parts of a bundle -/
noncomputable def subsOf (x : Nat) : List Nat := (List.range (x + 1)).filter fun p => decide (x &&& p = p)
theorem subs_mem {x p : Nat} : p ∈ subsOf x ↔ x &&& p = p := by
  unfold subsOf
  rw [List.mem_filter, List.mem_range]
  constructor
  · exact fun h => of_decide_eq_true h.2
  · intro h
    have : p ≤ x := by rw [← h]; exact Nat.and_le_left
    exact ⟨by omega, decide_eq_true h⟩
theorem minus_sub : ∀ y < 64, ∀ x ∈ subsOf y, ∀ p ∈ subsOf x, (y - p) &&& (x - p) = x - p := by decide +kernel
theorem minus_part : ∀ x < 64, ∀ p ∈ subsOf x, x &&& (x - p) = x - p := by decide +kernel
/-- the greatest over the ways to share a bundle between the two -/
noncomputable def conv (g h : Nat → Int) (x : Nat) : Int := top ((subsOf x).map fun p => g p + h (x - p))
/-- no bundle is worth less than one of its parts; nothing is worth nothing -/
structure Good (g : Nat → Int) : Prop where
  zero : g 0 = 0
  up : ∀ x y, y < 64 → y &&& x = x → g x ≤ g y
theorem Good.nonneg {g : Nat → Int} (h : Good g) {x : Nat} (hx : x < 64) : 0 ≤ g x := by
  have := h.up 0 x hx (Nat.and_zero x)
  rw [h.zero] at this; exact this
theorem sub_lt {x p : Nat} (hx : x < 64) (h : x &&& p = p) : p < 64 := by
  have : p ≤ x := by rw [← h]; exact Nat.and_le_left
  omega
theorem part_nonneg {g h : Nat → Int} (hg : Good g) (hh : Good h) {x : Nat} (hx : x < 64) {p : Nat} (hp : x &&& p = p) : 0 ≤ g p + h (x - p) := by
  have h1 := hg.nonneg (sub_lt hx hp)
  have h2 := hh.nonneg (show x - p < 64 by omega)
  omega
theorem conv_ge {g h : Nat → Int} {x p : Nat} (hp : x &&& p = p) : g p + h (x - p) ≤ conv g h x :=
  (top_ge _ 0).2 _ (List.mem_map.mpr ⟨p, subs_mem.mpr hp, rfl⟩)
theorem conv_at (g h : Nat → Int) (x : Nat) : conv g h x = 0 ∨ ∃ p, x &&& p = p ∧ conv g h x = g p + h (x - p) := by
  rcases top_mem ((subsOf x).map fun p => g p + h (x - p)) 0 with e | e
  · exact .inl e
  · obtain ⟨p, hp, e⟩ := List.mem_map.mp e
    exact .inr ⟨p, subs_mem.mp hp, e.symm⟩
theorem conv_good {g h : Nat → Int} (hg : Good g) (hh : Good h) : Good (conv g h) := by
  constructor
  · rcases conv_at g h 0 with e | ⟨p, hp, e⟩
    · exact e
    · have : p = 0 := by rw [← hp]; exact Nat.zero_and p
      subst this
      rw [e, hg.zero, hh.zero]; rfl
  · intro x y hy hs
    rcases conv_at g h x with e | ⟨p, hp, e⟩
    · rw [e]; exact top_nonneg _
    · rw [e]
      have h1 := hh.up (x - p) (y - p) (by omega) (minus_sub y hy x (subs_mem.mpr hs) p (subs_mem.mpr hp))
      have h2 := conv_ge (g := g) (h := h) (sub_trans hs hp)
      omega
theorem good0 : Good fun _ => 0 := ⟨rfl, fun _ _ _ _ => Int.le_refl _⟩
theorem filter_len {p q : Nat → Bool} : ∀ (l : List Nat), (∀ k ∈ l, p k = true → q k = true) → (l.filter p).length ≤ (l.filter q).length
  | [], _ => Nat.le_refl _
  | k :: l, h => by
    have ih := filter_len l (fun j hj => h j (List.mem_cons_of_mem _ hj))
    have hk := h k (List.mem_cons_self ..)
    rw [List.filter_cons, List.filter_cons]
    cases e1 : p k with
    | true => rw [hk e1]; show _ + 1 ≤ _ + 1; omega
    | false =>
      cases e2 : q k with
      | true => show _ ≤ _ + 1; rw [if_neg (by decide)]; omega
      | false => rw [if_neg (by decide), if_neg (by decide)]; exact ih
theorem things_mono {x y : Nat} (h : y &&& x = x) (k : Nat) : (things (x &&& k)).length ≤ (things (y &&& k)).length := by
  refine filter_len _ fun i _ e => ?_
  rw [Nat.testBit_and, Bool.and_eq_true] at e ⊢
  exact ⟨sub_bits.mp h i e.1, e.2⟩
theorem worthF_good {f : Form} (ok : FormOk f) : Good (worthF f) := by
  cases f with
  | none => exact good0
  | only b m =>
    refine ⟨?_, fun x y hy hs => ?_⟩
    · show (if 0 &&& b = b then m else 0) = 0
      rw [Nat.zero_and, if_neg (by have := ok.1; omega)]
    · show (if x &&& b = b then m else 0) ≤ if y &&& b = b then m else 0
      have hm := ok.2.2.lo
      by_cases c : x &&& b = b
      · rw [if_pos c, if_pos (sub_trans hs c)]; exact Int.le_refl _
      · rw [if_neg c]; split; exact hm; exact Int.le_refl _
  | some k l m =>
    refine ⟨?_, fun x y hy hs => ?_⟩
    · show (if l ≤ (things (0 &&& k)).length then m else 0) = 0
      rw [Nat.zero_and, if_neg (by have := ok.2.2.1; show ¬ l ≤ 0; omega)]
    · show (if l ≤ (things (x &&& k)).length then m else 0) ≤ if l ≤ (things (y &&& k)).length then m else 0
      have hm := ok.2.2.2.2.lo
      have := things_mono hs k
      by_cases c : l ≤ (things (x &&& k)).length
      · rw [if_pos c, if_pos (by omega)]; exact Int.le_refl _
      · rw [if_neg c]; split; exact hm; exact Int.le_refl _
  | most k c m =>
    refine ⟨?_, fun x y hy hs => ?_⟩
    · show m * ((if c < (things (0 &&& k)).length then c else (things (0 &&& k)).length : Nat) : Int) = 0
      rw [Nat.zero_and, if_neg (by show ¬ c < 0; omega)]
      show m * 0 = 0
      exact Int.mul_zero m
    · have := things_mono hs k
      refine Int.mul_le_mul_of_nonneg_left ?_ ok.2.2.2.2.lo
      split <;> split <;> omega
/-! ### tables -/
noncomputable def tab (g : Nat → Int) (n : Nat) : List Int := (List.range (2 ^ n)).map g
theorem tab_len (g : Nat → Int) (n : Nat) : (tab g n).length = 2 ^ n := by unfold tab; rw [List.length_map, List.length_range]
theorem tab_at {g : Nat → Int} {n x : Nat} (h : x < 2 ^ n) : (tab g n).getD x 0 = g x := by
  unfold tab
  rw [List.getD_eq_getElem?_getD, List.getElem?_map, List.getElem?_eq_getElem (by rw [List.length_range]; exact h), List.getElem_range]; rfl
/-! ### the greatest, from nought on -/
structure TopIs (S : Nat → Prop) (v : Nat → Int) (m : Int) : Prop where
  nn : 0 ≤ m
  ub : ∀ p, S p → v p ≤ m
  at_ : m = 0 ∨ ∃ p, S p ∧ v p = m
theorem TopIs.uniq {S : Nat → Prop} {v : Nat → Int} {m m' : Int} (h : TopIs S v m) (h' : TopIs S v m') : m = m' := by
  have a : m ≤ m' := by
    rcases h.at_ with e | ⟨p, hp, e⟩
    · rw [e]; exact h'.nn
    · rw [← e]; exact h'.ub p hp
  have b : m' ≤ m := by
    rcases h'.at_ with e | ⟨p, hp, e⟩
    · rw [e]; exact h.nn
    · rw [← e]; exact h.ub p hp
  omega
theorem TopIs.add {S S' : Nat → Prop} {v : Nat → Int} {m : Int} (h : TopIs S v m) (p : Nat) (hS : ∀ q, S' q ↔ S q ∨ q = p) : TopIs S' v (if v p > m then v p else m) := by
  by_cases c : v p > m
  · rw [if_pos c]
    refine ⟨by have := h.nn; omega, fun q hq => ?_, .inr ⟨p, (hS p).mpr (.inr rfl), rfl⟩⟩
    rcases (hS q).mp hq with hq | rfl
    · have := h.ub q hq; omega
    · exact Int.le_refl _
  · rw [if_neg c]
    refine ⟨h.nn, fun q hq => ?_, ?_⟩
    · rcases (hS q).mp hq with hq | rfl
      · exact h.ub q hq
      · omega
    · rcases h.at_ with e | ⟨q, hq, e⟩
      · exact .inl e
      · exact .inr ⟨q, (hS q).mpr (.inl hq), e⟩
theorem conv_top (g h : Nat → Int) (x : Nat) : TopIs (fun p => x &&& p = p) (fun p => g p + h (x - p)) (conv g h x) :=
  ⟨top_nonneg _, fun _ hp => conv_ge hp, (conv_at g h x).imp id fun ⟨p, hp, e⟩ => ⟨p, hp, e.symm⟩⟩
end L2
namespace L2.R
open PySem PySem.Spec PyProof.Rows
variable {X : Cx} {e : Expr} {te : TE} {pos : Pos}
/-- a comprehension for a name that a comprehension takes -/
theorem ps_setC {i : Nat} {x : Str} {pos' : Pos} (hN : X.N.Nodup) (hi : X.N[i]? = some x) (hx : Loc X.env.scope x) (he : QE X e te) (hs : swapsWith e (some (.Name x pos')) pos.line X.env = pure false := by rfl) (hf : X.fn x = true ∨ X.env.scope.names.lookup x = some .local := by first | exact .inl rfl | exact .inr rfl | assumption) :
    QS X (.Assign [.Name x pos'] e pos) (tAsg te (gName i)) := ⟨L2.ps_set hN hi hx he.h hs hf⟩
end L2.R


set_option Elab.async false
set_option linter.all false
set_option maxRecDepth 100000
/-! wishes of groups that are apart -/
namespace L2
open PySem PySem.Spec PyProof.Rows
noncomputable def agree (g h : Nat → Int) : Prop := ∀ x, x < 64 → g x = h x
theorem conv_agree {g g' h h' : Nat → Int} (e1 : agree g g') (e2 : agree h h') : agree (conv g h) (conv g' h') := by
  intro x hx
  unfold conv
  congr 1
  refine List.map_congr_left fun p hp => ?_
  have hp' := subs_mem.mp hp
  rw [e1 p (sub_lt hx hp'), e2 (x - p) (by omega)]
/-! ### one wish in other words -/
theorem minus_bits : ∀ x < 64, ∀ p ∈ subsOf x, ∀ i < 6, (x - p).testBit i = (x.testBit i && !p.testBit i) := by decide +kernel
end L2


set_option Elab.async false
set_option linter.all false
set_option maxRecDepth 100000
/-! a list taken apart: x, y = [.., ..] -/
namespace L2
open PySem PySem.Spec PyProof.Rows
section
variable {prog : Program} {w : World} {A : Around} {E : Value → Shared → Prop}
end
namespace R
end R
end L2


set_option Elab.async false
set_option linter.all false
set_option maxRecDepth 100000
/-! a comprehension inside a comprehension that takes its name -/
namespace L2
open PySem PySem.Spec PyProof.Rows
theorem newEnv1 {M : Model} {A : Around} {E : Value → Shared → Prop} {s : Shared} {scope : Scope} {g : Addr} {cl : List (Str × Addr)} {q : Str} {env : Env} {z : Str} {Q : Env → Shared → Prop}
    (hcf : ∀ n acc, cellsFrom n scope.names acc = (z, n) :: acc) (hpc : ∀ h, pushCells h scope.names = h.push { cls := .type "cell", data := .cell none })
    (hQ : Q (newEnv scope s.heap.objs.size g ((z, s.heap.objs.size + 1) :: cl) q none .none (some env) builtinsNs) { s with heap := (s.heap.push { cls := .type "dict", data := .dict #[] }).push { cls := .type "cell", data := .cell none } }) :
    wpAny M A (newFunctionEnv scope g cl [] q none .none (some env)) Q E s := by
  simp only [newFunctionEnv, Option.isSome_some, if_true]
  refine wpAny_bind (wpAny_alloc ?_)
  refine wpAny_bind (wpAny_layCells _ (fun a b d => by cases e : b == NameKind.cell <;> simp [e]) _ _ _ _ ?_)
  rw [hcf, hpc, List.forIn_nil]
  refine wpAny_bind (wpAny_pure (wpAny_pure ?_))
  rw [show ({ s with heap := s.heap.push { cls := .type "dict", data := .dict #[] } } : Shared).heap.objs.size = s.heap.objs.size + 1 from Heap.size_push ..]
  exact hQ
noncomputable def cxCompC (X : Cx) (scope : Scope) (cl : List (Str × Addr)) (z : Str) (ns : List Str) (C : Addr) (s₂ : Shared) (H2 : Hp) (fp : List Addr) : Cx := { cxComp X scope ((z, C + 1) :: cl) (z :: ns) C s₂ H2 fp with fn := fun y => y == z }
structure CompOkC (X : Cx) (scope : Scope) (cl : List (Str × Addr)) (z : Str) (ns : List Str) (fr : List Nat) : Prop where
  clos : closureFor scope X.env = pure cl
  sub : ∀ z c, cl.lookup z = some c → X.env.cells.lookup z = some c
  kind : scope.kind = .function
  hcf : ∀ n acc, cellsFrom n scope.names acc = (z, n) :: acc
  hpc : ∀ h, pushCells h scope.names = h.push { cls := .type "cell", data := .cell none }
  names : ∀ y ∈ scope.names, y.2 = .local → scope.names.lookup y.1 = some .local
  has : ∀ y, ((relabel scope X.env).names.lookup y = some .cell ∨ (relabel scope X.env).names.lookup y = some .free) → y = z ∨ ∃ c, cl.lookup y = some c
  out : ∀ (j : Nat) (y : Str), ns[j]? = some y → y ≠ z ∧ ∃ i, fr[j]? = some i ∧ X.N[i]? = some y ∧ X.env.scope.names.lookup y = some .cell ∧ (relabel scope X.env).names.lookup y = some .cell
  len : fr.length = ns.length
theorem look_self {z : Str} {c : Addr} {cl : List (Str × Addr)} : ((z, c) :: cl).lookup z = some c := by rw [List.lookup_cons, show (z == z) = true from by simp]
theorem look_other {y z : Str} {c : Addr} {cl : List (Str × Addr)} (h : y ≠ z) : ((z, c) :: cl).lookup y = cl.lookup y := by rw [List.lookup_cons, show (y == z) = false from by simpa using h]
theorem look_in {y z : Str} {c d : Addr} {cl : List (Str × Addr)} (h : ((z, c) :: cl).lookup y = some d) : (y = z ∧ d = c) ∨ (y ≠ z ∧ cl.lookup y = some d) := by
  by_cases e : y = z
  · subst e; rw [look_self] at h; cases h; exact .inl ⟨rfl, rfl⟩
  · rw [look_other e] at h; exact .inr ⟨e, h⟩
theorem comp_allC {X : Cx} {pins : List (Addr × Obj)} {σ : St} {H : Hp} {s : Shared} {tg iter elt : Expr} {ifs : List Expr} {scope : Scope} {pos pos' : Pos} {cl : List (Str × Addr)} {zt : Str} {ns : List Str} {fr : List Nat} {wi : TI} {g : TG} {tt : TT} {te : TE}
    {use : Option (Value → Sem Unit)} {Qv : Value → Shared → Prop} {R : VK}
    (hc : X.calm = true) (ok : CompOkC X scope cl zt ns fr) (hI : PI X tg iter wi) (hg : ∀ C s₂ H2 fp, PG (cxCompC X scope cl zt ns C s₂ H2 fp) tg g) (hf : ∀ C s₂ H2 fp, PF (cxCompC X scope cl zt ns C s₂ H2 fp) ifs tt)
    (he : ∀ C s₂ H2 fp, PE (cxCompC X scope cl zt ns C s₂ H2 fp) elt te) (hs : ∀ x, foldedSetIterable iter X.env x = pure x)
    (I : Inv X pins σ H s) (h : tCompE wi 1 fr g tt te σ H R)
    (fin : ∀ (C l : Addr) (m : Str → Option Value) (s4 : Shared) (Hk : Hp), Inv X pins σ Hk s4 → s4.heap.Ns C m → Hk C = none → C ≠ X.env.locals → (∀ z c, X.env.cells.lookup z = some c → c ≠ C) → X.s₀.heap.objs.size ≤ C → (∀ p ∈ X.pn ++ pins, p.1 ≠ C) →
      R (.ref l) Hk → compPost (model X.prog X.w) X.A X.xe use Qv (.ref l) C (.ok .next) s4) :
    wpAny (model X.prog X.w) X.A (comprehension (.ListComp elt [⟨tg, iter, ifs, 0⟩] scope pos) scope X.env pos' (newList []) false (eval iter X.env) use) Qv X.xe s := by
  refine wpAny_comprehension_free (use := use) rfl hs ok.clos ok.kind ok.names ?_
  refine thn (hI pins s σ H _ I h) fun v s1 h1 => thn h1 fun itv s2 h2 => ?_
  obtain ⟨it, fp, tn, J, H2, rfl, I2, T, st2, f2, rd⟩ := h2
  refine wpAny_newObj_type (newEnv1 ok.hcf ok.hpc ?_)
  dsimp only
  generalize hG : s2.heap.push { cls := .type "list", dict := none, data := .seq ([] : List Value).toArray } = G
  have hC : G.objs.size = s2.heap.objs.size + 1 := by rw [← hG, Heap.size_push]
  have below : ∀ b, b < s2.heap.objs.size → b ≠ G.objs.size ∧ b ≠ s2.heap.objs.size := fun b hb => ⟨by rw [hC]; exact Nat.ne_of_lt (Nat.lt_succ_of_lt hb), Nat.ne_of_lt hb⟩
  have oldG : ∀ b o, G.get? b = some o → ((G.push { cls := .type "dict", data := .dict #[] }).push { cls := .type "cell", data := .cell none }).get? b = some o := fun b o e => Heap.get?_push_of_some _ (Heap.get?_push_of_some _ e)
  have old : ∀ b o, s2.heap.get? b = some o → ((G.push { cls := .type "dict", data := .dict #[] }).push { cls := .type "cell", data := .cell none }).get? b = some o := fun b o e => oldG b o (hG ▸ Heap.get?_push_of_some _ e)
  have hacc : ((G.push { cls := .type "dict", data := .dict #[] }).push { cls := .type "cell", data := .cell none }).get? s2.heap.objs.size = some { cls := .type "list", data := .seq ([] : List Value).toArray } := oldG _ _ (hG ▸ Heap.get?_push_size _ rfl)
  have hns₁ : ((G.push { cls := .type "dict", data := .dict #[] }).push { cls := .type "cell", data := .cell none }).Ns G.objs.size (fun _ => none) := (Heap.Ns.new G (.type "dict")).keeps fun b o e => Heap.get?_push_of_some _ e
  have hcl1 : ((G.push { cls := .type "dict", data := .dict #[] }).push { cls := .type "cell", data := .cell none }).IsCell (G.objs.size + 1) none := by
    refine ⟨{ cls := .type "cell", data := .cell none }, ?_, rfl⟩
    have q := Heap.get?_push_size (G.push { cls := .type "dict", data := .dict #[] }) (o := { cls := .type "cell", data := .cell none }) rfl
    rw [Heap.size_push] at q; exact q
  generalize (G.push { cls := .type "dict", data := .dict #[] }).push { cls := .type "cell", data := .cell none } = h₁ at oldG old hacc hns₁ hcl1 ⊢
  have lfree : H2 s2.heap.objs.size = none := I2.hok.fresh (Nat.le_refl _)
  have fplt : ∀ b ∈ fp, b < s2.heap.objs.size := fun b hb => by
    obtain ⟨o, e, _⟩ := T.obj 0 _ st2 b hb
    exact Heap.lt_size e
  have stk : ∀ b ∈ frs X.stack, b ∈ X.env.locals :: X.fs := I2.stkSub
  have clc : ∀ z c, cl.lookup z = some c → c < s2.heap.objs.size := fun z c e => by
    obtain ⟨v, q⟩ := I2.cell z c (ok.sub z c e)
    exact q.lt
  have okC : (cxCompC X scope cl zt ns G.objs.size s2 H2 fp).Ok := by
    refine ⟨I2.ok.mod, ok.kind, I2.ok.glob, I2.ok.blt, ?_, fun a b c h1 h2 => ?_, fun y hy => ?_, fun y c hf e => ?_, fun _ => I2.ok.hd hc, I2.ok.frames, .inl rfl, fun b hb => ⟨(below b (fplt b hb)).1, fun z c e => ?_⟩, I2.bs, Nat.le_trans I2.ok.bsz I2.sz, fun b o e hb => ?_, fun b hb => ?_, I2.stack, I2.stkFree⟩
    · show s2.heap.objs.size ≤ G.objs.size
      rw [hC]; exact Nat.le_succ _
    · rcases look_in h1 with ⟨e1, d1⟩ | ⟨_, d1⟩ <;> rcases look_in h2 with ⟨e2, d2⟩ | ⟨_, d2⟩
      · rw [e1, e2]
      · have := clc b c d2; rw [d1, hC] at this; exact absurd this (Nat.not_lt.mpr (Nat.le_trans (Nat.le_succ _) (Nat.le_succ _)))
      · have := clc a c d1; rw [d2, hC] at this; exact absurd this (Nat.not_lt.mpr (Nat.le_trans (Nat.le_succ _) (Nat.le_succ _)))
      · exact I2.ok.inj a b c (ok.sub a c d1) (ok.sub b c d2)
    · by_cases ez : y = zt
      · exact ⟨G.objs.size + 1, by rw [ez]; exact look_self⟩
      · obtain ⟨c, e⟩ := (ok.has y hy).resolve_left ez
        exact ⟨c, by show List.lookup y ((zt, G.objs.size + 1) :: cl) = some c; rw [look_other ez]; exact e⟩
    · have ez : y = zt := by have hf' : (y == zt) = true := hf; simpa using hf'
      have e' : ((zt, G.objs.size + 1) :: cl).lookup y = some c := e
      rw [ez, look_self] at e'
      cases e'
      show s2.heap.objs.size ≤ G.objs.size + 1
      rw [hC]; exact Nat.le_trans (Nat.le_succ _) (Nat.le_succ _)
    · rcases look_in e with ⟨_, d⟩ | ⟨_, d⟩
      · have := fplt b hb; intro q; rw [d, hC] at q; rw [← q] at this; exact absurd this (Nat.not_lt.mpr (Nat.le_trans (Nat.le_succ _) (Nat.le_succ _)))
      · exact (f2 b hb).2.2.2.2.1 z c (ok.sub z c d)
    · rcases (f2 b hb).2.2.2.1 with z | z
      · exact I2.ok.noex b o e z
      · exact absurd (Nat.lt_of_lt_of_le (Heap.lt_size e) (Nat.le_trans I2.ok.bsz z)) (Nat.lt_irrefl _)
    · intro z
      rcases List.mem_cons.mp (stk b z) with q | q
      · exact (f2 b hb).2.1 q
      · exact (f2 b hb).2.2.1 q
  have fpC : ∀ {H' : Hp}, (∀ b ∈ fp, H' b = none) → ∀ b ∈ fp, FpOk (cxCompC X scope cl zt ns G.objs.size s2 H2 fp) [] H' b := fun hn b hb =>
    ⟨hn b hb, (below b (fplt b hb)).1, okC.exfs b hb, .inl hb, (okC.exf b hb).2, fun p hp => absurd (show p ∈ ([] : List (Addr × Obj)) from hp) (by simp)⟩
  have I4 : Inv (cxCompC X scope cl zt ns G.objs.size s2 H2 fp) [] (List.replicate 1 none ++ inner σ fr) (upd H2 s2.heap.objs.size (.lst [])) { s2 with heap := h₁, toks := s2.toks + ([] : List (Str × Value)).length } := by
    refine ⟨okC, rfl, I2.bare, Un.laid old (Nat.le_refl _) lfree, ⟨_, hns₁, fun j z u e1 e2 e3 => ?_⟩, fun z c e => ?_, ?_, fun z c e => ?_, fun p hp => absurd (show p ∈ ([] : List (Addr × Obj)) from hp) (by simp), I2.hok.laid old (Nat.le_refl _) ⟨Nat.zero_le _, [], 0, .nil, hacc⟩, ?_⟩
    · cases j with
      | zero =>
        have e2' : (none : Option V) = some u := Option.some.inj e2
        cases e2'
      | succ j =>
        have e1' : ns[j]? = some z := e1
        have e2 : (inner σ fr)[j]? = some (some u) := e2
        obtain ⟨nz, i', q1, q2, q3, q4⟩ := ok.out _ z e1'
        have e3' : σ[i']? = some (some u) := by
          unfold inner at e2
          rw [List.getElem?_map, q1] at e2
          have e4 : (σ[i']?).join = some u := Option.some.inj e2
          cases q : σ[i']? with
          | none => rw [q] at e4; cases e4
          | some o => rw [q] at e4; cases o with
            | none => cases e4
            | some o => cases e4; rfl
        obtain ⟨m, hn, hl⟩ := I2.loc
        obtain ⟨val, r, l⟩ := hl i' z u q2 e3' (.inr (.inl q3))
        refine ⟨val, r, .inr ⟨.inl q4, ?_⟩⟩
        obtain ⟨c', hc'⟩ := (ok.has z (.inl q4)).resolve_left nz
        rcases l with ⟨k1, _⟩ | ⟨_, c, hcc, hcell⟩
        · have k1' : X.env.scope.names.lookup z = some .local := k1
          rw [q3] at k1'; cases k1'
        · rw [ok.sub z c' hc'] at hcc
          cases hcc
          obtain ⟨ob, ho, hd⟩ := hcell
          exact ⟨c', by show List.lookup z ((zt, G.objs.size + 1) :: cl) = some c'; rw [look_other nz]; exact hc', ob, old _ _ ho, hd⟩
    · rcases look_in e with ⟨_, d⟩ | ⟨_, d⟩
      · rw [d]; exact ⟨none, hcl1⟩
      · obtain ⟨v', ob, ho, hd⟩ := I2.cell z c (ok.sub z c d)
        exact ⟨v', ob, old _ _ ho, hd⟩
    · show upd H2 s2.heap.objs.size (.lst []) G.objs.size = none
      rw [upd_ne (by rw [hC]; exact Nat.ne_of_gt (Nat.lt_succ_self _))]
      exact I2.hok.fresh (by rw [hC]; exact Nat.le_succ _)
    · rcases look_in e with ⟨_, d⟩ | ⟨_, d⟩
      · rw [d, upd_ne (by rw [hC]; exact Nat.ne_of_gt (Nat.lt_succ_of_lt (Nat.lt_succ_self _)))]
        exact I2.hok.fresh (by rw [hC]; exact Nat.le_trans (Nat.le_succ _) (Nat.le_succ _))
      · rw [upd_ne (Nat.ne_of_lt (clc z c d))]
        exact I2.freeC z c (ok.sub z c d)
    · show (inner σ fr).length + 1 = ns.length + 1
      unfold inner
      rw [List.length_map, ok.len]
  obtain ⟨W, ⟨m0, w0⟩, turns⟩ := rd _ lfree
  have loop : codeAny (model X.prog X.w) X.A (.compLoop (.ListComp elt [⟨tg, iter, ifs, 0⟩] scope pos) 0 (.ref it) (.ref s2.heap.objs.size) (compEnvC scope ((zt, G.objs.size + 1) :: cl) G.objs.size X.env))
      (compPost (model X.prog X.w) X.A X.xe use Qv (.ref s2.heap.objs.size) G.objs.size) { s2 with heap := h₁, toks := s2.toks + ([] : List (Str × Value)).length } := by
    refine comp_loop2 (fun n s' => ∃ k Hk σk, Inv (cxCompC X scope cl zt ns G.objs.size s2 H2 fp) [] σk Hk s' ∧ (∃ os : St, os.length = 1 ∧ σk = os ++ inner σ fr) ∧ tn k s'.heap ∧ (∀ b ∈ fp, Hk b = none) ∧ W k n Hk) ?_ m0
      ⟨0, _, _, I4, ⟨_, List.length_replicate, rfl⟩, T.keep _ _ _ st2 fun b _ o e => old b o e, fun b hb => by rw [upd_ne (below b (fplt b hb)).2]; exact (f2 b hb).1, w0⟩
    rintro n s3 ⟨k, Hk, σk, I3, ⟨os, hol, hσ⟩, st3, fr3, w3⟩
    subst hσ
    rcases turns k n Hk w3 with ⟨stop, qn⟩ | ⟨go, step⟩
    · refine thn (T.done (cxCompC X scope cl zt ns G.objs.size s2 H2 fp) rfl rfl rfl rfl k [] s3 _ Hk _ I3 (fpC fr3) st3 stop) fun r s4 zz => ?_
      obtain ⟨hr, I5⟩ := zz
      subst hr
      have J5 : Inv X pins σ Hk s4 := I2.call' I5.os I5.base I5.hok I5.bare fun b hb => ⟨(f2 b hb).2.2.2.1, (f2 b hb).2.1, (f2 b hb).2.2.2.2.1, (f2 b hb).2.2.2.2.2⟩
      obtain ⟨mC, hnC, _⟩ := I5.loc
      have neL : G.objs.size ≠ X.env.locals := Nat.ne_of_gt (Nat.lt_trans I2.lt (by rw [hC]; exact Nat.lt_succ_self _))
      have neCell : ∀ z c, X.env.cells.lookup z = some c → c ≠ G.objs.size := fun z c e q => by
        obtain ⟨v', hcell⟩ := I2.cell z c e
        have := hcell.lt
        rw [q, hC] at this
        exact absurd this (Nat.not_lt.mpr (Nat.le_succ _))
      exact fin G.objs.size s2.heap.objs.size mC s4 Hk J5 hnC I5.free neL neCell (Nat.le_trans I2.sz (by rw [hC]; exact Nat.le_succ _)) (fun p hp q => by
        have := Heap.lt_size (I2.pin p hp).1
        rw [q, hC] at this
        exact absurd this (Nat.not_lt.mpr (Nat.le_succ _))) qn
    · refine thn (T.item (cxCompC X scope cl zt ns G.objs.size s2 H2 fp) rfl rfl rfl rfl k [] s3 _ Hk _ I3 (fpC fr3) st3 go) fun r s4 zz => ?_
      obtain ⟨u, hr, h4⟩ := zz
      subst hr
      refine thn h4 fun _ s5 zz => ?_
      obtain ⟨val, H5, I5, r5, y5, st5, fr5⟩ := zz
      have I5' := I5.pinned (fpC fr5) (T.obj _ _ st5)
      refine wpAny_mono (hg _ _ _ _ _ s5 _ H5 val u _ I5' r5 (step val H5 y5 os hol)) (fun _ s6 zz => ?_) fun _ _ z => z.elim
      obtain ⟨σ6, H6, I6, ⟨os6, hol6, hσ6⟩, q6⟩ := zz
      subst hσ6
      have back : ∀ {H8 : Hp} {s8 : Shared} {m' : Nat}, Inv (cxCompC X scope cl zt ns G.objs.size s2 H2 fp) ([] ++ pinsAt fp s5.heap) (os6 ++ inner σ fr) H8 s8 → m' < n → W (k + 1) m' H8 →
          ∃ m, m < n ∧ ∃ k Hk σk, Inv (cxCompC X scope cl zt ns G.objs.size s2 H2 fp) [] σk Hk s8 ∧ (∃ os : St, os.length = 1 ∧ σk = os ++ inner σ fr) ∧ tn k s8.heap ∧ (∀ b ∈ fp, Hk b = none) ∧ W k m Hk := fun {H8 s8 m'} I8 hm w8 => by
        refine ⟨m', hm, k + 1, _, _, I8.unpinned, ⟨os6, hol6, rfl⟩, T.keep _ _ _ st5 fun b hb o e => (I8.pin (b, o) (List.mem_append_right _ (List.mem_append_right _ (mem_pinsAt hb e)))).1, fun b hb => ?_, w8⟩
        obtain ⟨ob, e, d⟩ := T.obj _ _ st5 b hb
        exact (I8.pin (b, ob) (List.mem_append_right _ (List.mem_append_right _ (mem_pinsAt hb e)))).2.1
      refine wpAny_mono (hf _ _ _ _ _ s6 _ H6 _ I6 q6) (fun b s6' zz => ?_) fun _ _ z => z.elim
      obtain ⟨H6', I6', q6'⟩ := zz
      cases b with
      | false =>
        rw [if_neg (by decide)] at q6' ⊢
        obtain ⟨m', hm, w7⟩ := q6'
        exact back I6' hm w7
      | true =>
        rw [if_pos rfl] at q6' ⊢
        refine wpAny_mono (he _ _ _ _ _ s6' _ H6' _ I6' q6') (fun yv s7 zz => ?_) fun _ _ z => z.elim
        obtain ⟨yy, H7, I7, r7, zs, m', hz, hl, hm, w7⟩ := zz
        refine wpAny_mono (mt_append (X := cxCompC X scope cl zt ns G.objs.size s2 H2 fp) _ s7 _ H7 (.ref s2.heap.objs.size) [yy] (.ref s2.heap.objs.size) [yv] (fun _ H8 => H8 = upd H7 s2.heap.objs.size (.lst (zs ++ [yy]))) I7 rfl (.cons r7 .nil) ⟨_, zs, yy, rfl, rfl, hz, hl, rfl⟩) (fun _ s8 zz => ?_) fun _ _ z => z.elim
        obtain ⟨_, H8, I8, _, e8⟩ := zz
        subst e8
        exact back I8 hm w7
  exact codeAny_compStart_list loop (T.self _ 0 _ _ _ (T.keep _ _ _ st2 fun b _ o e => old b o e) loop)

theorem CompOk2.ofHas {X : Cx} {scope : Scope} {xs ns : List Str} {fr : List Nat} (has : ∀ x, (X.env.kindOf x = some .cell ∨ X.env.kindOf x = some .free) → ∃ c, X.env.cells.lookup x = some c) (hk : X.env.scope.kind = .function) (kind : scope.kind = .function)
    (h : compB X.env.scope.names scope.names X.N ns fr = true) : CompOk2 X scope (clOf X.env.cells scope.names []) xs ns fr := by
  unfold compB at h
  rw [Bool.and_eq_true, Bool.and_eq_true, Bool.and_eq_true, Bool.and_eq_true] at h
  obtain ⟨⟨⟨⟨h1, h2⟩, h3⟩, h4⟩, h5⟩ := h
  have n1 : ∀ y ∈ scope.names, y.2 ≠ .cell := fun y hy e => by
    have := List.all_eq_true.mp h1 y hy
    rw [e] at this; cases this
  have n2 : ∀ y ∈ scope.names, y.2 = .local → scope.names.lookup y.1 = some .local := fun y hy e => by
    have := List.all_eq_true.mp h2 y hy
    rw [e] at this
    simpa using this
  have n3 : ∀ y ∈ scope.names, y.2 = .free → X.env.scope.names.lookup y.1 = some .cell := fun y hy e => by
    have := List.all_eq_true.mp h3 y hy
    rw [e] at this
    simpa using this
  have n4 : ∀ y ∈ scope.names, y.2 = .free → ∃ c, X.env.cells.lookup y.1 = some c := fun y hy e => has y.1 (.inl (n3 y hy e))
  refine ⟨closure_of n4, fun z c e => clOf_sub _ [] n4 (fun z c e => by cases e) e, kind, n1, n2, fun z hz => ?_, fun j z e => ?_, by simpa using h4⟩
  · refine Option.isSome_iff_exists.mp (clOf_has _ [] ?_)
    rcases hz with q | q
    · exact relabel_mem q n1 (.inl rfl)
    · exact relabel_mem q n1 (.inr rfl)
  · have hj : j < ns.length := (List.getElem?_eq_some_iff.mp e).1
    have := List.all_eq_true.mp h5 j (List.mem_range.mpr hj)
    rw [e] at this
    have h4' : fr.length = ns.length := by simpa using h4
    have hj' : j < fr.length := by rw [h4']; exact hj
    rw [List.getElem?_eq_getElem hj'] at this
    have this' : (X.N[fr[j]]? == some z && X.env.scope.names.lookup z == some .cell && scope.names.lookup z == some .free) = true := this
    rw [Bool.and_eq_true, Bool.and_eq_true] at this'
    obtain ⟨⟨a1, a2⟩, a3⟩ := this'
    have a2' : X.env.scope.names.lookup z = some .cell := by simpa using a2
    exact ⟨fr[j], List.getElem?_eq_getElem hj', by simpa using a1, a2', lookup_relabel_free hk (by simpa using a3) a2'⟩
theorem relabel_memC {env : Env} {zt : Str} : ∀ {names : List (Str × NameKind)} {x : Str} {k : NameKind},
    (names.map fun (n, k) => if (k == NameKind.free && env.scope.kind == .function && env.kindOf n == some .cell) then (n, NameKind.cell) else (n, k)).lookup x = some k → (∀ y ∈ names, y.2 = .cell → y.1 = zt) → (k = .cell ∨ k = .free) → x = zt ∨ (x, NameKind.free) ∈ names
  | [], _, _, h, _, _ => by simp at h
  | (n, k0) :: r, x, k, h, hn, hk => by
    have ih := @relabel_memC env zt r x k
    have h' : List.lookup x ((if (k0 == NameKind.free && env.scope.kind == .function && env.kindOf n == some .cell) = true then (n, NameKind.cell) else (n, k0)) :: r.map fun (n, k) => if (k == NameKind.free && env.scope.kind == .function && env.kindOf n == some .cell) then (n, NameKind.cell) else (n, k)) = some k := h
    cases hx : x == n with
    | false =>
      have up : x = zt ∨ (x, NameKind.free) ∈ r → x = zt ∨ (x, NameKind.free) ∈ (n, k0) :: r := fun w => w.imp id fun w => List.mem_cons_of_mem _ w
      by_cases hc' : (k0 == NameKind.free && env.scope.kind == .function && env.kindOf n == some .cell) = true
      · rw [if_pos hc'] at h'; exact up (ih (by simpa only [List.lookup_cons, hx] using h') (fun y hy => hn y (List.mem_cons_of_mem _ hy)) hk)
      · rw [if_neg hc'] at h'; exact up (ih (by simpa only [List.lookup_cons, hx] using h') (fun y hy => hn y (List.mem_cons_of_mem _ hy)) hk)
    | true =>
      have e : x = n := by simpa using hx
      subst e
      by_cases hc' : (k0 == NameKind.free && env.scope.kind == .function && env.kindOf x == some .cell) = true
      · have : k0 = .free := by
          rw [Bool.and_eq_true, Bool.and_eq_true] at hc'
          simpa using hc'.1.1
        rw [this]; exact .inr List.mem_cons_self
      · rw [if_neg hc'] at h'
        simp only [List.lookup_cons, hx] at h'
        have : k0 = k := Option.some.inj h'
        subst this
        rcases hk with e | e
        · exact .inl (hn (x, k0) List.mem_cons_self e)
        · rw [e]; exact .inr List.mem_cons_self
noncomputable def compBC (sc cs : List (Str × NameKind)) (N : List Str) (zt : Str) (ns : List Str) (fr : List Nat) : Bool :=
  cs.all (fun y => y.2 != .cell || y.1 == zt) && cs.all (fun y => y.2 != .local || cs.lookup y.1 == some .local) && cs.all (fun y => y.2 != .free || sc.lookup y.1 == some .cell)
    && (fr.length == ns.length) && (List.range ns.length).all (fun j => match ns[j]?, fr[j]? with
      | some z, some i => N[i]? == some z && sc.lookup z == some .cell && cs.lookup z == some .free && z != zt
      | _, _ => false)
theorem CompOkC.ofHas {X : Cx} {scope : Scope} {zt : Str} {ns : List Str} {fr : List Nat} (has : ∀ x, (X.env.kindOf x = some .cell ∨ X.env.kindOf x = some .free) → ∃ c, X.env.cells.lookup x = some c) (hk : X.env.scope.kind = .function) (kind : scope.kind = .function)
    (hcf : ∀ n acc, cellsFrom n scope.names acc = (zt, n) :: acc) (hpc : ∀ h, pushCells h scope.names = h.push { cls := .type "cell", data := .cell none })
    (h : compBC X.env.scope.names scope.names X.N zt ns fr = true) : CompOkC X scope (clOf X.env.cells scope.names []) zt ns fr := by
  unfold compBC at h
  rw [Bool.and_eq_true, Bool.and_eq_true, Bool.and_eq_true, Bool.and_eq_true] at h
  obtain ⟨⟨⟨⟨h1, h2⟩, h3⟩, h4⟩, h5⟩ := h
  have n1 : ∀ y ∈ scope.names, y.2 = .cell → y.1 = zt := fun y hy e => by
    have := List.all_eq_true.mp h1 y hy
    rw [e] at this
    simpa using this
  have n2 : ∀ y ∈ scope.names, y.2 = .local → scope.names.lookup y.1 = some .local := fun y hy e => by
    have := List.all_eq_true.mp h2 y hy
    rw [e] at this
    simpa using this
  have n3 : ∀ y ∈ scope.names, y.2 = .free → X.env.scope.names.lookup y.1 = some .cell := fun y hy e => by
    have := List.all_eq_true.mp h3 y hy
    rw [e] at this
    simpa using this
  have n4 : ∀ y ∈ scope.names, y.2 = .free → ∃ c, X.env.cells.lookup y.1 = some c := fun y hy e => has y.1 (.inl (n3 y hy e))
  refine ⟨closure_of n4, fun z c e => clOf_sub _ [] n4 (fun z c e => by cases e) e, kind, hcf, hpc, n2, fun z hz => ?_, fun j z e => ?_, by simpa using h4⟩
  · have w : z = zt ∨ (z, NameKind.free) ∈ scope.names := by
      rcases hz with q | q
      · exact relabel_memC q n1 (.inl rfl)
      · exact relabel_memC q n1 (.inr rfl)
    exact w.imp id fun w => Option.isSome_iff_exists.mp (clOf_has _ [] w)
  · have hj : j < ns.length := (List.getElem?_eq_some_iff.mp e).1
    have := List.all_eq_true.mp h5 j (List.mem_range.mpr hj)
    rw [e] at this
    have h4' : fr.length = ns.length := by simpa using h4
    have hj' : j < fr.length := by rw [h4']; exact hj
    rw [List.getElem?_eq_getElem hj'] at this
    have this' : (X.N[fr[j]]? == some z && X.env.scope.names.lookup z == some .cell && scope.names.lookup z == some .free && z != zt) = true := this
    rw [Bool.and_eq_true, Bool.and_eq_true, Bool.and_eq_true] at this'
    obtain ⟨⟨⟨a1, a2⟩, a3⟩, a4⟩ := this'
    have a2' : X.env.scope.names.lookup z = some .cell := by simpa using a2
    exact ⟨by simpa using a4, fr[j], List.getElem?_eq_getElem hj', by simpa using a1, a2', lookup_relabel_free hk (by simpa using a3) a2'⟩
theorem pe_compI {X : Cx} {tg iter elt : Expr} {ifs : List Expr} {scope : Scope} {pos : Pos} {xs ns : List Str} {fr : List Nat} {wi : TI} {g : TG} {tt : TT} {te : TE}
    (hc : X.calm = true) (hk : X.env.scope.kind = .function) (kind : scope.kind = .function) (hB : compB X.env.scope.names scope.names X.N ns fr = true) (hI : PI X tg iter wi) (hg : ∀ C s₂ H2 fp, PG (cxComp X scope (clOf X.env.cells scope.names []) (xs ++ ns) C s₂ H2 fp) tg g) (hf : ∀ C s₂ H2 fp, PF (cxComp X scope (clOf X.env.cells scope.names []) (xs ++ ns) C s₂ H2 fp) ifs tt)
    (he : ∀ C s₂ H2 fp, PE (cxComp X scope (clOf X.env.cells scope.names []) (xs ++ ns) C s₂ H2 fp) elt te) (hs : ∀ x, foldedSetIterable iter X.env x = pure x := by intro _; rfl) :
    PE X (.ListComp elt [⟨tg, iter, ifs, 0⟩] scope pos) (tCompE wi xs.length fr g tt te) := by
  intro pins s σ H Q I h
  rw [eval_ListComp]
  refine comp_all (use := none) hc (CompOk2.ofHas (xs := xs) I.ok.has hk kind hB) hI hg hf he hs I h fun C l m s4 Hk J5 hn hC neL neCell sz hp q => ?_
  exact ⟨m, hn, fun h' sb => ⟨.ref l, Hk, J5.turned (t' := s4.toks) (it := C) (fun b o hb e => sb.extBut b o hb e) hC neL (.inr sz) neCell hp, rfl, q⟩⟩
theorem pe_compC {X : Cx} {tg iter elt : Expr} {ifs : List Expr} {scope : Scope} {pos : Pos} {zt : Str} {ns : List Str} {fr : List Nat} {wi : TI} {g : TG} {tt : TT} {te : TE}
    (hc : X.calm = true) (hk : X.env.scope.kind = .function) (kind : scope.kind = .function) (hcf : ∀ n acc, cellsFrom n scope.names acc = (zt, n) :: acc) (hpc : ∀ h, pushCells h scope.names = h.push { cls := .type "cell", data := .cell none }) (hB : compBC X.env.scope.names scope.names X.N zt ns fr = true) (hI : PI X tg iter wi) (hg : ∀ C s₂ H2 fp, PG (cxCompC X scope (clOf X.env.cells scope.names []) zt ns C s₂ H2 fp) tg g) (hf : ∀ C s₂ H2 fp, PF (cxCompC X scope (clOf X.env.cells scope.names []) zt ns C s₂ H2 fp) ifs tt)
    (he : ∀ C s₂ H2 fp, PE (cxCompC X scope (clOf X.env.cells scope.names []) zt ns C s₂ H2 fp) elt te) (hs : ∀ x, foldedSetIterable iter X.env x = pure x := by intro _; rfl) :
    PE X (.ListComp elt [⟨tg, iter, ifs, 0⟩] scope pos) (tCompE wi 1 fr g tt te) := by
  intro pins s σ H Q I h
  rw [eval_ListComp]
  refine comp_allC (use := none) hc (CompOkC.ofHas I.ok.has hk kind hcf hpc hB) hI hg hf he hs I h fun C l m s4 Hk J5 hn hC neL neCell sz hp q => ?_
  exact ⟨m, hn, fun h' sb => ⟨.ref l, Hk, J5.turned (t' := s4.toks) (it := C) (fun b o hb e => sb.extBut b o hb e) hC neL (.inr sz) neCell hp, rfl, q⟩⟩
theorem ps_compC {X : Cx} {i : Nat} {y : Str} {py spos : Pos} {tg iter elt : Expr} {ifs : List Expr} {scope : Scope} {pos : Pos} {zt : Str} {ns : List Str} {fr : List Nat} {wi : TI} {g : TG} {tt : TT} {te : TE}
    (hc : X.calm = true) (hk : X.env.scope.kind = .function) (kind : scope.kind = .function) (hcf : ∀ n acc, cellsFrom n scope.names acc = (zt, n) :: acc) (hpc : ∀ h, pushCells h scope.names = h.push { cls := .type "cell", data := .cell none }) (hB : compBC X.env.scope.names scope.names X.N zt ns fr = true) (hN : X.N.Nodup) (hi : X.N[i]? = some y) (hy : Loc X.env.scope y) (hfn : X.fn y = true ∨ X.env.scope.names.lookup y = some .local)
    (hsw : swapsWith (.ListComp elt [⟨tg, iter, ifs, 0⟩] scope pos) (some (.Name y py)) spos.line X.env = pure true)
    (hI : PI X tg iter wi) (hg : ∀ C s₂ H2 fp, PG (cxCompC X scope (clOf X.env.cells scope.names []) zt ns C s₂ H2 fp) tg g) (hf : ∀ C s₂ H2 fp, PF (cxCompC X scope (clOf X.env.cells scope.names []) zt ns C s₂ H2 fp) ifs tt)
    (he : ∀ C s₂ H2 fp, PE (cxCompC X scope (clOf X.env.cells scope.names []) zt ns C s₂ H2 fp) elt te) (hs : ∀ x, foldedSetIterable iter X.env x = pure x := by intro _; rfl) :
    PS X (.Assign [.Name y py] (.ListComp elt [⟨tg, iter, ifs, 0⟩] scope pos) spos) (tAsg (tCompE wi 1 fr g tt te) (gName i)) := by
  intro pins s σ H D I h
  rw [exec_Assign_Name_used _ _ _ _ hsw]
  refine wpAny_bind (wpAny_standAt (wpAny_bind ?_))
  show wpAny _ X.A (do let _ ← comprehension (.ListComp elt [⟨tg, iter, ifs, 0⟩] scope pos) scope X.env _ (newList []) false (eval iter X.env) (some (assign (.Name y py) X.env))) _ _ s
  refine wpAny_bind (wpAny_mono (comp_allC (use := some (assign (.Name y py) X.env)) (Qv := fun _ s' => SP X pins D .next s') hc (CompOkC.ofHas I.ok.has hk kind hcf hpc hB) hI hg hf he hs I h fun C l m s4 Hk J5 hn hC neL neCell sz hp q => ?_) (fun _ s' hq => wpAny_pure (wpAny_pure hq)) fun _ _ e => e)
  show wpAny _ X.A (assign (.Name y py) X.env (.ref l)) _ _ s4
  refine wpAny_assign_Name (store_ok2 J5 hN hi hy (v := .ref l) rfl (fun s5 I6 sb => ?_) hfn)
  obtain ⟨aa, hsb, haa⟩ := sb
  have aC : C ≠ aa := by
    rcases haa with q | q
    · rw [q]; exact neL
    · exact fun z => neCell _ _ q z.symm
  refine ⟨m, ?_, fun h' sb' => ⟨_, _, I6.turned (t' := s5.toks) (it := C) (fun b o hb e => sb'.extBut b o hb e) hC neL (.inr sz) neCell hp, q⟩⟩
  obtain ⟨oC, es, ep, ho, r⟩ := hn
  exact ⟨oC, es, ep, hsb.extBut _ _ aC ho, r⟩
namespace R
variable {X : Cx} {elt iter tg : Expr} {te : TE} {pos : Pos}
theorem pe_compI {ifs : List Expr} {scope : Scope} {wi : TI} {g : TG} {tt : TT} (xs ns : List Str) (fr : List Nat) (hc : X.calm = true)
    (hI : QI X tg iter wi) (hg : ∀ C s₂ H2 fp, QG (cxComp X scope (clOf X.env.cells scope.names []) (xs ++ ns) C s₂ H2 fp) tg g) (hf : ∀ C s₂ H2 fp, QC (cxComp X scope (clOf X.env.cells scope.names []) (xs ++ ns) C s₂ H2 fp) ifs tt)
    (he : ∀ C s₂ H2 fp, QE (cxComp X scope (clOf X.env.cells scope.names []) (xs ++ ns) C s₂ H2 fp) elt te) (hk : X.env.scope.kind = .function := by rfl) (kind : scope.kind = .function := by rfl) (hB : compB X.env.scope.names scope.names X.N ns fr = true := by kernel_rfl) (hs : ∀ x, foldedSetIterable iter X.env x = pure x := by intro _; rfl) :
    QE X (.ListComp elt [⟨tg, iter, ifs, 0⟩] scope pos) (tCompE wi xs.length fr g tt te) :=
  ⟨L2.pe_compI hc hk kind hB hI.h (fun C s H f => (hg C s H f).h) (fun C s H f => (hf C s H f).h) (fun C s H f => (he C s H f).h) hs⟩
theorem pe_compC {ifs : List Expr} {scope : Scope} {wi : TI} {g : TG} {tt : TT} (zt : Str) (ns : List Str) (fr : List Nat) (hc : X.calm = true)
    (hI : QI X tg iter wi) (hg : ∀ C s₂ H2 fp, QG (cxCompC X scope (clOf X.env.cells scope.names []) zt ns C s₂ H2 fp) tg g) (hf : ∀ C s₂ H2 fp, QC (cxCompC X scope (clOf X.env.cells scope.names []) zt ns C s₂ H2 fp) ifs tt)
    (he : ∀ C s₂ H2 fp, QE (cxCompC X scope (clOf X.env.cells scope.names []) zt ns C s₂ H2 fp) elt te) (hcf : ∀ n acc, cellsFrom n scope.names acc = (zt, n) :: acc := by intro _ _; rfl) (hpc : ∀ h, pushCells h scope.names = h.push { cls := .type "cell", data := .cell none } := by intro _; rfl)
    (hk : X.env.scope.kind = .function := by rfl) (kind : scope.kind = .function := by rfl) (hB : compBC X.env.scope.names scope.names X.N zt ns fr = true := by kernel_rfl) (hs : ∀ x, foldedSetIterable iter X.env x = pure x := by intro _; rfl) :
    QE X (.ListComp elt [⟨tg, iter, ifs, 0⟩] scope pos) (tCompE wi 1 fr g tt te) :=
  ⟨L2.pe_compC hc hk kind hcf hpc hB hI.h (fun C s H f => (hg C s H f).h) (fun C s H f => (hf C s H f).h) (fun C s H f => (he C s H f).h) hs⟩
theorem ps_compC {i : Nat} {y : Str} {py spos : Pos} {ifs : List Expr} {scope : Scope} {wi : TI} {g : TG} {tt : TT} (zt : Str) (ns : List Str) (fr : List Nat) (hnd : X.N.Nodup) (hi : X.N[i]? = some y) (hy : Loc X.env.scope y) (hfn : X.fn y = true)
    (hsw : swapsWith (.ListComp elt [⟨tg, iter, ifs, 0⟩] scope pos) (some (.Name y py)) spos.line X.env = pure true) (hc : X.calm = true)
    (hI : QI X tg iter wi) (hg : ∀ C s₂ H2 fp, QG (cxCompC X scope (clOf X.env.cells scope.names []) zt ns C s₂ H2 fp) tg g) (hf : ∀ C s₂ H2 fp, QC (cxCompC X scope (clOf X.env.cells scope.names []) zt ns C s₂ H2 fp) ifs tt)
    (he : ∀ C s₂ H2 fp, QE (cxCompC X scope (clOf X.env.cells scope.names []) zt ns C s₂ H2 fp) elt te) (hcf : ∀ n acc, cellsFrom n scope.names acc = (zt, n) :: acc := by intro _ _; rfl) (hpc : ∀ h, pushCells h scope.names = h.push { cls := .type "cell", data := .cell none } := by intro _; rfl)
    (hk : X.env.scope.kind = .function := by rfl) (kind : scope.kind = .function := by rfl) (hB : compBC X.env.scope.names scope.names X.N zt ns fr = true := by kernel_rfl) (hs : ∀ x, foldedSetIterable iter X.env x = pure x := by intro _; rfl) :
    QS X (.Assign [.Name y py] (.ListComp elt [⟨tg, iter, ifs, 0⟩] scope pos) spos) (tAsg (tCompE wi 1 fr g tt te) (gName i)) :=
  ⟨L2.ps_compC hc hk kind hcf hpc hB hnd hi hy (.inl hfn) hsw hI.h (fun C s H f => (hg C s H f).h) (fun C s H f => (hf C s H f).h) (fun C s H f => (he C s H f).h) hs⟩
end R
end L2


set_option Elab.async false
set_option linter.all false
set_option maxRecDepth 100000
/-! all ways to give each thing of a bundle to one of the bids -/
namespace L2
open PySem PySem.Spec PyProof.Rows
/-- the bundles share out x -/
noncomputable def Split : List Nat → Nat → Prop
  | [], x => x = 0
  | p :: ps, x => x &&& p = p ∧ Split ps (x - p)
/-- what the functions give at the bundles, summed -/
noncomputable def give : List (Nat → Int) → List Nat → Int
  | g :: gs, p :: ps => g p + give gs ps
  | _, _ => 0
theorem two_parts : ∀ x < 64, ∀ p ∈ subsOf x, ∀ q ∈ subsOf (x - p), x &&& (p + q) = p + q ∧ (p + q) &&& p = p := by decide +kernel
theorem part_parts : ∀ x < 64, ∀ q ∈ subsOf x, ∀ p ∈ subsOf q, x &&& p = p ∧ (x - p) &&& (q - p) = q - p := by decide +kernel
/-- the chain of conv -/
noncomputable def chain (gs : List (Nat → Int)) (g : Nat → Int) : Nat → Int := gs.foldl conv g
theorem chain_ub : ∀ (gs : List (Nat → Int)) (g : Nat → Int) (p : Nat) (ps : List Nat) (x : Nat), x < 64 → ps.length = gs.length → Split (p :: ps) x → g p + give gs ps ≤ chain gs g x
  | [], g, p, ps, x, hx, hl, hs => by
    have : ps = [] := List.length_eq_zero_iff.mp hl
    subst this
    have h2 : x - p = 0 := hs.2
    have : p ≤ x := by rw [← hs.1]; exact Nat.and_le_left
    have : p = x := by omega
    subst this
    show g p + 0 ≤ g p; omega
  | h :: gs, g, p, ps, x, hx, hl, hs => by
    cases ps with
    | nil => simp at hl
    | cons q ps =>
      obtain ⟨h1, h2, h3⟩ := hs
      obtain ⟨a1, a2⟩ := two_parts x hx p (subs_mem.mpr h1) q (subs_mem.mpr h2)
      have ih := chain_ub gs (conv g h) (p + q) ps x hx (by simpa using hl) ⟨a1, by rw [← Nat.sub_sub]; exact h3⟩
      have c := conv_ge (g := g) (h := h) a2
      rw [Nat.add_sub_cancel_left] at c
      show g p + (h q + give gs ps) ≤ chain gs (conv g h) x
      omega
theorem conv_at' {g h : Nat → Int} (hg : Good g) (hh : Good h) {x : Nat} (hx : x < 64) : ∃ p, x &&& p = p ∧ conv g h x = g p + h (x - p) := by
  rcases conv_at g h x with e | e
  · refine ⟨0, Nat.and_zero x, ?_⟩
    have h1 := conv_ge (g := g) (h := h) (x := x) (p := 0) (Nat.and_zero x)
    have h2 := part_nonneg hg hh hx (Nat.and_zero x)
    omega
  · exact e
theorem chain_at : ∀ (gs : List (Nat → Int)) (g : Nat → Int), Good g → (∀ h ∈ gs, Good h) → ∀ x, x < 64 → ∃ p ps, ps.length = gs.length ∧ Split (p :: ps) x ∧ g p + give gs ps = chain gs g x
  | [], g, hg, _, x, hx => ⟨x, [], rfl, ⟨Nat.and_self x, Nat.sub_self x⟩, by show g x + 0 = g x; omega⟩
  | h :: gs, g, hg, hh, x, hx => by
    have h1 := hh h (List.mem_cons_self ..)
    obtain ⟨q, ps, hl, hs, e⟩ := chain_at gs (conv g h) (conv_good hg h1) (fun k hk => hh k (List.mem_cons_of_mem _ hk)) x hx
    obtain ⟨p, hp, ep⟩ := conv_at' hg h1 (sub_lt hx hs.1)
    obtain ⟨a1, a2⟩ := part_parts x hx q (subs_mem.mpr hs.1) p (subs_mem.mpr hp)
    have le1 : p ≤ q := by rw [← hp]; exact Nat.and_le_left
    refine ⟨p, (q - p) :: ps, by simp [hl], ⟨a1, a2, ?_⟩, ?_⟩
    · have : x - p - (q - p) = x - q := by omega
      rw [this]; exact hs.2
    · show g p + (h (q - p) + give gs ps) = chain gs (conv g h) x
      rw [← e, ep]; omega
theorem chain_agree : ∀ (gs : List (Nat → Int)) {g g' : Nat → Int}, agree g g' → agree (chain gs g) (chain gs g')
  | [], _, _, h => h
  | k :: gs, g, g', h => chain_agree gs (conv_agree h fun _ _ => rfl)
theorem conv_zero {h : Nat → Int} (hh : Good h) : agree (conv (fun _ => 0) h) h := by
  intro x hx
  refine TopIs.uniq (conv_top _ h x) ⟨hh.nonneg hx, fun p hp => ?_, .inr ⟨0, Nat.and_zero x, ?_⟩⟩
  · have := hh.up (x - p) x hx (minus_part x hx p (subs_mem.mpr hp))
    show 0 + h (x - p) ≤ h x; omega
  · show 0 + h (x - 0) = h x
    rw [Nat.sub_zero]; omega
/-! ### dealing -/
noncomputable def dealOne (ps : List Nat) (j t : Nat) : List Nat := ps.set j (ps.getD j 0 + 2 ^ t)
noncomputable def deal (m : Nat) : List Nat → List Nat → Nat → List Nat
  | [], ps, _ => ps
  | t :: ts, ps, k => deal m ts (dealOne ps (k % m) t) (k / m)
noncomputable def left (m : Nat) : List Nat → Nat → Nat
  | [], k => k
  | _ :: ts, k => left m ts (k / m)
theorem deal_snoc (m t : Nat) : ∀ (ts ps : List Nat) (k : Nat), deal m (ts ++ [t]) ps k = dealOne (deal m ts ps k) (left m ts k % m) t
  | [], _, _ => rfl
  | u :: ts, ps, k => deal_snoc m t ts (dealOne ps (k % m) u) (k / m)
theorem left_snoc (m t : Nat) : ∀ (ts : List Nat) (k : Nat), left m (ts ++ [t]) k = left m ts k / m
  | [], _ => rfl
  | u :: ts, k => left_snoc m t ts (k / m)
theorem deal_len (m : Nat) : ∀ (ts ps : List Nat) (k : Nat), (deal m ts ps k).length = ps.length
  | [], _, _ => rfl
  | t :: ts, ps, k => by
    show (deal m ts (dealOne ps (k % m) t) (k / m)).length = _
    rw [deal_len m ts]; exact List.length_set
/-- the things still to be dealt, from y up to x -/
noncomputable def Fresh : List Nat → Nat → Nat → Prop
  | [], y, x => y = x
  | t :: ts, y, x => (y < 64 ∧ t < 6 ∧ y.testBit t = false) ∧ Fresh ts (y + 2 ^ t) x
instance : ∀ ts y x, Decidable (Fresh ts y x)
  | [], y, x => inferInstanceAs (Decidable (y = x))
  | t :: ts, y, x => @instDecidableAnd _ _ inferInstance (instDecidableFresh ts (y + 2 ^ t) x)
where instDecidableFresh : ∀ ts y x, Decidable (Fresh ts y x)
  | [], y, x => inferInstanceAs (Decidable (y = x))
  | t :: ts, y, x => @instDecidableAnd _ _ inferInstance (instDecidableFresh ts (y + 2 ^ t) x)
theorem fresh_things : ∀ x < 64, Fresh (things x) 0 x := by decide +kernel
theorem put_bit1 : ∀ y < 64, ∀ t < 6, y.testBit t = false → y + 2 ^ t < 64 ∧ (y + 2 ^ t) &&& y = y ∧ (y + 2 ^ t).testBit t = true := by decide +kernel
theorem put_bit2 : ∀ y < 64, ∀ t < 6, y.testBit t = false → ∀ p ∈ subsOf y, (y + 2 ^ t) &&& (p + 2 ^ t) = p + 2 ^ t ∧ (y + 2 ^ t) &&& p = p := by decide +kernel
theorem put_bit3 : ∀ y < 64, ∀ t < 6, y.testBit t = false → ∀ p ∈ subsOf y, (y - p).testBit t = false ∧ p.testBit t = false := by decide +kernel
theorem put_bit (y : Nat) (hy : y < 64) (t : Nat) (ht : t < 6) (hb : y.testBit t = false) : y + 2 ^ t < 64 ∧ (y + 2 ^ t) &&& y = y ∧ (y + 2 ^ t).testBit t = true ∧ ∀ p ∈ subsOf y, (y + 2 ^ t) &&& (p + 2 ^ t) = p + 2 ^ t ∧ (y + 2 ^ t) &&& p = p ∧ (y - p).testBit t = false ∧ p.testBit t = false ∧ (y + 2 ^ t) - p = (y - p) + 2 ^ t := by
  obtain ⟨a, b, c⟩ := put_bit1 y hy t ht hb
  refine ⟨a, b, c, fun p hp => ?_⟩
  obtain ⟨d, e⟩ := put_bit2 y hy t ht hb p hp
  obtain ⟨f, g⟩ := put_bit3 y hy t ht hb p hp
  have : p ≤ y := by rw [← subs_mem.mp hp]; exact Nat.and_le_left
  exact ⟨d, e, f, g, Nat.sub_add_comm this⟩
theorem split_lt {x : Nat} (hx : x < 64) : ∀ {ps : List Nat}, Split ps x → ∀ p ∈ ps, p < 64
  | [], _, p, hp => by cases hp
  | q :: ps, h, p, hp => by
    rcases List.mem_cons.mp hp with e | hp
    · subst e; exact sub_lt hx h.1
    · exact split_lt (x := x - q) (by omega) h.2 p hp
theorem split_deal {t : Nat} (ht : t < 6) : ∀ (ps : List Nat) (j y : Nat), y < 64 → y.testBit t = false → j < ps.length → Split ps y → Split (dealOne ps j t) (y + 2 ^ t)
  | [], _, _, _, _, h, _ => by cases h
  | p :: ps, 0, y, hy, hb, _, hs => by
    obtain ⟨_, _, _, z⟩ := put_bit y hy t ht hb
    obtain ⟨z1, z2, z3, z4, z5⟩ := z p (subs_mem.mpr hs.1)
    show Split ((p + 2 ^ t) :: ps) (y + 2 ^ t)
    exact ⟨z1, by rw [show y + 2 ^ t - (p + 2 ^ t) = y - p by omega]; exact hs.2⟩
  | p :: ps, j + 1, y, hy, hb, hj, hs => by
    obtain ⟨_, _, _, z⟩ := put_bit y hy t ht hb
    obtain ⟨z1, z2, z3, z4, z5⟩ := z p (subs_mem.mpr hs.1)
    have ih := split_deal ht ps j (y - p) (by omega) z3 (by simpa using hj) hs.2
    have e : dealOne (p :: ps) (j + 1) t = p :: dealOne ps j t := rfl
    rw [e]
    exact ⟨z2, by rw [z5]; exact ih⟩
theorem split_zero : ∀ m, Split (List.replicate m 0) 0
  | 0 => rfl
  | m + 1 => ⟨rfl, split_zero m⟩
theorem deal_split {m : Nat} (hm : 0 < m) : ∀ (ts ps : List Nat) (k y x : Nat), ps.length = m → Fresh ts y x → Split ps y → Split (deal m ts ps k) x
  | [], ps, k, y, x, _, hf, hs => by
    have e : y = x := hf
    rw [← e]; exact hs
  | t :: ts, ps, k, y, x, hl, hf, hs => by
    obtain ⟨⟨f1, f2, f3⟩, f4⟩ := hf
    exact deal_split hm ts _ (k / m) (y + 2 ^ t) x (by show (ps.set _ _).length = m; rw [List.length_set]; exact hl) f4 (split_deal f2 ps (k % m) y f1 f3 (by rw [hl]; exact Nat.mod_lt _ hm) hs)
/-- each of the ones holds each of the others -/
noncomputable def Below : List Nat → List Nat → Prop
  | [], [] => True
  | p :: ps, q :: qs => q &&& p = p ∧ Below ps qs
  | _, _ => False
theorem split_sum : ∀ (ps : List Nat) (x : Nat), Split ps x → ps.sum = x
  | [], x, h => h.symm
  | p :: ps, x, h => by
    have := split_sum ps (x - p) h.2
    have : p ≤ x := by rw [← h.1]; exact Nat.and_le_left
    rw [List.sum_cons]; omega
theorem below_le : ∀ (ps qs : List Nat), Below ps qs → ps.sum ≤ qs.sum ∧ (ps.sum = qs.sum → ps = qs)
  | [], [], _ => ⟨Nat.le_refl _, fun _ => rfl⟩
  | [], _ :: _, h => h.elim
  | _ :: _, [], h => h.elim
  | p :: ps, q :: qs, h => by
    have le : p ≤ q := by rw [← h.1]; exact Nat.and_le_left
    obtain ⟨ih1, ih2⟩ := below_le ps qs h.2
    rw [List.sum_cons, List.sum_cons]
    refine ⟨by omega, fun e => ?_⟩
    have e1 : p = q := by omega
    rw [e1, ih2 (by omega)]
theorem below_zero : ∀ qs : List Nat, Below (List.replicate qs.length 0) qs
  | [] => trivial
  | q :: qs => ⟨Nat.and_zero q, below_zero qs⟩
theorem add_bit : ∀ q < 64, ∀ t < 6, q.testBit t = true → ∀ p ∈ subsOf q, p.testBit t = false → q &&& (p + 2 ^ t) = p + 2 ^ t := by decide +kernel
theorem below_deal {t : Nat} (ht : t < 6) : ∀ (ps qs : List Nat) (j q : Nat), Below ps qs → qs[j]? = some q → q < 64 → q.testBit t = true → (∀ p ∈ ps, p.testBit t = false) → Below (dealOne ps j t) qs
  | [], [], _, _, _, e, _, _, _ => by simp at e
  | [], _ :: _, _, _, h, _, _, _, _ => h.elim
  | _ :: _, [], _, _, h, _, _, _, _ => h.elim
  | p :: ps, q' :: qs, 0, q, h, e, hq, hb, hn => by
    have e' : q' = q := Option.some.inj e
    subst e'
    show Below ((p + 2 ^ t) :: ps) (q' :: qs)
    exact ⟨add_bit q' hq t ht hb p (subs_mem.mpr h.1) (hn p (List.mem_cons_self ..)), h.2⟩
  | p :: ps, q' :: qs, j + 1, q, h, e, hq, hb, hn => by
    show Below (p :: dealOne ps j t) (q' :: qs)
    exact ⟨h.1, below_deal ht ps qs j q h.2 e hq hb fun z hz => hn z (List.mem_cons_of_mem _ hz)⟩
theorem split_none {t : Nat} (ht : t < 6) : ∀ (ps : List Nat) (y : Nat), y < 64 → y.testBit t = false → Split ps y → ∀ p ∈ ps, p.testBit t = false
  | [], _, _, _, _, p, hp => by cases hp
  | q :: ps, y, hy, hb, hs, p, hp => by
    obtain ⟨_, _, _, z⟩ := put_bit y hy t ht hb
    obtain ⟨z1, z2, z3, z4, z5⟩ := z q (subs_mem.mpr hs.1)
    rcases List.mem_cons.mp hp with e | hp
    · subst e; exact z4
    · exact split_none ht ps (y - q) (by omega) z3 hs.2 p hp
theorem split_has {t : Nat} (ht : t < 6) : ∀ (qs : List Nat) (x : Nat), x < 64 → x.testBit t = true → Split qs x → ∃ (j q : Nat), qs[j]? = some q ∧ q.testBit t = true
  | [], x, _, hb, hs => by
    have e : x = 0 := hs
    rw [e, Nat.zero_testBit] at hb; cases hb
  | q :: qs, x, hx, hb, hs => by
    by_cases c : q.testBit t = true
    · exact ⟨0, q, rfl, c⟩
    · have hb' : (x - q).testBit t = true := by
        rw [minus_bits x hx q (subs_mem.mpr hs.1) t ht, hb]
        simpa using c
      obtain ⟨j, r, e, hr⟩ := split_has ht qs (x - q) (by omega) hb' hs.2
      exact ⟨j + 1, r, e, hr⟩
theorem fresh_sub : ∀ (ts : List Nat) (y x : Nat), Fresh ts y x → y < 64 → x < 64 ∧ x &&& y = y
  | [], y, x, h, hy => by
    have e : y = x := h
    subst e; exact ⟨hy, Nat.and_self y⟩
  | t :: ts, y, x, h, hy => by
    obtain ⟨⟨f1, f2, f3⟩, f4⟩ := h
    obtain ⟨z1, z2, _⟩ := put_bit y f1 t f2 f3
    obtain ⟨i1, i2⟩ := fresh_sub ts (y + 2 ^ t) x f4 z1
    exact ⟨i1, sub_trans i2 z2⟩
theorem deal_all {m : Nat} {x : Nat} {qs : List Nat} (hm : 0 < m) (hq : qs.length = m) (hsq : Split qs x) : ∀ (ts ps : List Nat) (y : Nat), y < 64 → ps.length = m → Fresh ts y x → Split ps y → Below ps qs → ∃ k, k < m ^ ts.length ∧ deal m ts ps k = qs
  | [], ps, y, hy, hl, hf, hs, hb => by
    have e : y = x := hf
    subst e
    refine ⟨0, Nat.one_pos, (below_le ps qs hb).2 ?_⟩
    rw [split_sum ps y hs, split_sum qs y hsq]
  | t :: ts, ps, y, hy, hl, hf, hs, hb => by
    obtain ⟨⟨f1, f2, f3⟩, f4⟩ := hf
    obtain ⟨z1, z2, z3, z4⟩ := put_bit y f1 t f2 f3
    obtain ⟨x64, i2⟩ := fresh_sub ts (y + 2 ^ t) x f4 z1
    obtain ⟨j, q, hj, hjb⟩ := split_has f2 qs x x64 (sub_bits.mp i2 t z3) hsq
    have jm : j < m := by rw [← hq]; exact (List.getElem?_eq_some_iff.mp hj).1
    have q64 := split_lt x64 hsq q (List.mem_of_getElem? hj)
    obtain ⟨k, hk, ek⟩ := deal_all hm hq hsq ts (dealOne ps j t) (y + 2 ^ t) z1 (by show (ps.set _ _).length = m; rw [List.length_set]; exact hl) f4 (split_deal f2 ps j y f1 f3 (by rw [hl]; exact jm) hs) (below_deal f2 ps qs j q hb hj q64 hjb (split_none f2 ps y f1 f3 hs))
    refine ⟨j + m * k, ?_, ?_⟩
    · rw [List.length_cons, Nat.pow_succ]
      have : m * (k + 1) ≤ m * m ^ ts.length := Nat.mul_le_mul_left m hk
      rw [Nat.mul_comm (m ^ ts.length) m]
      rw [Nat.mul_add, Nat.mul_one] at this
      omega
    · show deal m ts (dealOne ps ((j + m * k) % m) t) ((j + m * k) / m) = qs
      rw [Nat.add_mul_mod_self_left, Nat.mod_eq_of_lt jm, Nat.add_mul_div_left _ _ hm, Nat.div_eq_of_lt jm, Nat.zero_add]
      exact ek
/-- the greatest over all ways to deal is the chain -/
theorem deal_top (gs : List (Nat → Int)) (hg : ∀ g ∈ gs, Good g) {x : Nat} (hx : x < 64) :
    TopIs (fun k => k < gs.length ^ (things x).length) (fun k => give gs (deal gs.length (things x) (List.replicate gs.length 0) k)) (chain gs (fun _ => 0) x) := by
  cases gs with
  | nil =>
    refine ⟨Int.le_refl _, fun k _ => ?_, .inl rfl⟩
    show give [] _ ≤ 0
    exact Int.le_refl _
  | cons g gs =>
    have h1 := hg g (List.mem_cons_self ..)
    have h2 : ∀ h ∈ gs, Good h := fun h hh => hg h (List.mem_cons_of_mem _ hh)
    have e : chain (g :: gs) (fun _ => 0) x = chain gs g x := chain_agree gs (conv_zero h1) x hx
    rw [e]
    have hm : 0 < (g :: gs).length := Nat.succ_pos _
    have cg : 0 ≤ chain gs g x := by
      have := chain_ub gs g x (List.replicate gs.length 0) x hx (List.length_replicate ..) ⟨Nat.and_self x, by rw [Nat.sub_self]; exact split_zero _⟩
      have nn : ∀ (gs : List (Nat → Int)), (∀ h ∈ gs, Good h) → give gs (List.replicate gs.length 0) = 0 := by
        intro gs
        induction gs with
        | nil => intro _; rfl
        | cons k ks ih =>
          intro hk
          show k 0 + give ks (List.replicate ks.length 0) = 0
          rw [ih fun h hh => hk h (List.mem_cons_of_mem _ hh), (hk k (List.mem_cons_self ..)).zero]; rfl
      rw [nn gs h2] at this
      have := h1.nonneg hx
      omega
    refine ⟨cg, fun k _ => ?_, .inr ?_⟩
    · have hs := deal_split hm (things x) (List.replicate (g :: gs).length 0) k 0 x (List.length_replicate ..) (fresh_things x hx) (split_zero _)
      have hl := deal_len (g :: gs).length (things x) (List.replicate (g :: gs).length 0) k
      rw [List.length_replicate] at hl
      show give (g :: gs) (deal (g :: gs).length (things x) (List.replicate (g :: gs).length 0) k) ≤ _
      generalize deal (g :: gs).length (things x) (List.replicate (g :: gs).length 0) k = qs at hs hl ⊢
      cases qs with
      | nil => simp at hl
      | cons q qs => exact chain_ub gs g q qs x hx (by simpa using hl) hs
    · obtain ⟨p, ps, hl, hs, ev⟩ := chain_at gs g h1 h2 x hx
      have hl' : (p :: ps).length = (g :: gs).length := by simp [hl]
      obtain ⟨k, hk, ek⟩ := deal_all hm hl' hs (things x) (List.replicate (g :: gs).length 0) 0 (by decide) (List.length_replicate ..) (fresh_things x hx) (split_zero _) (by rw [← hl']; exact below_zero _)
      refine ⟨k, hk, ?_⟩
      show give (g :: gs) (deal (g :: gs).length (things x) (List.replicate (g :: gs).length 0) k) = _
      rw [ek]; exact ev
end L2
namespace L2.R
open PySem PySem.Spec PyProof.Rows
variable {X : Cx}
theorem sumL (K : PySem.W.Frag) (hc : X.calm = true) (h : X.K = K := by rfl) : CallR X (.builtin "sum") (fun xs H Q => ∃ (p : Addr) (ns : List Int), xs = [.ref p] ∧ SqL K H p (ns.map V.int) ∧ Q (.int ns.sum) H) := by subst h; exact call_sumL hc
end L2.R


set_option Elab.async false
set_option linter.all false
set_option maxRecDepth 100000
set_option maxHeartbeats 4000000
namespace My
open PySem PySem.Spec PyProof.Rows L2 GM
theorem lst0 {T : Type} {P : List T → Prop} {us : List T} (h : us.length = 0) (f : P []) : P us := by cases us with | nil => exact f | cons a us => cases h
theorem lst1 {T : Type} {P : List T → Prop} {us : List T} (h : us.length = 1) (f : ∀ a, P [a]) : P us := by cases us with | nil => cases h | cons a us => exact lst0 (P := fun l => P (a :: l)) (Nat.succ.inj h) (f a)
theorem lst2 {T : Type} {P : List T → Prop} {us : List T} (h : us.length = 2) (f : ∀ a b, P [a, b]) : P us := by cases us with | nil => cases h | cons a us => exact lst1 (P := fun l => P (a :: l)) (Nat.succ.inj h) (f a)
theorem lst3 {T : Type} {P : List T → Prop} {us : List T} (h : us.length = 3) (f : ∀ a b c, P [a, b, c]) : P us := by cases us with | nil => cases h | cons a us => exact lst2 (P := fun l => P (a :: l)) (Nat.succ.inj h) (f a)
theorem lst4 {T : Type} {P : List T → Prop} {us : List T} (h : us.length = 4) (f : ∀ a b c d, P [a, b, c, d]) : P us := by cases us with | nil => cases h | cons a us => exact lst3 (P := fun l => P (a :: l)) (Nat.succ.inj h) (f a)
theorem bnd1 {K : PySem.W.Frag} {x qual : Str} {st : Stmt} {f : Addr} {fd : FuncData} {p0 : Str} (F : Fun K x qual st f fd) (h : ∀ (kV doc pm : Value) (an : Option Addr) (cdv ct : Value) (a : Value), bindArgs (PySem.W.fnOf x qual (defArgs st) (defBody st) (defScope st) .none kV doc pm an cdv ct) ⟨[a], []⟩ = pure ([p0].zip [a])) : Binds K fd [p0] [] :=
  F.binds fun kV doc pm an cdv ct us hl => lst1 (P := fun us => bindArgs (PySem.W.fnOf x qual (defArgs st) (defBody st) (defScope st) .none kV doc pm an cdv ct) ⟨us, []⟩ = pure ([p0].zip us)) hl (h kV doc pm an cdv ct)
theorem bnd2 {K : PySem.W.Frag} {x qual : Str} {st : Stmt} {f : Addr} {fd : FuncData} {p0 p1 : Str} (F : Fun K x qual st f fd) (h : ∀ (kV doc pm : Value) (an : Option Addr) (cdv ct : Value) (a b : Value), bindArgs (PySem.W.fnOf x qual (defArgs st) (defBody st) (defScope st) .none kV doc pm an cdv ct) ⟨[a, b], []⟩ = pure ([p0, p1].zip [a, b])) : Binds K fd [p0, p1] [] :=
  F.binds fun kV doc pm an cdv ct us hl => lst2 (P := fun us => bindArgs (PySem.W.fnOf x qual (defArgs st) (defBody st) (defScope st) .none kV doc pm an cdv ct) ⟨us, []⟩ = pure ([p0, p1].zip us)) hl (h kV doc pm an cdv ct)
theorem bnd3 {K : PySem.W.Frag} {x qual : Str} {st : Stmt} {f : Addr} {fd : FuncData} {p0 p1 p2 : Str} (F : Fun K x qual st f fd) (h : ∀ (kV doc pm : Value) (an : Option Addr) (cdv ct : Value) (a b c : Value), bindArgs (PySem.W.fnOf x qual (defArgs st) (defBody st) (defScope st) .none kV doc pm an cdv ct) ⟨[a, b, c], []⟩ = pure ([p0, p1, p2].zip [a, b, c])) : Binds K fd [p0, p1, p2] [] :=
  F.binds fun kV doc pm an cdv ct us hl => lst3 (P := fun us => bindArgs (PySem.W.fnOf x qual (defArgs st) (defBody st) (defScope st) .none kV doc pm an cdv ct) ⟨us, []⟩ = pure ([p0, p1, p2].zip us)) hl (h kV doc pm an cdv ct)
theorem bnd4 {K : PySem.W.Frag} {x qual : Str} {st : Stmt} {f : Addr} {fd : FuncData} {p0 p1 p2 p3 : Str} (F : Fun K x qual st f fd) (h : ∀ (kV doc pm : Value) (an : Option Addr) (cdv ct : Value) (a b c d : Value), bindArgs (PySem.W.fnOf x qual (defArgs st) (defBody st) (defScope st) .none kV doc pm an cdv ct) ⟨[a, b, c, d], []⟩ = pure ([p0, p1, p2, p3].zip [a, b, c, d])) : Binds K fd [p0, p1, p2, p3] [] :=
  F.binds fun kV doc pm an cdv ct us hl => lst4 (P := fun us => bindArgs (PySem.W.fnOf x qual (defArgs st) (defBody st) (defScope st) .none kV doc pm an cdv ct) ⟨us, []⟩ = pure ([p0, p1, p2, p3].zip us)) hl (h kV doc pm an cdv ct)
noncomputable def top (i : Nat) : Stmt := PySem.Challenge.pw_gavelhall_k23_any_shares.main.body.getD i (.Pass ⟨0, 0, 0, 0⟩)
noncomputable abbrev s_P_is_whole : Stmt := top 5
noncomputable abbrev s_P_is_within : Stmt := top 6
noncomputable abbrev s_P_things_in : Stmt := top 8
noncomputable abbrev s_P_size_of : Stmt := top 9
noncomputable abbrev s_P_holds : Stmt := top 10
noncomputable abbrev s_P_parts_of : Stmt := top 11
noncomputable abbrev s_P_check_bundle : Stmt := top 19
noncomputable abbrev s_P_check_so_many : Stmt := top 20
noncomputable abbrev s_P_check_amount : Stmt := top 21
noncomputable abbrev s_P_check_bids : Stmt := top 22
noncomputable abbrev s_P_depth_over : Stmt := top 23
noncomputable abbrev s_P_tally_over : Stmt := top 24
noncomputable abbrev s_P_worths_of_nothing : Stmt := top 25
noncomputable abbrev s_P_shared_out : Stmt := top 26
noncomputable abbrev s_P_best_share : Stmt := top 27
noncomputable abbrev s_L_cell : Stmt := top 29
noncomputable abbrev s_L_whole : Stmt := top 30
noncomputable abbrev s_L_amount : Stmt := top 31
noncomputable abbrev s_L_size : Stmt := top 32
noncomputable abbrev s_L_form : Stmt := top 33
noncomputable abbrev s_L_single : Stmt := top 34
noncomputable abbrev s_L_worth : Stmt := top 35
noncomputable abbrev s_L_sizes : Stmt := top 36
noncomputable abbrev s_L_best : Stmt := top 37
noncomputable abbrev s_L_alike : Stmt := top 38
noncomputable abbrev s_L_plainly : Stmt := top 39
noncomputable abbrev s_law : Stmt := top 40
noncomputable abbrev s_M_Bid_worths : Stmt := (clsBody (top 13)).getD 0 (.Pass ⟨0, 0, 0, 0⟩)
noncomputable abbrev s_M_Bid_depth : Stmt := (clsBody (top 13)).getD 1 (.Pass ⟨0, 0, 0, 0⟩)
noncomputable abbrev s_M_Bid_tally : Stmt := (clsBody (top 13)).getD 2 (.Pass ⟨0, 0, 0, 0⟩)
noncomputable abbrev s_M_Only___init__ : Stmt := (clsBody (top 14)).getD 0 (.Pass ⟨0, 0, 0, 0⟩)
noncomputable abbrev s_M_Only_worths : Stmt := (clsBody (top 14)).getD 1 (.Pass ⟨0, 0, 0, 0⟩)
noncomputable abbrev s_M_SoMany___init__ : Stmt := (clsBody (top 15)).getD 0 (.Pass ⟨0, 0, 0, 0⟩)
noncomputable abbrev s_M_SoMany_worths : Stmt := (clsBody (top 15)).getD 1 (.Pass ⟨0, 0, 0, 0⟩)
noncomputable abbrev s_M_UpTo___init__ : Stmt := (clsBody (top 16)).getD 0 (.Pass ⟨0, 0, 0, 0⟩)
noncomputable abbrev s_M_UpTo_worths : Stmt := (clsBody (top 16)).getD 1 (.Pass ⟨0, 0, 0, 0⟩)
noncomputable abbrev s_M_Several___init__ : Stmt := (clsBody (top 17)).getD 0 (.Pass ⟨0, 0, 0, 0⟩)
noncomputable abbrev s_M_AnyOf_worths : Stmt := (clsBody (top 18)).getD 0 (.Pass ⟨0, 0, 0, 0⟩)
theorem sc_P_is_whole : FnScope ["thing"] ["thing"] (defScope s_P_is_whole) := ⟨rfl, rfl, rfl, by decide +kernel, rfl, by decide +kernel, by decide +kernel⟩
theorem sc_P_is_within : FnScope ["thing", "least", "most"] ["thing", "least", "most"] (defScope s_P_is_within) := ⟨rfl, rfl, rfl, by decide +kernel, rfl, by decide +kernel, by decide +kernel⟩
theorem sc_P_things_in : FnScope ["bundle"] ["bundle"] (defScope s_P_things_in) := ⟨rfl, rfl, rfl, by decide +kernel, rfl, by decide +kernel, by decide +kernel⟩
theorem sc_P_size_of : FnScope ["bundle"] ["bundle"] (defScope s_P_size_of) := ⟨rfl, rfl, rfl, by decide +kernel, rfl, by decide +kernel, by decide +kernel⟩
theorem sc_P_holds : FnScope ["one", "other"] ["one", "other"] (defScope s_P_holds) := ⟨rfl, rfl, rfl, by decide +kernel, rfl, by decide +kernel, by decide +kernel⟩
theorem sc_P_parts_of : FnScope ["bundle", "parts", "number"] ["bundle"] (defScope s_P_parts_of) := ⟨rfl, rfl, rfl, by decide +kernel, rfl, by decide +kernel, by decide +kernel⟩
theorem sc_P_check_bundle : FnScope ["bundle"] ["bundle"] (defScope s_P_check_bundle) := ⟨rfl, rfl, rfl, by decide +kernel, rfl, by decide +kernel, by decide +kernel⟩
theorem sc_P_check_so_many : FnScope ["number"] ["number"] (defScope s_P_check_so_many) := ⟨rfl, rfl, rfl, by decide +kernel, rfl, by decide +kernel, by decide +kernel⟩
theorem sc_P_check_amount : FnScope ["amount"] ["amount"] (defScope s_P_check_amount) := ⟨rfl, rfl, rfl, by decide +kernel, rfl, by decide +kernel, by decide +kernel⟩
theorem sc_P_check_bids : FnScope ["bids", "bid"] ["bids"] (defScope s_P_check_bids) := ⟨rfl, rfl, rfl, by decide +kernel, rfl, by decide +kernel, by decide +kernel⟩
theorem sc_P_depth_over : FnScope ["bids"] ["bids"] (defScope s_P_depth_over) := ⟨rfl, rfl, rfl, by decide +kernel, rfl, by decide +kernel, by decide +kernel⟩
theorem sc_P_tally_over : FnScope ["bids"] ["bids"] (defScope s_P_tally_over) := ⟨rfl, rfl, rfl, by decide +kernel, rfl, by decide +kernel, by decide +kernel⟩
theorem sc_P_worths_of_nothing : FnScope ["many"] ["many"] (defScope s_P_worths_of_nothing) := ⟨rfl, rfl, rfl, by decide +kernel, rfl, by decide +kernel, by decide +kernel⟩
theorem sc_P_shared_out : FnScope ["one", "other"] ["one", "other"] (defScope s_P_shared_out) := ⟨rfl, rfl, rfl, by decide +kernel, rfl, by decide +kernel, by decide +kernel⟩
theorem sc_P_best_share : FnScope ["one", "other", "bundle"] ["one", "other", "bundle"] (defScope s_P_best_share) := ⟨rfl, rfl, rfl, by decide +kernel, rfl, by decide +kernel, by decide +kernel⟩
theorem sc_L_cell : FnScope ["_law_script", "_law_k"] ["_law_script", "_law_k"] (defScope s_L_cell) := ⟨rfl, rfl, rfl, by decide +kernel, rfl, by decide +kernel, by decide +kernel⟩
theorem sc_L_whole : FnScope ["_law_found"] ["_law_found"] (defScope s_L_whole) := ⟨rfl, rfl, rfl, by decide +kernel, rfl, by decide +kernel, by decide +kernel⟩
theorem sc_L_amount : FnScope ["_law_cell_here", "_law_way"] ["_law_cell_here"] (defScope s_L_amount) := ⟨rfl, rfl, rfl, by decide +kernel, rfl, by decide +kernel, by decide +kernel⟩
theorem sc_L_size : FnScope ["_law_bundle"] ["_law_bundle"] (defScope s_L_size) := ⟨rfl, rfl, rfl, by decide +kernel, rfl, by decide +kernel, by decide +kernel⟩
theorem sc_L_form : FnScope ["_law_cell_here", "_law_other", "_law_last", "_law_word", "_law_bundle"] ["_law_cell_here", "_law_other", "_law_last"] (defScope s_L_form) := ⟨rfl, rfl, rfl, by decide +kernel, rfl, by decide +kernel, by decide +kernel⟩
theorem sc_L_single : FnScope ["_law_form_here"] ["_law_form_here"] (defScope s_L_single) := ⟨rfl, rfl, rfl, by decide +kernel, rfl, by decide +kernel, by decide +kernel⟩
theorem sc_L_worth : FnScope ["_law_form_here", "_law_bundle", "_law_there"] ["_law_form_here", "_law_bundle"] (defScope s_L_worth) := ⟨rfl, rfl, rfl, by decide +kernel, rfl, by decide +kernel, by decide +kernel⟩
theorem sc_L_sizes : FnScope ["_law_cell_here"] ["_law_cell_here"] (defScope s_L_sizes) := ⟨rfl, rfl, rfl, by decide +kernel, rfl, by decide +kernel, by decide +kernel⟩
theorem sc_L_best : FnScope ["_law_tables", "_law_bundle", "_law_things", "_law_ways", "_law_thing", "_law_best_here", "_law_number", "_law_left", "_law_shares", "_law_at"] ["_law_tables", "_law_bundle"] (defScope s_L_best) := ⟨rfl, rfl, rfl, by decide +kernel, rfl, by decide +kernel, by decide +kernel⟩
theorem sc_L_alike : FnScope ["_law_found", "_law_due", "_law_one", "_law_other"] ["_law_found", "_law_due"] (defScope s_L_alike) := ⟨rfl, rfl, rfl, by decide +kernel, rfl, by decide +kernel, by decide +kernel⟩
theorem sc_L_plainly : FnScope ["_law_script", "_law_things", "_law_best_here", "_law_bids", "_law_k", "_law_cell_here", "_law_thing", "_law_amount_here", "_law_due"] ["_law_script"] (defScope s_L_plainly) := ⟨rfl, rfl, rfl, by decide +kernel, rfl, by decide +kernel, by decide +kernel⟩
theorem sc_law : FnScope ["_law_script", "_law_many", "_law_things", "_law_last", "_law_forms", "_law_k", "_law_bids", "_law_tables", "_law_due", "_law_handed", "_law_bid", "_law_found", "_law_alone"] ["_law_script"] (defScope s_law) := ⟨rfl, rfl, rfl, by decide +kernel, rfl, by decide +kernel, by decide +kernel⟩
theorem sc_M_Bid_worths : FnScope ["self", "many"] ["self", "many"] (defScope s_M_Bid_worths) := ⟨rfl, rfl, rfl, by decide +kernel, rfl, by decide +kernel, by decide +kernel⟩
theorem sc_M_Bid_depth : FnScope ["self"] ["self"] (defScope s_M_Bid_depth) := ⟨rfl, rfl, rfl, by decide +kernel, rfl, by decide +kernel, by decide +kernel⟩
theorem sc_M_Bid_tally : FnScope ["self"] ["self"] (defScope s_M_Bid_tally) := ⟨rfl, rfl, rfl, by decide +kernel, rfl, by decide +kernel, by decide +kernel⟩
theorem sc_M_Only___init__ : FnScope ["self", "bundle", "amount"] ["self", "bundle", "amount"] (defScope s_M_Only___init__) := ⟨rfl, rfl, rfl, by decide +kernel, rfl, by decide +kernel, by decide +kernel⟩
theorem sc_M_Only_worths : FnScope ["self", "many"] ["self", "many"] (defScope s_M_Only_worths) := ⟨rfl, rfl, rfl, by decide +kernel, rfl, by decide +kernel, by decide +kernel⟩
theorem sc_M_SoMany___init__ : FnScope ["self", "kind", "least", "amount"] ["self", "kind", "least", "amount"] (defScope s_M_SoMany___init__) := ⟨rfl, rfl, rfl, by decide +kernel, rfl, by decide +kernel, by decide +kernel⟩
theorem sc_M_SoMany_worths : FnScope ["self", "many"] ["self", "many"] (defScope s_M_SoMany_worths) := ⟨rfl, rfl, rfl, by decide +kernel, rfl, by decide +kernel, by decide +kernel⟩
theorem sc_M_UpTo___init__ : FnScope ["self", "kind", "most", "each"] ["self", "kind", "most", "each"] (defScope s_M_UpTo___init__) := ⟨rfl, rfl, rfl, by decide +kernel, rfl, by decide +kernel, by decide +kernel⟩
theorem sc_M_UpTo_worths : FnScope ["self", "many"] ["self", "many"] (defScope s_M_UpTo_worths) := ⟨rfl, rfl, rfl, by decide +kernel, rfl, by decide +kernel, by decide +kernel⟩
theorem sc_M_Several___init__ : FnScope ["self", "bids"] ["self", "bids"] (defScope s_M_Several___init__) := ⟨rfl, rfl, rfl, by decide +kernel, rfl, by decide +kernel, by decide +kernel⟩
theorem sc_M_AnyOf_worths : FnScope ["self", "many", "best", "bid"] ["self", "many"] (defScope s_M_AnyOf_worths) := ⟨rfl, rfl, rfl, by decide +kernel, rfl, by decide +kernel, by decide +kernel⟩
/-- whole numbers from 0 on, as values -/
noncomputable def nv (k : Nat) : V := .int (k : Int)
noncomputable def sp_P_holds (_K : PySem.W.Frag) : Sp := fun vs H Q _ => ∃ a b : Nat, vs = [.int a, .int b] ∧ Q (.bl (decide (a &&& b = b))) H
noncomputable def sp_P_things_in (_K : PySem.W.Frag) : Sp := fun vs H Q _ => ∃ b : Nat, vs = [.int b] ∧ b < 64 ∧ ∀ l H', Same H H' → H l = none → H' l = some (.lst ((things b).map nv)) → Q (.ref l) H'
noncomputable def sp_P_size_of (_K : PySem.W.Frag) : Sp := fun vs H Q _ => ∃ b : Nat, vs = [.int b] ∧ b < 64 ∧ ∀ H', Same H H' → Q (nv (things b).length) H'
noncomputable def sp_P_is_whole (K : PySem.W.Frag) : Sp := fun vs H Q _ => ∃ v n, vs = [v] ∧ KindIs K H v n ∧ Q (.bl (decide (n = Nm.int))) H
noncomputable def sp_P_is_within (K : PySem.W.Frag) : Sp := fun vs H Q _ => ∃ v lo hi, vs = [v, .int lo, .int hi] ∧ ((∃ n, KindIs K H v n ∧ n ≠ .int ∧ Q (.bl false) H) ∨ (∃ i, v = .int i ∧ Q (.bl (decide (lo ≤ i) && decide (i ≤ hi))) H))
noncomputable def sp_P_check_bundle (_K : PySem.W.Frag) : Sp := fun vs H Q _ => ∃ i : Int, vs = [.int i] ∧ 1 ≤ i ∧ i ≤ 63 ∧ Q .non H
noncomputable def sp_P_check_so_many (_K : PySem.W.Frag) : Sp := fun vs H Q _ => ∃ i : Int, vs = [.int i] ∧ 1 ≤ i ∧ i ≤ 6 ∧ Q .non H
noncomputable def sp_P_check_amount (_K : PySem.W.Frag) : Sp := fun vs H Q _ => ∃ i : Int, vs = [.int i] ∧ 0 ≤ i ∧ i ≤ 10 ^ 9 ∧ Q .non H
noncomputable def sp_P_worths_of_nothing (_K : PySem.W.Frag) : Sp := fun vs H Q _ => ∃ n : Nat, vs = [nv n] ∧ n ≤ 6 ∧ ∀ l H', Same H H' → H l = none → H' l = some (.lst (((List.range (2 ^ n)).map fun _ => (0 : Int)).map V.int)) → Q (.ref l) H'
theorem pow6 {n : Nat} (h : n ≤ 6) : 2 ^ n ≤ 64 ∧ 0 < 2 ^ n := ⟨(Nat.pow_le_pow_right (n := 2) (by decide) h : 2 ^ n ≤ 2 ^ 6), Nat.two_pow_pos _⟩
theorem rng6 {n : Nat} (h : n ≤ 6) : -(2 ^ 62) ≤ ((2 ^ n : Nat) : Int) ∧ ((2 ^ n : Nat) : Int) < 2 ^ 62 := by
  have h1 := (pow6 h).1
  have h2 : ((2 ^ n : Nat) : Int) ≤ 64 := by exact_mod_cast h1
  exact ⟨Int.le_trans (by decide) (Int.natCast_nonneg (2 ^ n)), by omega⟩
noncomputable def cellN (ns : List Int) (k : Nat) : Int := if k < ns.length then ns.getD k 0 % 10 ^ 60 else if ns = [] then 7919 * (k : Int) + 5 else (ns.getD (k % ns.length) 0 % 1000003 + 613 * (k : Int)) * (48271 + 2 * (k : Int)) % 2147483647
noncomputable def sp_L_cell (K : PySem.W.Frag) : Sp := fun vs H Q _ => ∃ (a : Addr) (ns : List Int) (k : Nat), vs = [.ref a, .int k] ∧ SqL K H a (ns.map V.int) ∧ k ≤ 1000 ∧ ∀ H', Same H H' → Q (.int (cellN ns k)) H'
noncomputable def amountBy (c : Int) : Int := if c % 6 = 0 then 0 else if c % 6 = 1 then 10 ^ 9 else if c % 6 < 4 then 1 + c / 6 % 12 else c / 6 % (10 ^ 9 + 1)
theorem amountBy_nonneg (c : Int) : 0 ≤ amountBy c := by
  unfold amountBy
  split
  · omega
  · split
    · decide
    · split
      · omega
      · exact Int.emod_nonneg _ (by decide)
theorem amountBy_le (c : Int) : amountBy c ≤ 10 ^ 9 := by
  unfold amountBy
  split
  · decide
  · split
    · exact Int.le_refl _
    · split
      · omega
      · have := Int.emod_lt_of_pos (c / 6) (show (0 : Int) < 10 ^ 9 + 1 by decide)
        omega
noncomputable def sp_L_amount (_K : PySem.W.Frag) : Sp := fun vs H Q _ => ∃ c, vs = [.int c] ∧ Q (.int (amountBy c)) H
noncomputable def sp_L_whole (K : PySem.W.Frag) : Sp := fun vs H Q _ => ∃ v n, vs = [v] ∧ KindIs K H v n ∧ Q (.bl (decide (n = Nm.int))) H
theorem put1 (f : Str) (y : V) : (putF f y []).length < 1000 := by
  have h := length_putF f y []
  rw [List.length_nil] at h; omega
theorem put2 (f g : Str) (y z : V) : (putF g z (putF f y [])).length < 1000 := by
  have h := length_putF f y []
  have h2 := length_putF g z (putF f y [])
  rw [List.length_nil] at h; omega
noncomputable abbrev fsOnly (b : Nat) (m : Int) : List (Str × V) := [("bundle", nv b), ("amount", .int m)]
noncomputable abbrev fsSome (k l : Nat) (m : Int) : List (Str × V) := [("kind", nv k), ("least", nv l), ("amount", .int m)]
noncomputable abbrev fsMost (k c : Nat) (m : Int) : List (Str × V) := [("kind", nv k), ("most", nv c), ("each", .int m)]
theorem and64 {x k : Nat} (h : k ≤ 63) : x &&& k < 64 := Nat.lt_of_le_of_lt Nat.and_le_right (by omega)
theorem mem_at {nos : List Str} {f : Str} (i : Nat) (h : nos[i]? = some f) : f ∈ nos := List.mem_of_getElem? h
noncomputable def sp_M_Only___init__ (_K : PySem.W.Frag) (c : Addr) : Sp := fun vs H Q _ => ∃ (a dx : Addr) (b : Nat) (m : Int), vs = [.ref a, nv b, .int m] ∧ 1 ≤ b ∧ b ≤ 63 ∧ AmtOk m ∧ H a = some (.ins c dx []) ∧ Q .non (upd H a (.ins c dx (fsOnly b m)))
noncomputable def sp_M_SoMany___init__ (_K : PySem.W.Frag) (c : Addr) : Sp := fun vs H Q _ => ∃ (a dx : Addr) (k l : Nat) (m : Int), vs = [.ref a, nv k, nv l, .int m] ∧ 1 ≤ k ∧ k ≤ 63 ∧ 1 ≤ l ∧ l ≤ 6 ∧ AmtOk m ∧ H a = some (.ins c dx []) ∧ Q .non (upd H a (.ins c dx (fsSome k l m)))
noncomputable def sp_M_UpTo___init__ (_K : PySem.W.Frag) (c : Addr) : Sp := fun vs H Q _ => ∃ (a dx : Addr) (k l : Nat) (m : Int), vs = [.ref a, nv k, nv l, .int m] ∧ 1 ≤ k ∧ k ≤ 63 ∧ 1 ≤ l ∧ l ≤ 6 ∧ AmtOk m ∧ H a = some (.ins c dx []) ∧ Q .non (upd H a (.ins c dx (fsMost k l m)))
/-- what worths tells -/
noncomputable def Tells (f : Form) (n : Nat) (H : Hp) (Q : VK) : Prop := ∀ l H', Same H H' → H l = Option.none → H' l = Option.some (.lst ((worthsF f n).map V.int)) → Q (.ref l) H'
noncomputable def sp_M_Bid_worths (_K : PySem.W.Frag) (c : Addr) : Sp := fun vs H Q _ => ∃ (a dx : Addr) (n : Nat), vs = [.ref a, nv n] ∧ n ≤ 6 ∧ H a = some (.ins c dx []) ∧ Tells .none n H Q
noncomputable def sp_M_Only_worths (_K : PySem.W.Frag) (c : Addr) : Sp := fun vs H Q _ => ∃ (a dx : Addr) (n b : Nat) (m : Int), vs = [.ref a, nv n] ∧ n ≤ 6 ∧ b ≤ 63 ∧ H a = some (.ins c dx (fsOnly b m)) ∧ Tells (.only b m) n H Q
noncomputable def sp_M_SoMany_worths (_K : PySem.W.Frag) (c : Addr) : Sp := fun vs H Q _ => ∃ (a dx : Addr) (n k l : Nat) (m : Int), vs = [.ref a, nv n] ∧ n ≤ 6 ∧ k ≤ 63 ∧ H a = some (.ins c dx (fsSome k l m)) ∧ Tells (.some k l m) n H Q
noncomputable def sp_M_UpTo_worths (_K : PySem.W.Frag) (c : Addr) : Sp := fun vs H Q _ => ∃ (a dx : Addr) (n k l : Nat) (m : Int), vs = [.ref a, nv n] ∧ n ≤ 6 ∧ k ≤ 63 ∧ H a = some (.ins c dx (fsMost k l m)) ∧ Tells (.most k l m) n H Q
/-- the bid at a -/
noncomputable def IsBid (c_Bid c_Only c_SoMany c_UpTo : Addr) (H : Hp) (a : Addr) : Form → Prop
  | .none => ∃ dx, H a = some (.ins c_Bid dx [])
  | .only b m => ∃ dx, H a = some (.ins c_Only dx (fsOnly b m))
  | .some k l m => ∃ dx, H a = some (.ins c_SoMany dx (fsSome k l m))
  | .most k c m => ∃ dx, H a = some (.ins c_UpTo dx (fsMost k c m))
theorem IsBid.same {c1 c2 c3 c4 : Addr} {H H' : Hp} {a : Addr} {f : Form} (S : Same H H') (h : IsBid c1 c2 c3 c4 H a f) : IsBid c1 c2 c3 c4 H' a f := by
  cases f <;> obtain ⟨dx, e⟩ := h <;> exact ⟨dx, S _ _ e⟩
noncomputable def sp_L_size (_K : PySem.W.Frag) : Sp := fun vs H Q _ => ∃ b : Nat, vs = [nv b] ∧ b < 64 ∧ ∀ H', Same H H' → Q (nv (things b).length) H'
noncomputable def word : Form → Str
  | .none => "none"
  | .only _ _ => "only"
  | .some _ _ _ => "some"
  | .most _ _ _ => "most"
noncomputable def Fits : Form → Nat → Nat → Int → Prop
  | .none, _, _, _ => True
  | .only b m, k, _, z => b = k ∧ m = z
  | .some b c m, k, l, z => b = k ∧ c = l ∧ m = z
  | .most b c m, k, l, z => b = k ∧ c = l ∧ m = z
/-- the tuple at p tells the form -/
noncomputable def FormAt (H : Hp) (p : Addr) (f : Form) : Prop := ∃ (k l : Nat) (z : Int), H p = some (.tup [.str (word f), nv k, nv l, .int z]) ∧ k ≤ 63 ∧ Fits f k l z
theorem FormAt.same {H H' : Hp} {p : Addr} {f : Form} (S : Same H H') (h : FormAt H p f) : FormAt H' p f := let ⟨k, l, z, e, r⟩ := h; ⟨k, l, z, S _ _ e, r⟩
theorem FormAt.put {H : Hp} {p m : Addr} {f : Form} {zs : List V} {o : HO} (h : FormAt H p f) (hm : H m = some (.lst zs)) : FormAt (upd H m o) p f := by
  obtain ⟨k, l, z, e, r⟩ := h
  exact ⟨k, l, z, by rw [upd_ne (fun q => by rw [q, hm] at e; cases e)]; exact e, r⟩
theorem IsBid.put {c1 c2 c3 c4 : Addr} {H : Hp} {a m : Addr} {f : Form} {zs : List V} {o : HO} (h : IsBid c1 c2 c3 c4 H a f) (hm : H m = some (.lst zs)) : IsBid c1 c2 c3 c4 (upd H m o) a f := by
  cases f <;> obtain ⟨dx, e⟩ := h <;> exact ⟨dx, by rw [upd_ne (fun q => by rw [q, hm] at e; cases e)]; exact e⟩
noncomputable def sp_L_form (_K : PySem.W.Frag) : Sp := fun vs H Q _ => ∃ (c d : Int) (last : Nat), vs = [.int c, .int d, nv last] ∧ 1 ≤ last ∧ last ≤ 63 ∧ ∀ p H' f, Same H H' → H p = none → FormOk f → FormAt H' p f → Q (.ref p) H'
noncomputable def sp_L_worth (_K : PySem.W.Frag) : Sp := fun vs H Q _ => ∃ (p : Addr) (f : Form) (x : Nat), vs = [.ref p, nv x] ∧ FormOk f ∧ FormAt H p f ∧ x < 64 ∧ ∀ H', Same H H' → Q (.int (worthF f x)) H'
noncomputable def sp_L_single (_K : PySem.W.Frag) (c_Bid c_Only c_SoMany c_UpTo c_Several c_AnyOf : Addr) : Sp := fun vs H Q _ => ∃ (p : Addr) (f : Form), vs = [.ref p] ∧ FormOk f ∧ FormAt H p f ∧ ∀ a H', Same H H' → H a = none → IsBid c_Bid c_Only c_SoMany c_UpTo H' a f → Q (.ref a) H'
noncomputable def sp_L_alike (K : PySem.W.Frag) : Sp := fun vs H Q _ => ∃ (l d : Addr) (ws : List Int), vs = [.ref l, .ref d] ∧ H l = some (.lst (ws.map V.int)) ∧ SqL K H d (ws.map V.int) ∧ ∀ H', Same H H' → Q (.bl true) H'
/-- the bids at bs are those of the forms -/
noncomputable def BidsAt (c_Bid c_Only c_SoMany c_UpTo : Addr) (H : Hp) (bs : List Addr) (fs : List Form) : Prop := bs.length = fs.length ∧ ∀ (i : Nat) (b : Addr) (f : Form), bs[i]? = some b → fs[i]? = some f → FormOk f ∧ IsBid c_Bid c_Only c_SoMany c_UpTo H b f
theorem BidsAt.same {c1 c2 c3 c4 : Addr} {H H' : Hp} {bs : List Addr} {fs : List Form} (S : Same H H') (h : BidsAt c1 c2 c3 c4 H bs fs) : BidsAt c1 c2 c3 c4 H' bs fs := ⟨h.1, fun i b f e1 e2 => ⟨(h.2 i b f e1 e2).1, (h.2 i b f e1 e2).2.same S⟩⟩
theorem BidsAt.put {c1 c2 c3 c4 : Addr} {H : Hp} {m : Addr} {zs : List V} {o : HO} {bs : List Addr} {fs : List Form} (h : BidsAt c1 c2 c3 c4 H bs fs) (hm : H m = some (.lst zs)) : BidsAt c1 c2 c3 c4 (upd H m o) bs fs := ⟨h.1, fun i b f e1 e2 => ⟨(h.2 i b f e1 e2).1, (h.2 i b f e1 e2).2.put hm⟩⟩
theorem BidsAt.at {c1 c2 c3 c4 : Addr} {H : Hp} {bs : List Addr} {fs : List Form} (h : BidsAt c1 c2 c3 c4 H bs fs) {i : Nat} {v : V} (e : (bs.map V.ref)[i]? = some v) : ∃ b f, v = .ref b ∧ bs[i]? = some b ∧ fs[i]? = some f ∧ FormOk f ∧ IsBid c1 c2 c3 c4 H b f := by
  rw [List.getElem?_map] at e
  obtain ⟨b, hb, rfl⟩ := Option.map_eq_some_iff.mp e
  have hi : i < bs.length := (List.getElem?_eq_some_iff.mp hb).1
  have hi' : i < fs.length := by rw [← h.1]; exact hi
  exact ⟨b, fs[i], rfl, hb, List.getElem?_eq_getElem hi', h.2 i b _ hb (List.getElem?_eq_getElem hi')⟩
theorem BidsAt.snoc {c1 c2 c3 c4 : Addr} {H : Hp} {bs : List Addr} {fs : List Form} {b : Addr} {f : Form} (h : BidsAt c1 c2 c3 c4 H bs fs) (ok : FormOk f) (hb : IsBid c1 c2 c3 c4 H b f) : BidsAt c1 c2 c3 c4 H (bs ++ [b]) (fs ++ [f]) := by
  refine ⟨by rw [List.length_append, List.length_append, h.1]; rfl, fun i x y e1 e2 => ?_⟩
  by_cases hi : i < bs.length
  · rw [List.getElem?_append_left hi] at e1
    rw [List.getElem?_append_left (by rw [← h.1]; exact hi)] at e2
    exact h.2 i x y e1 e2
  · have hi' : i = bs.length := by
      have := (List.getElem?_eq_some_iff.mp e1).1
      rw [List.length_append, List.length_singleton] at this; omega
    subst hi'
    rw [List.getElem?_append_right (Nat.le_refl _), Nat.sub_self] at e1
    rw [h.1, List.getElem?_append_right (Nat.le_refl _), Nat.sub_self] at e2
    cases e1; cases e2
    exact ⟨ok, hb⟩
/-- shares of the forms -/
noncomputable def gs (fs : List Form) : List (Nat → Int) := fs.map worthF
noncomputable def best (fs : List Form) : Nat → Int := chain (gs fs) fun _ => 0
theorem best_snoc (fs : List Form) (f : Form) : best (fs ++ [f]) = conv (best fs) (worthF f) := by
  unfold best gs chain
  rw [List.map_append, List.foldl_append]; rfl
theorem chain_good : ∀ (gs : List (Nat → Int)) (g : Nat → Int), Good g → (∀ h ∈ gs, Good h) → Good (chain gs g)
  | [], _, h, _ => h
  | k :: ks, g, h, hk => chain_good ks _ (conv_good h (hk k (List.mem_cons_self ..))) fun z hz => hk z (List.mem_cons_of_mem _ hz)
theorem best_good {fs : List Form} (h : ∀ f ∈ fs, FormOk f) : Good (best fs) := chain_good _ _ good0 fun k hk => by
  obtain ⟨f, hf, rfl⟩ := List.mem_map.mp hk
  exact worthF_good (h f hf)
noncomputable def sp_P_depth_over (_K : PySem.W.Frag) (c_Bid c_Only c_SoMany c_UpTo c_Several c_AnyOf : Addr) : Sp := fun vs H Q _ => ∃ (l : Addr) (bs : List Addr) (fs : List Form), vs = [.ref l] ∧ H l = some (.lst (bs.map V.ref)) ∧ BidsAt c_Bid c_Only c_SoMany c_UpTo H bs fs ∧ bs.length ≤ 100 ∧ ∀ (d : Int) H', d ≤ 2 → Same H H' → Q (.int d) H'
noncomputable def sp_P_tally_over (_K : PySem.W.Frag) (c_Bid c_Only c_SoMany c_UpTo c_Several c_AnyOf : Addr) : Sp := fun vs H Q _ => ∃ (l : Addr) (bs : List Addr) (fs : List Form), vs = [.ref l] ∧ H l = some (.lst (bs.map V.ref)) ∧ BidsAt c_Bid c_Only c_SoMany c_UpTo H bs fs ∧ bs.length ≤ 100 ∧ ∀ H', Same H H' → Q (.int (1 + (bs.length : Int))) H'
noncomputable def sp_P_check_bids (_K : PySem.W.Frag) (c_Bid c_Only c_SoMany c_UpTo c_Several c_AnyOf : Addr) : Sp := fun vs H Q _ => ∃ (l : Addr) (bs : List Addr) (fs : List Form), vs = [.ref l] ∧ H l = some (.lst (bs.map V.ref)) ∧ BidsAt c_Bid c_Only c_SoMany c_UpTo H bs fs ∧ bs.length ≤ 23 ∧ ∀ H', Same H H' → Q .non H'
noncomputable def sp_M_Bid_depth (_K : PySem.W.Frag) (_c : Addr) : Sp := fun vs H Q _ => ∃ a : Addr, vs = [.ref a] ∧ Q (.int 1) H
noncomputable def sp_M_Bid_tally (_K : PySem.W.Frag) (_c : Addr) : Sp := fun vs H Q _ => ∃ a : Addr, vs = [.ref a] ∧ Q (.int 1) H
noncomputable abbrev fsSev (l : Addr) : List (Str × V) := [("bids", .ref l)]
/-- a AnyOf of the bids of the forms -/
noncomputable def IsAny (c : Addr) (c_Bid c_Only c_SoMany c_UpTo : Addr) (H : Hp) (a : Addr) (fs : List Form) : Prop := ∃ (dx l : Addr) (bs : List Addr), H a = some (.ins c dx (fsSev l)) ∧ H l = some (.lst (bs.map V.ref)) ∧ BidsAt c_Bid c_Only c_SoMany c_UpTo H bs fs
noncomputable def sp_M_Several___init__ (_K : PySem.W.Frag) (c c_Bid c_Only c_SoMany c_UpTo c_Several c_AnyOf : Addr) : Sp := fun vs H Q _ => ∃ (a dx l : Addr) (bs : List Addr) (fs : List Form), vs = [.ref a, .ref l] ∧ H a = some (.ins c dx []) ∧ H l = some (.lst (bs.map V.ref)) ∧ BidsAt c_Bid c_Only c_SoMany c_UpTo H bs fs ∧ bs.length ≤ 23 ∧ ∀ H1 lb, Same H H1 → H1 lb = none → Q .non (upd (upd H1 lb (.lst (bs.map V.ref))) a (.ins c dx (fsSev lb)))
noncomputable def partsTo (ks : List Nat) : List Nat := ks.foldl (fun ps k => ps ++ ps.map (· ||| 2 ^ k)) [0]
noncomputable def partsOf (b : Nat) : List Nat := partsTo (things b)
theorem partsTo_snoc (ks : List Nat) (k : Nat) : partsTo (ks ++ [k]) = partsTo ks ++ (partsTo ks).map (· ||| 2 ^ k) := by
  unfold partsTo; rw [List.foldl_append]; rfl
theorem partsTo_len (ks : List Nat) : (partsTo ks).length = 2 ^ ks.length := by
  unfold partsTo
  have key : ∀ (ks ps : List Nat), (ks.foldl (fun ps k => ps ++ ps.map (· ||| 2 ^ k)) ps).length = ps.length * 2 ^ ks.length := by
    intro ks
    induction ks with
    | nil => intro ps; simp
    | cons k ks ih =>
      intro ps
      rw [List.foldl_cons, ih, List.length_append, List.length_map, List.length_cons, Nat.pow_succ, ← Nat.two_mul, Nat.mul_comm 2, Nat.mul_assoc, Nat.mul_comm 2]
  rw [key]; simp
noncomputable def sp_P_parts_of (_K : PySem.W.Frag) : Sp := fun vs H Q _ => ∃ b : Nat, vs = [.int b] ∧ b < 64 ∧ ∀ l H', Same H H' → H l = none → H' l = some (.lst ((partsOf b).map nv)) → Q (.ref l) H'
/-- what worths tells -/
noncomputable def TellsT (g : Nat → Int) (n : Nat) (H : Hp) (Q : VK) : Prop := ∀ l H', Same H H' → H l = none → H' l = some (.lst ((tab g n).map V.int)) → Q (.ref l) H'
noncomputable def sp_P_best_share (K : PySem.W.Frag) : Sp := fun vs H Q _ => ∃ (a b : Addr) (g h : Nat → Int) (n x : Nat), vs = [.ref a, .ref b, nv x] ∧ n ≤ 6 ∧ x < 2 ^ n ∧ Good g ∧ Good h ∧ SqL K H a ((tab g n).map V.int) ∧ SqL K H b ((tab h n).map V.int) ∧ ∀ H', Same H H' → Q (.int (conv g h x)) H'
noncomputable def spShare (K : PySem.W.Frag) (op : (Nat → Int) → (Nat → Int) → Nat → Int) : Sp := fun vs H Q _ => ∃ (a b : Addr) (g h : Nat → Int) (n : Nat), vs = [.ref a, .ref b] ∧ n ≤ 6 ∧ Good g ∧ Good h ∧ SqL K H a ((tab g n).map V.int) ∧ SqL K H b ((tab h n).map V.int) ∧ TellsT (op g h) n H Q
noncomputable def sp_P_shared_out (K : PySem.W.Frag) : Sp := spShare K conv
noncomputable def sp_M_AnyOf_worths (_K : PySem.W.Frag) (c c_Bid c_Only c_SoMany c_UpTo c_Several c_AnyOf : Addr) : Sp := fun vs H Q _ => ∃ (a : Addr) (n : Nat) (fs : List Form), vs = [.ref a, nv n] ∧ n ≤ 6 ∧ IsAny c c_Bid c_Only c_SoMany c_UpTo H a fs ∧ TellsT (best fs) n H Q
theorem parts_subs : ∀ b < 64, partsOf b = subsOf b := by decide +kernel
theorem subs_len : ∀ b < 64, 0 < (subsOf b).length ∧ (subsOf b).length ≤ 64 := by decide +kernel
/-- tables of functions -/
noncomputable def Tabs (H : Hp) (ls : List Addr) (gs : List (Nat → Int)) (n : Nat) : Prop := All2 (fun l g => H l = some (.lst ((tab g n).map V.int))) ls gs
theorem Tabs.same {H H' : Hp} {ls : List Addr} {gs : List (Nat → Int)} {n : Nat} (S : Same H H') (h : Tabs H ls gs n) : Tabs H' ls gs n := ⟨h.1, fun i l g e1 e2 => S _ _ (h.2 i l g e1 e2)⟩
noncomputable def sp_L_sizes (_K : PySem.W.Frag) : Sp := fun vs H Q _ => ∃ c : Int, vs = [.int c] ∧ ∀ p H' (m n : Nat), Same H H' → H' p = some (.tup [nv m, nv n]) → m ≤ 23 → 1 ≤ n → n ≤ 6 → m ^ n ≤ 216 → Q (.ref p) H'
noncomputable def sp_L_best (_K : PySem.W.Frag) : Sp := fun vs H Q _ => ∃ (a : Addr) (ls : List Addr) (gs : List (Nat → Int)) (n x : Nat), vs = [.ref a, nv x] ∧ n ≤ 6 ∧ x < 2 ^ n ∧ gs.length ≤ 23 ∧ gs.length ^ n ≤ 216 ∧ (∀ g ∈ gs, Good g) ∧ H a = some (.lst (ls.map V.ref)) ∧ Tabs H ls gs n ∧ ∀ H', Same H H' → Q (.int (chain gs (fun _ => 0) x)) H'
noncomputable def sp_L_plainly (K : PySem.W.Frag) : Sp := fun vs H Q _ => ∃ (a : Addr) (ns : List Int), vs = [.ref a] ∧ SqL K H a (ns.map V.int) ∧ ns.length ≤ 63 ∧ ∀ H', Q (.bl true) H'
noncomputable def T_depth_s (K : PySem.W.Frag) (c_Bid c_Only c_SoMany c_UpTo c_Several c_AnyOf : Addr) : Addr → Sp → Prop := fun C sp => (C = c_Bid ∧ sp = (sp_M_Bid_depth K c_Bid)) ∨ (C = c_Only ∧ sp = (sp_M_Bid_depth K c_Only)) ∨ (C = c_SoMany ∧ sp = (sp_M_Bid_depth K c_SoMany)) ∨ (C = c_UpTo ∧ sp = (sp_M_Bid_depth K c_UpTo))
noncomputable def T_tally_s (K : PySem.W.Frag) (c_Bid c_Only c_SoMany c_UpTo c_Several c_AnyOf : Addr) : Addr → Sp → Prop := fun C sp => (C = c_Bid ∧ sp = (sp_M_Bid_tally K c_Bid)) ∨ (C = c_Only ∧ sp = (sp_M_Bid_tally K c_Only)) ∨ (C = c_SoMany ∧ sp = (sp_M_Bid_tally K c_SoMany)) ∨ (C = c_UpTo ∧ sp = (sp_M_Bid_tally K c_UpTo))
noncomputable def T_worths_a (K : PySem.W.Frag) (c_Bid c_Only c_SoMany c_UpTo c_Several c_AnyOf : Addr) : Addr → Sp → Prop := fun C sp => (C = c_Bid ∧ sp = (sp_M_Bid_worths K c_Bid)) ∨ (C = c_Only ∧ sp = (sp_M_Only_worths K c_Only)) ∨ (C = c_SoMany ∧ sp = (sp_M_SoMany_worths K c_SoMany)) ∨ (C = c_UpTo ∧ sp = (sp_M_UpTo_worths K c_UpTo)) ∨ (C = c_AnyOf ∧ sp = (sp_M_AnyOf_worths K c_AnyOf c_Bid c_Only c_SoMany c_UpTo c_Several c_AnyOf))
noncomputable def T_worths_s (K : PySem.W.Frag) (c_Bid c_Only c_SoMany c_UpTo c_Several c_AnyOf : Addr) : Addr → Sp → Prop := fun C sp => (C = c_Bid ∧ sp = (sp_M_Bid_worths K c_Bid)) ∨ (C = c_Only ∧ sp = (sp_M_Only_worths K c_Only)) ∨ (C = c_SoMany ∧ sp = (sp_M_SoMany_worths K c_SoMany)) ∨ (C = c_UpTo ∧ sp = (sp_M_UpTo_worths K c_UpTo))
noncomputable def sp_law (K : PySem.W.Frag) : Sp := fun vs H Q _ => ∃ (a : Addr) (ns : List Int), vs = [.ref a] ∧ SqL K H a (ns.map V.int) ∧ ns.length ≤ 63 ∧ ∀ H', Q (.bl true) H'
section
variable {P : Program} {w : World} {K : PySem.W.Frag} {mg : Str → Option Value} {base : Heap}
variable {c_Bid c_Only c_SoMany c_UpTo c_Several c_AnyOf : Addr}
theorem ok_P_holds {f : Addr} {fd : FuncData} (F : Fun K "holds" "holds" s_P_holds f fd) (m_self : mg "holds" = some (.ref f)) : DefOk P w K mg base 1 "holds" ["one", "other"] [] (sp_P_holds K) := by
  refine F.def_okQ m_self (bnd2 F fun _ _ _ _ _ _ _ _ => rfl) sc_P_holds (fun vs H Q E h => ?_) (fun cdv A outer s H vs Q E hr h => ?_)
  · obtain ⟨a, b, rfl, _⟩ := h; rfl
  obtain ⟨a, b, rfl, q⟩ := h
  refine ⟨_, (R.pss_one (R.ps_ret (R.pe_cmpR op_eq (R.pe_op op_andN (R.pv 0) (R.pv 1)) (R.pv 1) (nomark _)))), ?_⟩
  refine ⟨_, rfl, _, rfl, a, b, rfl, rfl, _, rfl, rfl, ?_⟩
  rw [int_eq_nat]; exact q
theorem ok_P_things_in {f : Addr} {fd : FuncData} (F : Fun K "things_in" "things_in" s_P_things_in f fd) (m_self : mg "things_in" = some (.ref f)) (m_range : mg "range" = none)
    (D_P_holds : DefOk P w K mg base 1 "holds" ["one", "other"] [] (sp_P_holds K)) : DefOk P w K mg base 2 "things_in" ["bundle"] [] (sp_P_things_in K) := by
  refine F.def_okQ m_self (bnd1 F fun _ _ _ _ _ _ _ => rfl) sc_P_things_in (fun vs H Q E h => ?_) (fun cdv A outer s H vs Q E hr h => ?_)
  · obtain ⟨b, rfl, _⟩ := h; rfl
  obtain ⟨b, rfl, hb, q⟩ := h
  refine ⟨_, (R.pss_one (R.ps_ret (R.pe_comp (defScope s_P_things_in) ["bundle"] ["number"] ["bundle"] [0] rfl rfl rfl ⟨s.heap.objs.size + 1, rfl⟩ rfl rfl (by decide +kernel) (R.pi_range1 rfl m_range (R.pa_c (R.pe_bits (R.pv 0)) R.pa_nil)) (fun C s2 H2 fp => (R.pg_name (i := 0) (show List.Nodup (["number", "bundle"] : List Str) from by decide +kernel) rfl (Or.inl rfl))) (fun C s2 H2 fp => (R.pf_one (R.pt_val (R.pe_callD D_P_holds hr (by decide) rfl (R.pa_c (R.pv 1) (R.pa_c (R.pe_op op_shlN R.pe_int (R.pv 0)) R.pa_nil)))))) (fun C s2 H2 fp => (R.pv 0))))), ?_⟩
  have b6 := bits64 hb
  refine ⟨_, rfl, _, rfl, _, rfl, by omega, by omega, fun l hl => ?_⟩
  rw [Int.toNat_natCast]
  refine comp_rng_map (fun k => decide (b &&& 2 ^ k = 2 ^ k)) nv (by omega) hl ?_ ?_ ?_
  · intro k H1 hk s1 C hC
    rw [Int.zero_add]
    exact ⟨_, rfl, _, rfl, k, rfl, rfl, by omega, b, 2 ^ k, rfl, _, rfl, hC _ (Same.refl _)⟩
  · intro k H1 hk _ s1 C hC
    rw [Int.zero_add]
    exact ⟨_, rfl, hC _ (Same.refl _)⟩
  · intro H1 s1 e1
    rw [bits_nat, things_comp b hb] at e1
    exact q l H1 s1 hl e1
theorem ok_P_size_of {f : Addr} {fd : FuncData} (F : Fun K "size_of" "size_of" s_P_size_of f fd) (m_self : mg "size_of" = some (.ref f)) (m_len : mg "len" = none)
    (D_P_things_in : DefOk P w K mg base 2 "things_in" ["bundle"] [] (sp_P_things_in K)) : DefOk P w K mg base 3 "size_of" ["bundle"] [] (sp_P_size_of K) := by
  refine F.def_okQ m_self (bnd1 F fun _ _ _ _ _ _ _ => rfl) sc_P_size_of (fun vs H Q E h => ?_) (fun cdv A outer s H vs Q E hr h => ?_)
  · obtain ⟨b, rfl, _⟩ := h; rfl
  obtain ⟨b, rfl, hb, q⟩ := h
  refine ⟨_, (R.pss_one (R.ps_ret (R.pe_cB call_len_seq rfl m_len PySem.boot_len (R.pa_c (R.pe_callD D_P_things_in hr (by decide) rfl (R.pa_c (R.pv 0) R.pa_nil)) R.pa_nil)))), ?_⟩
  refine ⟨_, rfl, b, rfl, hb, fun l H1 s1 _ e1 => ⟨l, _, rfl, .inl (SqL.of e1), ?_⟩⟩
  rw [List.length_map]
  exact q _ s1
theorem ok_P_parts_of {f : Addr} {fd : FuncData} (F : Fun K "parts_of" "parts_of" s_P_parts_of f fd) (m_self : mg "parts_of" = some (.ref f))
    (D_P_things_in : DefOk P w K mg base 2 "things_in" ["bundle"] [] (sp_P_things_in K)) : DefOk P w K mg base 3 "parts_of" ["bundle"] [] (sp_P_parts_of K) := by
  refine F.def_okQ m_self (bnd1 F fun _ _ _ _ _ _ _ => rfl) sc_P_parts_of (fun vs H Q E h => ?_) (fun cdv A outer s H vs Q E hr h => ?_)
  · obtain ⟨b, rfl, _⟩ := h; rfl
  obtain ⟨b, rfl, hb, q⟩ := h
  refine ⟨_, (R.pss_cons (R.ps_set (i := 1) sc_P_parts_of.nd rfl (Or.inl rfl) (R.pe_lst (R.pa_c R.pe_int R.pa_nil)))
    (R.pss_cons (R.ps_for PassesOwn.never rfl (R.pi_list (R.pe_callD D_P_things_in hr (by decide) rfl (R.pa_c (R.pv 0) R.pa_nil))) (R.pg_name (i := 2) sc_P_parts_of.nd rfl (Or.inr rfl)) (R.pss_one (R.ps_set (i := 1) sc_P_parts_of.nd rfl (Or.inl rfl) (R.pe_op op_cat (R.pv 1) (R.pe_comp (defScope s_P_parts_of) ["bundle", "parts", "number"] ["part"] ["number"] [2] rfl rfl rfl ⟨s.heap.objs.size + 1, rfl⟩ rfl rfl (by decide +kernel) (R.pi_list (R.pv 1)) (fun C s2 H2 fp => (R.pg_name (i := 0) (show List.Nodup (["part", "number"] : List Str) from by decide +kernel) rfl (Or.inl rfl))) (fun C s2 H2 fp => R.pf_nil) (fun C s2 H2 fp => (R.pe_op op_orN (R.pv 0) (R.pe_op op_shlN R.pe_int (R.pv 1)))))))))
    (R.pss_one (R.ps_ret (R.pv 1))))), ?_⟩
  refine ⟨(by show 1 ≤ sizeLine; decide), fun l0 hl0 => ?_⟩
  have s0 := same_new hl0 (.lst [V.int 0])
  refine ⟨_, rfl, b, rfl, hb, fun lt H1 s1 hlt e1 => ⟨lt, rfl, ⟨_, SqL.of e1⟩, ?_⟩⟩
  have h6 := things_len b
  refine for_list (xs := (things b).map nv) (fun i σ H' => Same H1 H' ∧ Same H H' ∧ ∃ l x, H l = none ∧ H' l = some (.lst ((partsTo ((things b).take i)).map nv)) ∧ σ = [some (.int b), some (.ref l), x]) ?_ ?_ ?_ ?_
  · exact ⟨Same.refl _, s0.trans s1, l0, none, hl0, s1 _ _ upd_same, rfl⟩
  · rintro i σ H' _ ⟨s', _⟩
    exact SqL.of (s' _ _ e1)
  · rintro i x σ H' hx ⟨s', sH, l, x0, hl, el, rfl⟩
    rw [List.getElem?_map] at hx
    obtain ⟨k, hk, rfl⟩ := Option.map_eq_some_iff.mp hx
    have hi : i < (things b).length := (List.getElem?_eq_some_iff.mp hk).1
    have k6 : k < 6 := (things_mem.mp (List.mem_of_getElem? hk)).1
    have hlen : (partsTo ((things b).take i)).length ≤ 32 := by
      rw [partsTo_len, List.length_take, Nat.min_eq_left (by omega)]
      exact Nat.pow_le_pow_right (by decide) (by omega : i ≤ 5)
    refine ⟨_, rfl, _, rfl, l, rfl, ⟨_, SqL.of el⟩, fun l2 h2 => ?_⟩
    refine comp_lst_map nv (partsTo ((things b).take i)) (fun _ => true) (fun p => nv (p ||| 2 ^ k)) (SqL.of el) (by omega) h2 ?_ ?_ ?_
    · intro x hx H2 s2 C hC; exact hC _ (Same.refl _)
    · intro x hx _ H2 s2 C hC
      exact ⟨_, rfl, _, rfl, k, rfl, rfl, by omega, x, 2 ^ k, rfl, rfl, hC _ (Same.refl _)⟩
    · intro H2 s2 e2
      rw [List.filter_eq_self.mpr (fun _ _ => rfl)] at e2
      refine ⟨l, l2, _, _, rfl, rfl, s2 _ _ el, e2, ?_, fun p hp => ?_⟩
      · rw [List.length_map, List.length_map]; exact Nat.le_of_lt (small1000 (by omega))
      have s3 := same_new hp (.lst ((partsTo ((things b).take i)).map nv ++ (partsTo ((things b).take i)).map fun p => nv (p ||| 2 ^ k)))
      refine ⟨(s'.trans s2).trans s3, (sH.trans s2).trans s3, p, some (nv k), (sH.trans s2).free hp, ?_, rfl⟩
      rw [upd_same, List.take_succ, hk, show (some k).toList = [k] from rfl, partsTo_snoc, List.map_append, List.map_map]; rfl
  · rintro σ H' ⟨s', sH, l, x, hl, el, rfl⟩
    rw [List.length_map, List.take_length] at el
    exact ⟨_, rfl, q l H' sH hl el⟩
theorem whole_key : ∀ n : Nm, (isN n .int = true → (!isN n .bl) = decide (n = .int)) ∧ (¬ isN n .int = true → false = decide (n = .int)) := by intro n; cases n <;> decide
theorem ok_P_is_whole {f : Addr} {fd : FuncData} (F : Fun K "is_whole" "is_whole" s_P_is_whole f fd) (m_self : mg "is_whole" = some (.ref f)) (m_isinstance : mg "isinstance" = none) (m_int : mg "int" = none) (m_bool : mg "bool" = none) : DefOk P w K mg base 1 "is_whole" ["thing"] [] (sp_P_is_whole K) := by
  refine F.def_okQ m_self (bnd1 F fun _ _ _ _ _ _ _ => rfl) sc_P_is_whole (fun vs H Q E h => ?_) (fun cdv A outer s H vs Q E hr h => ?_)
  · obtain ⟨v, n, rfl, _⟩ := h; rfl
  obtain ⟨v, n, rfl, hk, q⟩ := h
  refine ⟨_, (R.pss_one (R.ps_ret (R.pe_and (R.pe_isi .int rfl m_isinstance rfl m_int (R.pv 0)) (R.pe_one (R.pe_not (R.pe_isi .bl rfl m_isinstance rfl m_bool (R.pv 0))))))), ?_⟩
  refine ⟨_, rfl, v, n, rfl, hk, _, rfl, ?_⟩
  refine ite2 (fun c => ?_) (fun c => ?_)
  · refine ⟨_, rfl, v, n, rfl, hk, _, rfl, ?_⟩
    rw [(whole_key n).1 c]; exact q
  · show Q (.bl false) H
    rw [(whole_key n).2 c]; exact q
theorem ok_P_is_within {f : Addr} {fd : FuncData} (F : Fun K "is_within" "is_within" s_P_is_within f fd) (m_self : mg "is_within" = some (.ref f))
    (D_P_is_whole : DefOk P w K mg base 1 "is_whole" ["thing"] [] (sp_P_is_whole K)) : DefOk P w K mg base 2 "is_within" ["thing", "least", "most"] [] (sp_P_is_within K) := by
  refine F.def_okQ m_self (bnd3 F fun _ _ _ _ _ _ _ _ _ => rfl) sc_P_is_within (fun vs H Q E h => ?_) (fun cdv A outer s H vs Q E hr h => ?_)
  · obtain ⟨v, lo, hi, rfl, _⟩ := h; rfl
  obtain ⟨v, lo, hi, rfl, h⟩ := h
  refine ⟨_, (R.pss_one (R.ps_ret (R.pe_and (R.pe_callD D_P_is_whole hr (by decide) rfl (R.pa_c (R.pv 0) R.pa_nil)) (R.pe_one (R.pe_chain op_le op_le (R.pv 1) (R.pv 0) (R.pv 2)))))), ?_⟩
  rcases h with ⟨n, hk, hn, q⟩ | ⟨i, rfl, q⟩
  · refine ⟨_, rfl, v, n, rfl, hk, _, rfl, ?_⟩
    rw [decide_eq_false hn]
    exact iteF q
  · refine ⟨_, rfl, _, .int, rfl, TyOf.int _, _, rfl, iteT ?_⟩
    refine ⟨_, rfl, _, rfl, _, _, rfl, rfl, _, rfl, ?_⟩
    refine ite2 (fun c => ?_) (fun c => ?_)
    · refine ⟨_, rfl, _, _, rfl, rfl, ?_⟩
      rw [c, Bool.true_and] at q; exact q
    · rw [Bool.eq_false_iff.mpr c, Bool.false_and] at q; exact q
theorem within {lo i hi : Int} (h1 : lo ≤ i) (h2 : i ≤ hi) : (decide (lo ≤ i) && decide (i ≤ hi)) = true := by rw [decide_eq_true h1, decide_eq_true h2]; rfl
theorem ok_P_check_bundle {f : Addr} {fd : FuncData} (F : Fun K "check_bundle" "check_bundle" s_P_check_bundle f fd) (m_self : mg "check_bundle" = some (.ref f))
    (D_P_is_within : DefOk P w K mg base 2 "is_within" ["thing", "least", "most"] [] (sp_P_is_within K)) : DefOk P w K mg base 3 "check_bundle" ["bundle"] [] (sp_P_check_bundle K) := by
  refine F.def_okQ m_self (bnd1 F fun _ _ _ _ _ _ _ => rfl) sc_P_check_bundle (fun vs H Q E h => ?_) (fun cdv A outer s H vs Q E hr h => ?_)
  · obtain ⟨i, rfl, _⟩ := h; rfl
  obtain ⟨i, rfl, h1, h2, q⟩ := h
  refine ⟨_, (R.pss_one (R.ps_if (R.pt_not (R.pt_val (R.pe_callD D_P_is_within hr (by decide) rfl (R.pa_c (R.pv 0) (R.pa_c R.pe_int (R.pa_c R.pe_int R.pa_nil)))))) (R.pss_one R.ps_never) R.pss_nil)), ?_⟩
  refine ⟨_, rfl, _, 1, 63, rfl, .inr ⟨_, rfl, _, rfl, ?_⟩⟩
  rw [within h1 h2]
  exact iteF q
theorem ok_P_check_so_many {f : Addr} {fd : FuncData} (F : Fun K "check_so_many" "check_so_many" s_P_check_so_many f fd) (m_self : mg "check_so_many" = some (.ref f))
    (D_P_is_within : DefOk P w K mg base 2 "is_within" ["thing", "least", "most"] [] (sp_P_is_within K)) : DefOk P w K mg base 3 "check_so_many" ["number"] [] (sp_P_check_so_many K) := by
  refine F.def_okQ m_self (bnd1 F fun _ _ _ _ _ _ _ => rfl) sc_P_check_so_many (fun vs H Q E h => ?_) (fun cdv A outer s H vs Q E hr h => ?_)
  · obtain ⟨i, rfl, _⟩ := h; rfl
  obtain ⟨i, rfl, h1, h2, q⟩ := h
  refine ⟨_, (R.pss_one (R.ps_if (R.pt_not (R.pt_val (R.pe_callD D_P_is_within hr (by decide) rfl (R.pa_c (R.pv 0) (R.pa_c R.pe_int (R.pa_c R.pe_int R.pa_nil)))))) (R.pss_one R.ps_never) R.pss_nil)), ?_⟩
  refine ⟨_, rfl, _, 1, 6, rfl, .inr ⟨_, rfl, _, rfl, ?_⟩⟩
  rw [within h1 h2]
  exact iteF q
theorem ok_P_check_amount {f : Addr} {fd : FuncData} (F : Fun K "check_amount" "check_amount" s_P_check_amount f fd) (m_self : mg "check_amount" = some (.ref f))
    (D_P_is_within : DefOk P w K mg base 2 "is_within" ["thing", "least", "most"] [] (sp_P_is_within K)) : DefOk P w K mg base 3 "check_amount" ["amount"] [] (sp_P_check_amount K) := by
  refine F.def_okQ m_self (bnd1 F fun _ _ _ _ _ _ _ => rfl) sc_P_check_amount (fun vs H Q E h => ?_) (fun cdv A outer s H vs Q E hr h => ?_)
  · obtain ⟨i, rfl, _⟩ := h; rfl
  obtain ⟨i, rfl, h1, h2, q⟩ := h
  refine ⟨_, (R.pss_one (R.ps_if (R.pt_not (R.pt_val (R.pe_callD D_P_is_within hr (by decide) rfl (R.pa_c (R.pv 0) (R.pa_c R.pe_int (R.pa_c (R.pe_op op_pow R.pe_int R.pe_int) R.pa_nil)))))) (R.pss_one R.ps_never) R.pss_nil)), ?_⟩
  refine ⟨_, rfl, _, _, rfl, rfl, ⟨by decide, by decide, by decide⟩, _, 0, 10 ^ 9, rfl, .inr ⟨_, rfl, _, rfl, ?_⟩⟩
  rw [within h1 h2]
  exact iteF q
theorem ok_P_worths_of_nothing {f : Addr} {fd : FuncData} (F : Fun K "worths_of_nothing" "worths_of_nothing" s_P_worths_of_nothing f fd) (m_self : mg "worths_of_nothing" = some (.ref f)) (m_range : mg "range" = none) : DefOk P w K mg base 1 "worths_of_nothing" ["many"] [] (sp_P_worths_of_nothing K) := by
  refine F.def_okQ m_self (bnd1 F fun _ _ _ _ _ _ _ => rfl) sc_P_worths_of_nothing (fun vs H Q E h => ?_) (fun cdv A outer s H vs Q E hr h => ?_)
  · obtain ⟨n, rfl, _⟩ := h; rfl
  obtain ⟨n, rfl, hn, q⟩ := h
  refine ⟨_, (R.pss_one (R.ps_ret (R.pe_comp (defScope s_P_worths_of_nothing) ["many"] ["bundle"] [] [] rfl rfl rfl ⟨s.heap.objs.size + 1, rfl⟩ rfl rfl (by decide +kernel) (R.pi_range1 rfl m_range (R.pa_c (R.pe_op op_shlN R.pe_int (R.pv 0)) R.pa_nil)) (fun C s2 H2 fp => (R.pg_name (i := 0) (show List.Nodup (["bundle"] : List Str) from by decide +kernel) rfl (Or.inl rfl))) (fun C s2 H2 fp => R.pf_nil) (fun C s2 H2 fp => R.pe_int)))), ?_⟩
  have f := (pow6 hn).1
  refine ⟨_, rfl, n, rfl, rfl, by omega, _, rfl, (rng6 hn).1, (rng6 hn).2, fun l hl => ?_⟩
  rw [Int.toNat_natCast]
  refine comp_rng_map (n := 2 ^ n) (fun _ => true) (fun _ => V.int 0) (by omega) hl ?_ ?_ ?_
  · intro k H1 hk s1 C hC; exact hC _ (Same.refl _)
  · intro k H1 hk _ s1 C hC; exact hC _ (Same.refl _)
  · intro H1 s1 e1
    refine q l H1 s1 hl ?_
    rw [e1, List.filter_eq_self.mpr (fun _ _ => rfl), List.map_map]; rfl
theorem ok_M_Only___init__ {f : Addr} {fd : FuncData} (F : Fun K "__init__" "Only.__init__" s_M_Only___init__ f fd)
    (D_P_check_bundle : DefOk P w K mg base 3 "check_bundle" ["bundle"] [] (sp_P_check_bundle K))
    (D_P_check_amount : DefOk P w K mg base 3 "check_amount" ["amount"] [] (sp_P_check_amount K))
    (O_Bid : Own K mg "Bid" c_Bid [])
    (O_Only : Own K mg "Only" c_Only ["bundle", "amount"])
    (O_SoMany : Own K mg "SoMany" c_SoMany ["kind", "least", "amount"])
    (O_UpTo : Own K mg "UpTo" c_UpTo ["kind", "most", "each"])
    (O_Several : Own K mg "Several" c_Several ["bids"])
    (O_AnyOf : Own K mg "AnyOf" c_AnyOf ["bids"]) : FnOk P w K mg base CX0 4 f fd ["self", "bundle", "amount"] (sp_M_Only___init__ K c_Only) := by
  refine F.okQ sc_M_Only___init__ (fun vs H Q E h => ?_) (fun cdv A outer s H vs Q E hr h => ?_)
  · obtain ⟨a, dx, b, m, rfl, _⟩ := h; rfl
  obtain ⟨a, dx, b, m, rfl, b1, b2, hm, e, q⟩ := h
  refine ⟨_, (R.pss_cons (R.ps_expr (R.pe_callD D_P_check_bundle hr (by decide) rfl (R.pa_c (R.pv 1) R.pa_nil)))
    (R.pss_cons (R.ps_expr (R.pe_callD D_P_check_amount hr (by decide) rfl (R.pa_c (R.pv 2) R.pa_nil)))
    (R.pss_cons (R.ps_fld (R.pv 0) (R.pv 1))
    (R.pss_one (R.ps_fld (R.pv 0) (R.pv 2)))))), ?_⟩
  refine ⟨_, rfl, (b : Int), rfl, by omega, by omega, ?_⟩
  refine ⟨_, rfl, m, rfl, hm.lo, hm.hi, ?_⟩
  refine ⟨_, rfl, _, rfl, a, c_Only, dx, [], rfl, e, O_Only.cls, O_Only.no _ (mem_at 0 rfl), by decide, ?_⟩
  refine ⟨_, rfl, _, rfl, a, c_Only, dx, _, rfl, upd_same, O_Only.cls, O_Only.no _ (mem_at 1 rfl), put1 _ _, ?_⟩
  rw [upd_upd]
  exact q
theorem ok_M_SoMany___init__ {f : Addr} {fd : FuncData} (F : Fun K "__init__" "SoMany.__init__" s_M_SoMany___init__ f fd)
    (D_P_check_bundle : DefOk P w K mg base 3 "check_bundle" ["bundle"] [] (sp_P_check_bundle K))
    (D_P_check_so_many : DefOk P w K mg base 3 "check_so_many" ["number"] [] (sp_P_check_so_many K))
    (D_P_check_amount : DefOk P w K mg base 3 "check_amount" ["amount"] [] (sp_P_check_amount K))
    (O_Bid : Own K mg "Bid" c_Bid [])
    (O_Only : Own K mg "Only" c_Only ["bundle", "amount"])
    (O_SoMany : Own K mg "SoMany" c_SoMany ["kind", "least", "amount"])
    (O_UpTo : Own K mg "UpTo" c_UpTo ["kind", "most", "each"])
    (O_Several : Own K mg "Several" c_Several ["bids"])
    (O_AnyOf : Own K mg "AnyOf" c_AnyOf ["bids"]) : FnOk P w K mg base CX0 4 f fd ["self", "kind", "least", "amount"] (sp_M_SoMany___init__ K c_SoMany) := by
  refine F.okQ sc_M_SoMany___init__ (fun vs H Q E h => ?_) (fun cdv A outer s H vs Q E hr h => ?_)
  · obtain ⟨a, dx, k, l, m, rfl, _⟩ := h; rfl
  obtain ⟨a, dx, k, l, m, rfl, k1, k2, l1, l2, hm, e, q⟩ := h
  refine ⟨_, (R.pss_cons (R.ps_expr (R.pe_callD D_P_check_bundle hr (by decide) rfl (R.pa_c (R.pv 1) R.pa_nil)))
    (R.pss_cons (R.ps_expr (R.pe_callD D_P_check_so_many hr (by decide) rfl (R.pa_c (R.pv 2) R.pa_nil)))
    (R.pss_cons (R.ps_expr (R.pe_callD D_P_check_amount hr (by decide) rfl (R.pa_c (R.pv 3) R.pa_nil)))
    (R.pss_cons (R.ps_fld (R.pv 0) (R.pv 1))
    (R.pss_cons (R.ps_fld (R.pv 0) (R.pv 2))
    (R.pss_one (R.ps_fld (R.pv 0) (R.pv 3)))))))), ?_⟩
  refine ⟨_, rfl, (k : Int), rfl, by omega, by omega, ?_⟩
  refine ⟨_, rfl, (l : Int), rfl, by omega, by omega, ?_⟩
  refine ⟨_, rfl, m, rfl, hm.lo, hm.hi, ?_⟩
  refine ⟨_, rfl, _, rfl, a, c_SoMany, dx, [], rfl, e, O_SoMany.cls, O_SoMany.no _ (mem_at 0 rfl), by decide, ?_⟩
  refine ⟨_, rfl, _, rfl, a, c_SoMany, dx, _, rfl, upd_same, O_SoMany.cls, O_SoMany.no _ (mem_at 1 rfl), put1 _ _, ?_⟩
  refine ⟨_, rfl, _, rfl, a, c_SoMany, dx, _, rfl, upd_same, O_SoMany.cls, O_SoMany.no _ (mem_at 2 rfl), put2 _ _ _ _, ?_⟩
  rw [upd_upd, upd_upd]
  exact q
theorem ok_M_UpTo___init__ {f : Addr} {fd : FuncData} (F : Fun K "__init__" "UpTo.__init__" s_M_UpTo___init__ f fd)
    (D_P_check_bundle : DefOk P w K mg base 3 "check_bundle" ["bundle"] [] (sp_P_check_bundle K))
    (D_P_check_so_many : DefOk P w K mg base 3 "check_so_many" ["number"] [] (sp_P_check_so_many K))
    (D_P_check_amount : DefOk P w K mg base 3 "check_amount" ["amount"] [] (sp_P_check_amount K))
    (O_Bid : Own K mg "Bid" c_Bid [])
    (O_Only : Own K mg "Only" c_Only ["bundle", "amount"])
    (O_SoMany : Own K mg "SoMany" c_SoMany ["kind", "least", "amount"])
    (O_UpTo : Own K mg "UpTo" c_UpTo ["kind", "most", "each"])
    (O_Several : Own K mg "Several" c_Several ["bids"])
    (O_AnyOf : Own K mg "AnyOf" c_AnyOf ["bids"]) : FnOk P w K mg base CX0 4 f fd ["self", "kind", "most", "each"] (sp_M_UpTo___init__ K c_UpTo) := by
  refine F.okQ sc_M_UpTo___init__ (fun vs H Q E h => ?_) (fun cdv A outer s H vs Q E hr h => ?_)
  · obtain ⟨a, dx, k, l, m, rfl, _⟩ := h; rfl
  obtain ⟨a, dx, k, l, m, rfl, k1, k2, l1, l2, hm, e, q⟩ := h
  refine ⟨_, (R.pss_cons (R.ps_expr (R.pe_callD D_P_check_bundle hr (by decide) rfl (R.pa_c (R.pv 1) R.pa_nil)))
    (R.pss_cons (R.ps_expr (R.pe_callD D_P_check_so_many hr (by decide) rfl (R.pa_c (R.pv 2) R.pa_nil)))
    (R.pss_cons (R.ps_expr (R.pe_callD D_P_check_amount hr (by decide) rfl (R.pa_c (R.pv 3) R.pa_nil)))
    (R.pss_cons (R.ps_fld (R.pv 0) (R.pv 1))
    (R.pss_cons (R.ps_fld (R.pv 0) (R.pv 2))
    (R.pss_one (R.ps_fld (R.pv 0) (R.pv 3)))))))), ?_⟩
  refine ⟨_, rfl, (k : Int), rfl, by omega, by omega, ?_⟩
  refine ⟨_, rfl, (l : Int), rfl, by omega, by omega, ?_⟩
  refine ⟨_, rfl, m, rfl, hm.lo, hm.hi, ?_⟩
  refine ⟨_, rfl, _, rfl, a, c_UpTo, dx, [], rfl, e, O_UpTo.cls, O_UpTo.no _ (mem_at 0 rfl), by decide, ?_⟩
  refine ⟨_, rfl, _, rfl, a, c_UpTo, dx, _, rfl, upd_same, O_UpTo.cls, O_UpTo.no _ (mem_at 1 rfl), put1 _ _, ?_⟩
  refine ⟨_, rfl, _, rfl, a, c_UpTo, dx, _, rfl, upd_same, O_UpTo.cls, O_UpTo.no _ (mem_at 2 rfl), put2 _ _ _ _, ?_⟩
  rw [upd_upd, upd_upd]
  exact q
theorem ok_M_Bid_worths {f : Addr} {fd : FuncData} (F : Fun K "worths" "Bid.worths" s_M_Bid_worths f fd)
    (D_P_worths_of_nothing : DefOk P w K mg base 1 "worths_of_nothing" ["many"] [] (sp_P_worths_of_nothing K))
    (O_Bid : Own K mg "Bid" c_Bid [])
    (O_Only : Own K mg "Only" c_Only ["bundle", "amount"])
    (O_SoMany : Own K mg "SoMany" c_SoMany ["kind", "least", "amount"])
    (O_UpTo : Own K mg "UpTo" c_UpTo ["kind", "most", "each"])
    (O_Several : Own K mg "Several" c_Several ["bids"])
    (O_AnyOf : Own K mg "AnyOf" c_AnyOf ["bids"]) : FnOk P w K mg base CX0 2 f fd ["self", "many"] (sp_M_Bid_worths K c_Bid) := by
  refine F.okQ sc_M_Bid_worths (fun vs H Q E h => ?_) (fun cdv A outer s H vs Q E hr h => ?_)
  · obtain ⟨a, dx, n, rfl, _⟩ := h; rfl
  obtain ⟨a, dx, n, rfl, hn, e, q⟩ := h
  refine ⟨_, (R.pss_one (R.ps_ret (R.pe_callD D_P_worths_of_nothing hr (by decide) rfl (R.pa_c (R.pv 1) R.pa_nil)))), ?_⟩
  exact ⟨_, rfl, n, rfl, hn, fun l H' s' hl e' => q l H' s' hl e'⟩
theorem ok_M_Only_worths {f : Addr} {fd : FuncData} (F : Fun K "worths" "Only.worths" s_M_Only_worths f fd) (m_range : mg "range" = none)
    (D_P_holds : DefOk P w K mg base 1 "holds" ["one", "other"] [] (sp_P_holds K))
    (O_Bid : Own K mg "Bid" c_Bid [])
    (O_Only : Own K mg "Only" c_Only ["bundle", "amount"])
    (O_SoMany : Own K mg "SoMany" c_SoMany ["kind", "least", "amount"])
    (O_UpTo : Own K mg "UpTo" c_UpTo ["kind", "most", "each"])
    (O_Several : Own K mg "Several" c_Several ["bids"])
    (O_AnyOf : Own K mg "AnyOf" c_AnyOf ["bids"]) : FnOk P w K mg base CX0 2 f fd ["self", "many"] (sp_M_Only_worths K c_Only) := by
  refine F.okQ sc_M_Only_worths (fun vs H Q E h => ?_) (fun cdv A outer s H vs Q E hr h => ?_)
  · obtain ⟨a, dx, n, b, m, rfl, _⟩ := h; rfl
  obtain ⟨a, dx, n, b, m, rfl, hn, hb, e, q⟩ := h
  refine ⟨_, (R.pss_one (R.ps_ret (R.pe_comp (defScope s_M_Only_worths) ["self", "many"] ["bundle"] ["self"] [0] rfl rfl rfl ⟨s.heap.objs.size + 1, rfl⟩ rfl rfl (by decide +kernel) (R.pi_range1 rfl m_range (R.pa_c (R.pe_op op_shlN R.pe_int (R.pv 1)) R.pa_nil)) (fun C s2 H2 fp => (R.pg_name (i := 0) (show List.Nodup (["bundle", "self"] : List Str) from by decide +kernel) rfl (Or.inl rfl))) (fun C s2 H2 fp => R.pf_nil) (fun C s2 H2 fp => (R.pe_ifExp (R.pt_val (R.pe_callD D_P_holds hr (by decide) rfl (R.pa_c (R.pv 0) (R.pa_c (R.pe_fld K (R.pv 1)) R.pa_nil)))) (R.pe_fld K (R.pv 1)) R.pe_int))))), ?_⟩
  have f := (pow6 hn).1
  refine ⟨_, rfl, n, rfl, rfl, by omega, _, rfl, (rng6 hn).1, (rng6 hn).2, fun l0 hl => ?_⟩
  rw [Int.toNat_natCast]
  refine comp_rng_map (n := 2 ^ n) (fun _ => true) (fun x => V.int (worthF (.only b m) x)) (by omega) hl ?_ ?_ ?_
  · intro x H1 hx s1 C hC; exact hC _ (Same.refl _)
  · intro x H1 hx _ s1 C hC
    rw [Int.zero_add]
    have e1 := s1 _ _ e
    refine ⟨_, rfl, _, rfl, a, c_Only, dx, _, nv b, rfl, e1, O_Only.cls, O_Only.no _ (mem_at 0 rfl), rfl, x, b, rfl, _, rfl, ?_⟩
    by_cases hc : x &&& b = b
    · rw [decide_eq_true hc]
      refine iteT ⟨_, rfl, a, c_Only, dx, _, .int m, rfl, e1, O_Only.cls, O_Only.no _ (mem_at 1 rfl), rfl, ?_⟩
      have z := hC _ (Same.refl H1)
      rw [show worthF (.only b m) x = m from if_pos hc] at z
      exact z
    · rw [decide_eq_false hc]
      refine iteF ?_
      have z := hC _ (Same.refl H1)
      rw [show worthF (.only b m) x = 0 from if_neg hc] at z
      exact z
  · intro H1 s1 e1
    refine q l0 H1 s1 hl ?_
    rw [e1, List.filter_eq_self.mpr (fun _ _ => rfl)]
    unfold worthsF
    rw [List.map_map]; rfl
theorem ok_M_SoMany_worths {f : Addr} {fd : FuncData} (F : Fun K "worths" "SoMany.worths" s_M_SoMany_worths f fd) (m_range : mg "range" = none)
    (D_P_size_of : DefOk P w K mg base 3 "size_of" ["bundle"] [] (sp_P_size_of K))
    (O_Bid : Own K mg "Bid" c_Bid [])
    (O_Only : Own K mg "Only" c_Only ["bundle", "amount"])
    (O_SoMany : Own K mg "SoMany" c_SoMany ["kind", "least", "amount"])
    (O_UpTo : Own K mg "UpTo" c_UpTo ["kind", "most", "each"])
    (O_Several : Own K mg "Several" c_Several ["bids"])
    (O_AnyOf : Own K mg "AnyOf" c_AnyOf ["bids"]) : FnOk P w K mg base CX0 4 f fd ["self", "many"] (sp_M_SoMany_worths K c_SoMany) := by
  refine F.okQ sc_M_SoMany_worths (fun vs H Q E h => ?_) (fun cdv A outer s H vs Q E hr h => ?_)
  · obtain ⟨a, dx, n, k, l, m, rfl, _⟩ := h; rfl
  obtain ⟨a, dx, n, k, l, m, rfl, hn, hk, e, q⟩ := h
  refine ⟨_, (R.pss_one (R.ps_ret (R.pe_comp (defScope s_M_SoMany_worths) ["self", "many"] ["bundle"] ["self"] [0] rfl rfl rfl ⟨s.heap.objs.size + 1, rfl⟩ rfl rfl (by decide +kernel) (R.pi_range1 rfl m_range (R.pa_c (R.pe_op op_shlN R.pe_int (R.pv 1)) R.pa_nil)) (fun C s2 H2 fp => (R.pg_name (i := 0) (show List.Nodup (["bundle", "self"] : List Str) from by decide +kernel) rfl (Or.inl rfl))) (fun C s2 H2 fp => R.pf_nil) (fun C s2 H2 fp => (R.pe_ifExp (R.pt_cmpR op_ge (R.pe_callD D_P_size_of hr (by decide) rfl (R.pa_c (R.pe_op op_andN (R.pv 0) (R.pe_fld K (R.pv 1))) R.pa_nil)) (R.pe_fld K (R.pv 1)) (nomark _)) (R.pe_fld K (R.pv 1)) R.pe_int))))), ?_⟩
  have f := (pow6 hn).1
  refine ⟨_, rfl, n, rfl, rfl, by omega, _, rfl, (rng6 hn).1, (rng6 hn).2, fun l0 hl => ?_⟩
  rw [Int.toNat_natCast]
  refine comp_rng_map (n := 2 ^ n) (fun _ => true) (fun x => V.int (worthF (.some k l m) x)) (by omega) hl ?_ ?_ ?_
  · intro x H1 hx s1 C hC; exact hC _ (Same.refl _)
  · intro x H1 hx _ s1 C hC
    rw [Int.zero_add]
    have e1 := s1 _ _ e
    refine ⟨_, rfl, _, rfl, a, c_SoMany, dx, _, nv k, rfl, e1, O_SoMany.cls, O_SoMany.no _ (mem_at 0 rfl), rfl, x, k, rfl, rfl, x &&& k, rfl, and64 hk, fun H2 s2 => ?_⟩
    have e2 := s2 _ _ e1
    refine ⟨_, rfl, a, c_SoMany, dx, _, nv l, rfl, e2, O_SoMany.cls, O_SoMany.no _ (mem_at 1 rfl), rfl, _, _, rfl, rfl, _, rfl, ?_⟩
    by_cases hc : l ≤ (things (x &&& k)).length
    · rw [decide_eq_true (by exact_mod_cast hc)]
      refine iteT ⟨_, rfl, a, c_SoMany, dx, _, .int m, rfl, e2, O_SoMany.cls, O_SoMany.no _ (mem_at 2 rfl), rfl, ?_⟩
      have z := hC _ s2
      rw [show worthF (.some k l m) x = m from if_pos hc] at z
      exact z
    · rw [decide_eq_false (fun z => hc (by exact_mod_cast z))]
      refine iteF ?_
      have z := hC _ s2
      rw [show worthF (.some k l m) x = 0 from if_neg hc] at z
      exact z
  · intro H1 s1 e1
    refine q l0 H1 s1 hl ?_
    rw [e1, List.filter_eq_self.mpr (fun _ _ => rfl)]
    unfold worthsF
    rw [List.map_map]; rfl
theorem ok_M_UpTo_worths {f : Addr} {fd : FuncData} (F : Fun K "worths" "UpTo.worths" s_M_UpTo_worths f fd) (m_min : mg "min" = none) (m_range : mg "range" = none)
    (D_P_size_of : DefOk P w K mg base 3 "size_of" ["bundle"] [] (sp_P_size_of K))
    (O_Bid : Own K mg "Bid" c_Bid [])
    (O_Only : Own K mg "Only" c_Only ["bundle", "amount"])
    (O_SoMany : Own K mg "SoMany" c_SoMany ["kind", "least", "amount"])
    (O_UpTo : Own K mg "UpTo" c_UpTo ["kind", "most", "each"])
    (O_Several : Own K mg "Several" c_Several ["bids"])
    (O_AnyOf : Own K mg "AnyOf" c_AnyOf ["bids"]) : FnOk P w K mg base CX0 4 f fd ["self", "many"] (sp_M_UpTo_worths K c_UpTo) := by
  refine F.okQ sc_M_UpTo_worths (fun vs H Q E h => ?_) (fun cdv A outer s H vs Q E hr h => ?_)
  · obtain ⟨a, dx, n, k, l, m, rfl, _⟩ := h; rfl
  obtain ⟨a, dx, n, k, l, m, rfl, hn, hk, e, q⟩ := h
  refine ⟨_, (R.pss_one (R.ps_ret (R.pe_comp (defScope s_M_UpTo_worths) ["self", "many"] ["bundle"] ["self"] [0] rfl rfl rfl ⟨s.heap.objs.size + 1, rfl⟩ rfl rfl (by decide +kernel) (R.pi_range1 rfl m_range (R.pa_c (R.pe_op op_shlN R.pe_int (R.pv 1)) R.pa_nil)) (fun C s2 H2 fp => (R.pg_name (i := 0) (show List.Nodup (["bundle", "self"] : List Str) from by decide +kernel) rfl (Or.inl rfl))) (fun C s2 H2 fp => R.pf_nil) (fun C s2 H2 fp => (R.pe_op op_mulB (R.pe_fld K (R.pv 1)) (R.pe_cB (call_min2 rfl) rfl m_min (boot_min) (R.pa_c (R.pe_callD D_P_size_of hr (by decide) rfl (R.pa_c (R.pe_op op_andN (R.pv 0) (R.pe_fld K (R.pv 1))) R.pa_nil)) (R.pa_c (R.pe_fld K (R.pv 1)) R.pa_nil)))))))), ?_⟩
  have f := (pow6 hn).1
  refine ⟨_, rfl, n, rfl, rfl, by omega, _, rfl, (rng6 hn).1, (rng6 hn).2, fun l0 hl => ?_⟩
  rw [Int.toNat_natCast]
  refine comp_rng_map (n := 2 ^ n) (fun _ => true) (fun x => V.int (worthF (.most k l m) x)) (by omega) hl ?_ ?_ ?_
  · intro x H1 hx s1 C hC; exact hC _ (Same.refl _)
  · intro x H1 hx _ s1 C hC
    rw [Int.zero_add]
    have e1 := s1 _ _ e
    refine ⟨_, rfl, a, c_UpTo, dx, _, .int m, rfl, e1, O_UpTo.cls, O_UpTo.no _ (mem_at 2 rfl), rfl, ?_⟩
    refine ⟨_, rfl, _, rfl, a, c_UpTo, dx, _, nv k, rfl, e1, O_UpTo.cls, O_UpTo.no _ (mem_at 0 rfl), rfl, x, k, rfl, rfl, x &&& k, rfl, and64 hk, fun H2 s2 => ?_⟩
    have e2 := s2 _ _ e1
    have t6 := things_len (x &&& k)
    refine ⟨_, rfl, a, c_UpTo, dx, _, nv l, rfl, e2, O_UpTo.cls, O_UpTo.no _ (mem_at 1 rfl), rfl, _, _, rfl, ?_⟩
    refine ⟨_, _, rfl, rfl, mulOk_small ?_, ?_⟩
    · split <;> omega
    have z := hC _ s2
    have ez : worthF (.most k l m) x = m * (if (l : Int) < ((things (x &&& k)).length : Int) then (l : Int) else ((things (x &&& k)).length : Int)) := by
      show m * ((if l < (things (x &&& k)).length then l else (things (x &&& k)).length : Nat) : Int) = _
      congr 1
      by_cases hc : l < (things (x &&& k)).length
      · rw [if_pos hc, if_pos (by exact_mod_cast hc)]
      · rw [if_neg hc, if_neg (fun z => hc (by exact_mod_cast z))]
    rw [ez] at z
    exact z
  · intro H1 s1 e1
    refine q l0 H1 s1 hl ?_
    rw [e1, List.filter_eq_self.mpr (fun _ _ => rfl)]
    unfold worthsF
    rw [List.map_map]; rfl
theorem ok_L_whole {f : Addr} {fd : FuncData} (F : Fun K "_law_whole" "_law_whole" s_L_whole f fd) (m_self : mg "_law_whole" = some (.ref f)) (m_isinstance : mg "isinstance" = none) (m_int : mg "int" = none) (m_bool : mg "bool" = none) : DefOk P w K mg base 1 "_law_whole" ["_law_found"] [] (sp_L_whole K) := by
  refine F.def_okQ m_self (bnd1 F fun _ _ _ _ _ _ _ => rfl) sc_L_whole (fun vs H Q E h => ?_) (fun cdv A outer s H vs Q E hr h => ?_)
  · obtain ⟨v, n, rfl, _⟩ := h; rfl
  obtain ⟨v, n, rfl, hk, q⟩ := h
  refine ⟨_, (R.pss_one (R.ps_ret (R.pe_and (R.pe_isi .int rfl m_isinstance rfl m_int (R.pv 0)) (R.pe_one (R.pe_not (R.pe_isi .bl rfl m_isinstance rfl m_bool (R.pv 0))))))), ?_⟩
  refine ⟨_, rfl, v, n, rfl, hk, _, rfl, ?_⟩
  refine ite2 (fun c => ?_) (fun c => ?_)
  · refine ⟨_, rfl, v, n, rfl, hk, _, rfl, ?_⟩
    rw [(whole_key n).1 c]; exact q
  · show Q (.bl false) H
    rw [(whole_key n).2 c]; exact q
theorem getD_at {ws : List Int} {b : Nat} (h : b < ws.length) : atI (ws.map V.int) (b : Int) = some (V.int (ws.getD b 0)) := by
  refine at_nat ?_
  rw [List.getElem?_map, List.getElem?_eq_getElem h, List.getD_eq_getElem?_getD, List.getElem?_eq_getElem h]; rfl
theorem tab_getD {g : Nat → Int} {n x : Nat} (h : x < 2 ^ n) : atI ((tab g n).map V.int) (x : Int) = some (V.int (g x)) := by
  have z := getD_at (ws := tab g n) (b := x) (by rw [tab_len]; exact h)
  rw [tab_at h] at z; exact z
theorem ok_L_cell {f : Addr} {fd : FuncData} (F : Fun K "_law_cell" "_law_cell" s_L_cell f fd) (m_self : mg "_law_cell" = some (.ref f)) (m_len : mg "len" = none) : DefOk P w K mg base 1 "_law_cell" ["_law_script", "_law_k"] [] (sp_L_cell K) := by
  refine F.def_okQ m_self (bnd2 F fun _ _ _ _ _ _ _ _ => rfl) sc_L_cell (fun vs H Q E h => ?_) (fun cdv A outer s H vs Q E hr h => ?_)
  · obtain ⟨a, ns, k, rfl, _⟩ := h; rfl
  obtain ⟨a, ns, k, rfl, hS, hk, q⟩ := h
  have hl : (ns.map V.int).length = ns.length := List.length_map _
  refine ⟨_, (R.pss_cons (R.ps_if (R.pt_cmpR op_lt (R.pv 1) (R.pe_cB call_len_seq rfl m_len PySem.boot_len (R.pa_c (R.pv 0) R.pa_nil)) (nomark _)) (R.pss_one (R.ps_ret (R.pe_op op_mod (R.pe_ix (R.ixL K) (R.pv 0) (R.pv 1) (fun _ _ => rfl)) (R.pe_op op_pow R.pe_int R.pe_int)))) R.pss_nil)
    (R.pss_cons (R.ps_if (R.pt_cmpR (op_eqI hr.units0) (R.pv 0) (R.pe_lst R.pa_nil) (nomark _)) (R.pss_one (R.ps_ret (R.pe_op op_add (R.pe_op op_mulB R.pe_int (R.pv 1)) R.pe_int))) R.pss_nil)
    (R.pss_one (R.ps_ret (R.pe_op op_mod (R.pe_op op_mulB (R.pe_op op_add (R.pe_op op_mod (R.pe_ix (R.ixL K) (R.pv 0) (R.pe_op (opE op_mod) (R.pv 1) (R.pe_cB call_len_seq rfl m_len PySem.boot_len (R.pa_c (R.pv 0) R.pa_nil))) (fun _ _ => rfl)) R.pe_int) (R.pe_op op_mulB R.pe_int (R.pv 1))) (R.pe_op op_add R.pe_int (R.pe_op op_mulB R.pe_int (R.pv 1)))) R.pe_int))))), ?_⟩
  refine ⟨_, rfl, _, rfl, a, _, rfl, .inl hS, _, _, rfl, rfl, _, rfl, ?_⟩
  refine ite2 (fun c => ?_) (fun c => ?_)
  · have c' : (k : Int) < (((ns.map V.int).length : Nat) : Int) := of_decide_eq_true c
    have c2 : k < ns.length := by omega
    have q' : Q (.int (ns.getD k 0 % 10 ^ 60)) H := by
      have z := q H (Same.refl _)
      unfold cellN at z; rw [if_pos c2] at z; exact z
    refine ⟨_, rfl, _, rfl, a, _, _, V.int (ns.getD k 0), rfl, rfl, hS, at_nat (by rw [List.getElem?_map, List.getElem?_eq_getElem c2, List.getD_eq_getElem?_getD, List.getElem?_eq_getElem c2]; rfl), ?_⟩
    refine ⟨_, _, rfl, rfl, ⟨by decide, by decide, by decide⟩, _, _, rfl, rfl, ?_, q'⟩
    show (0 : Int) < 10 ^ 60
    decide
  · have c' : ¬ (k : Int) < (((ns.map V.int).length : Nat) : Int) := of_decide_eq_false (Bool.eq_false_iff.mpr c)
    have c2 : ¬ k < ns.length := by omega
    refine ⟨_, rfl, (by show 0 ≤ sizeLine; decide), fun p hp => ?_⟩
    have s1 := same_new hp (.lst [])
    have hS1 := s1.seq hS
    refine ⟨a, p, ns, [], rfl, rfl, hS1, SqL.of upd_same, _, rfl, ?_⟩
    have q' := q _ s1
    unfold cellN at q'
    rw [if_neg c2] at q'
    by_cases e : ns = []
    · rw [if_pos e] at q'
      show (if (decide (ns = []) : Bool) = true then _ else _)
      rw [decide_eq_true e]
      exact iteT ⟨_, rfl, _, _, rfl, rfl, mulOk_left (by decide), _, _, rfl, rfl, q'⟩
    · rw [if_neg e] at q'
      show (if (decide (ns = []) : Bool) = true then _ else _)
      rw [decide_eq_false e]
      refine iteF ?_
      have hpos : 0 < ns.length := List.length_pos_iff.mpr e
      have hlt : k % ns.length < ns.length := Nat.mod_lt _ hpos
      refine ⟨_, rfl, _, rfl, _, rfl, a, _, rfl, .inl hS1, _, _, nv (k % ns.length), rfl, rfl, (by show (0 : Int) < _; omega), ?_, a, _, _, V.int (ns.getD (k % ns.length) 0), rfl, rfl, hS1, at_nat (by rw [List.getElem?_map, List.getElem?_eq_getElem hlt, List.getD_eq_getElem?_getD, List.getElem?_eq_getElem hlt]; rfl), ?_⟩
      · show V.int ((k : Int) % (((ns.map V.int).length : Nat) : Int)) = V.int ((k % ns.length : Nat) : Int)
        rw [hl]; rfl
      refine ⟨_, _, rfl, rfl, (by show (0 : Int) < 1000003; decide), _, rfl, _, _, rfl, rfl, mulOk_left (by decide), _, _, rfl, rfl, _, rfl, _, _, rfl, rfl, mulOk_left (by decide), _, _, rfl, rfl, _, _, rfl, rfl, mulOk_small (by omega), _, _, rfl, rfl, (by show (0 : Int) < 2147483647; decide), q'⟩
theorem ok_L_amount {f : Addr} {fd : FuncData} (F : Fun K "_law_amount" "_law_amount" s_L_amount f fd) (m_self : mg "_law_amount" = some (.ref f)) : DefOk P w K mg base 1 "_law_amount" ["_law_cell_here"] [] (sp_L_amount K) := by
  refine F.def_okQ m_self (bnd1 F fun _ _ _ _ _ _ _ => rfl) sc_L_amount (fun vs H Q E h => ?_) (fun cdv A outer s H vs Q E hr h => ?_)
  · obtain ⟨c, rfl, _⟩ := h; rfl
  obtain ⟨c, rfl, q⟩ := h
  refine ⟨_, (R.pss_cons (R.ps_set (i := 1) sc_L_amount.nd rfl (Or.inl rfl) (R.pe_op op_mod (R.pv 0) R.pe_int))
    (R.pss_cons (R.ps_if (R.pt_cmpR op_eq (R.pv 1) R.pe_int (nomark _)) (R.pss_one (R.ps_ret R.pe_int)) R.pss_nil)
    (R.pss_cons (R.ps_if (R.pt_cmpR op_eq (R.pv 1) R.pe_int (nomark _)) (R.pss_one (R.ps_ret (R.pe_op op_pow R.pe_int R.pe_int))) R.pss_nil)
    (R.pss_cons (R.ps_if (R.pt_cmpR op_lt (R.pv 1) R.pe_int (nomark _)) (R.pss_one (R.ps_ret (R.pe_op op_add R.pe_int (R.pe_op op_mod (R.pe_op op_fdiv (R.pv 0) R.pe_int) R.pe_int)))) R.pss_nil)
    (R.pss_one (R.ps_ret (R.pe_op op_mod (R.pe_op op_fdiv (R.pv 0) R.pe_int) (R.pe_op op_add (R.pe_op op_pow R.pe_int R.pe_int) R.pe_int)))))))), ?_⟩
  refine ⟨_, rfl, _, _, rfl, rfl, (by show (0 : Int) < 6; decide), ?_⟩
  unfold amountBy at q
  refine ⟨_, rfl, rfl, _, rfl, ?_⟩
  refine ite2 (fun e => ?_) (fun e => ?_)
  · have e' : c % 6 = 0 := V.int.inj (of_decide_eq_true e)
    rw [if_pos e'] at q; exact q
  have e' : ¬ c % 6 = 0 := fun z => e (decide_eq_true (congrArg V.int z))
  rw [if_neg e'] at q
  refine ⟨_, rfl, rfl, _, rfl, ?_⟩
  refine ite2 (fun d => ?_) (fun d => ?_)
  · have d' : c % 6 = 1 := V.int.inj (of_decide_eq_true d)
    rw [if_pos d'] at q
    exact ⟨_, _, rfl, rfl, ⟨by decide, by decide, by decide⟩, q⟩
  have d' : ¬ c % 6 = 1 := fun z => d (decide_eq_true (congrArg V.int z))
  rw [if_neg d'] at q
  refine ⟨_, rfl, _, _, rfl, rfl, _, rfl, ?_⟩
  refine ite2 (fun g => ?_) (fun g => ?_)
  · have g' : c % 6 < 4 := of_decide_eq_true g
    rw [if_pos g'] at q
    exact ⟨_, rfl, _, _, rfl, rfl, ⟨by decide, by decide⟩, _, _, rfl, rfl, (by show (0 : Int) < 12; decide), _, _, rfl, rfl, q⟩
  · have g' : ¬ c % 6 < 4 := of_decide_eq_false (Bool.eq_false_iff.mpr g)
    rw [if_neg g'] at q
    refine ⟨_, rfl, _, _, rfl, rfl, ⟨by decide, by decide⟩, ?_⟩
    exact ⟨_, _, rfl, rfl, ⟨by decide, by decide, by decide⟩, _, _, rfl, rfl, _, _, rfl, rfl, (by show (0 : Int) < 10 ^ 9 + 1; decide), q⟩
theorem lt7 : ∀ z < 7, z = 0 ∨ z = 1 ∨ z = 2 ∨ z = 3 ∨ z = 4 ∨ z = 5 ∨ z = 6 := by decide
theorem size_sum : ∀ b < 64, ([1, 2, 4, 8, 16, 32].map fun x => ((b / x % 2 : Nat) : Int)).sum = ((things b).length : Int) := by decide +kernel
theorem ones6 {x : Nat} (hx : x ∈ [1, 2, 4, 8, 16, 32]) : 0 < x ∧ x ≤ 32 := by
  simp only [List.mem_cons, List.not_mem_nil, or_false] at hx
  rcases hx with e | e | e | e | e | e <;> subst e <;> decide
theorem mod_nat (c : Int) (m : Nat) (hm : 0 < m) : ∃ b : Nat, c % (m : Int) = (b : Int) ∧ b < m := by
  have a1 := Int.emod_nonneg c (show (m : Int) ≠ 0 by omega)
  have a2 := Int.emod_lt_of_pos c (show (0 : Int) < (m : Int) by omega)
  exact ⟨(c % (m : Int)).toNat, by omega, by omega⟩
theorem ok_L_size {f : Addr} {fd : FuncData} (F : Fun K "_law_size" "_law_size" s_L_size f fd) (m_self : mg "_law_size" = some (.ref f)) (m_sum : mg "sum" = none) : DefOk P w K mg base 1 "_law_size" ["_law_bundle"] [] (sp_L_size K) := by
  refine F.def_okQ m_self (bnd1 F fun _ _ _ _ _ _ _ => rfl) sc_L_size (fun vs H Q E h => ?_) (fun cdv A outer s H vs Q E hr h => ?_)
  · obtain ⟨b, rfl, _⟩ := h; rfl
  obtain ⟨b, rfl, hb, q⟩ := h
  refine ⟨_, (R.pss_one (R.ps_ret (R.pe_cB (call_sumL rfl) rfl m_sum (boot_sum) (R.pa_c (R.pe_comp (defScope s_L_size) ["_law_bundle"] ["_law_by"] ["_law_bundle"] [0] rfl rfl rfl ⟨s.heap.objs.size + 1, rfl⟩ rfl rfl (by decide +kernel) (R.pi_list (R.pe_lst (R.pa_c R.pe_int (R.pa_c R.pe_int (R.pa_c R.pe_int (R.pa_c R.pe_int (R.pa_c R.pe_int (R.pa_c R.pe_int R.pa_nil)))))))) (fun C s2 H2 fp => (R.pg_name (i := 0) (show List.Nodup (["_law_by", "_law_bundle"] : List Str) from by decide +kernel) rfl (Or.inl rfl))) (fun C s2 H2 fp => R.pf_nil) (fun C s2 H2 fp => (R.pe_op (opE op_mod) (R.pe_op (opE op_fdiv) (R.pv 1) (R.pv 0)) R.pe_int))) R.pa_nil)))), ?_⟩
  refine ⟨(by show 6 ≤ sizeLine; decide), fun l1 h1 => ⟨l1, rfl, ⟨_, SqL.of upd_same⟩, fun l2 h2 => ?_⟩⟩
  refine comp_lst_map nv [1, 2, 4, 8, 16, 32] (fun _ => true) (fun x => nv (b / x % 2)) (SqL.of upd_same) (by decide) h2 ?_ ?_ ?_
  · intro x hx H2 s2 C hC; exact hC _ (Same.refl _)
  · intro x hx _ H2 s2 C hC
    obtain ⟨x1, x2⟩ := ones6 hx
    exact ⟨_, rfl, _, rfl, _, _, nv (b / x), rfl, rfl, ⟨by omega, by omega⟩, rfl, _, _, nv (b / x % 2), rfl, rfl, (by show (0 : Int) < 2; decide), rfl, hC _ (Same.refl _)⟩
  · intro H2 s2 e2
    refine ⟨l2, [1, 2, 4, 8, 16, 32].map fun x => ((b / x % 2 : Nat) : Int), rfl, SqL.of ?_, ?_⟩
    · rw [e2, List.filter_eq_self.mpr (fun _ _ => rfl), List.map_map]; rfl
    · rw [size_sum b hb]
      exact q _ ((same_new h1 _).trans s2)
theorem ok_L_form {f : Addr} {fd : FuncData} (F : Fun K "_law_form" "_law_form" s_L_form f fd) (m_self : mg "_law_form" = some (.ref f))
    (D_L_amount : DefOk P w K mg base 1 "_law_amount" ["_law_cell_here"] [] (sp_L_amount K)) : DefOk P w K mg base 2 "_law_form" ["_law_cell_here", "_law_other", "_law_last"] [] (sp_L_form K) := by
  refine F.def_okQ m_self (bnd3 F fun _ _ _ _ _ _ _ _ _ => rfl) sc_L_form (fun vs H Q E h => ?_) (fun cdv A outer s H vs Q E hr h => ?_)
  · obtain ⟨c, d, last, rfl, _⟩ := h; rfl
  obtain ⟨c, d, last, rfl, l1, l2, q⟩ := h
  refine ⟨_, (R.pss_cons (R.ps_set (i := 3) sc_L_form.nd rfl (Or.inl rfl) (R.pe_ix (R.ixL K) (R.pe_lst (R.pa_c R.pe_str (R.pa_c R.pe_str (R.pa_c R.pe_str (R.pa_c R.pe_str (R.pa_c R.pe_str (R.pa_c R.pe_str (R.pa_c R.pe_str R.pa_nil)))))))) (R.pe_op (opE op_mod) (R.pv 0) R.pe_int) (fun _ _ => rfl)))
    (R.pss_cons (R.ps_set (i := 4) sc_L_form.nd rfl (Or.inl rfl) (R.pe_op (opE0 op_add) R.pe_int (R.pe_op (opE op_mod) (R.pe_op op_fdiv (R.pv 0) R.pe_int) (R.pv 2))))
    (R.pss_one (R.ps_ret (R.pe_tup (R.pa_c (R.pv 3) (R.pa_c (R.pv 4) (R.pa_c (R.pe_op (opE0 op_add) R.pe_int (R.pe_op (opE op_mod) (R.pe_op op_fdiv (R.pv 0) R.pe_int) R.pe_int)) (R.pa_c (R.pe_callD D_L_amount hr (by decide) rfl (R.pa_c (R.pv 1) R.pa_nil)) R.pa_nil))))))))), ?_⟩
  obtain ⟨z, ez, hz⟩ := mod_nat c 7 (by decide)
  obtain ⟨b, eb, hb⟩ := mod_nat (c / 7) last (by omega)
  obtain ⟨n, en, hn⟩ := mod_nat (c / 441) 6 (by decide)
  refine ⟨(by show 7 ≤ sizeLine; decide), fun l hl => ?_⟩
  have s1 := same_new hl (.lst [.str "none", .str "only", .str "only", .str "some", .str "some", .str "most", .str "most"])
  obtain ⟨wd, ew, hf⟩ : ∃ wd : Str, atI [V.str "none", .str "only", .str "only", .str "some", .str "some", .str "most", .str "most"] (z : Int) = some (.str wd) ∧ ∃ f, wd = word f ∧ FormOk f ∧ Fits f (1 + b) (1 + n) (amountBy d) := by
    have am : AmtOk (amountBy d) := ⟨amountBy_nonneg d, amountBy_le d⟩
    have o1 : ∃ f, ("only" : Str) = word f ∧ FormOk f ∧ Fits f (1 + b) (1 + n) (amountBy d) := ⟨.only (1 + b) (amountBy d), rfl, ⟨by omega, by omega, am⟩, rfl, rfl⟩
    have o2 : ∃ f, ("some" : Str) = word f ∧ FormOk f ∧ Fits f (1 + b) (1 + n) (amountBy d) := ⟨.some (1 + b) (1 + n) (amountBy d), rfl, ⟨by omega, by omega, by omega, by omega, am⟩, rfl, rfl, rfl⟩
    have o3 : ∃ f, ("most" : Str) = word f ∧ FormOk f ∧ Fits f (1 + b) (1 + n) (amountBy d) := ⟨.most (1 + b) (1 + n) (amountBy d), rfl, ⟨by omega, by omega, by omega, by omega, am⟩, rfl, rfl, rfl⟩
    rcases lt7 z hz with e | e | e | e | e | e | e <;> subst e
    · exact ⟨_, rfl, .none, rfl, trivial, trivial⟩
    · exact ⟨_, rfl, o1⟩
    · exact ⟨_, rfl, o1⟩
    · exact ⟨_, rfl, o2⟩
    · exact ⟨_, rfl, o2⟩
    · exact ⟨_, rfl, o3⟩
    · exact ⟨_, rfl, o3⟩
  refine ⟨_, rfl, _, _, nv z, rfl, rfl, (by show (0 : Int) < 7; decide), congrArg V.int ez, l, _, _, _, rfl, rfl, SqL.of upd_same, ew, ?_⟩
  refine ⟨_, rfl, _, _, rfl, rfl, ⟨by decide, by decide⟩, _, rfl, _, _, nv b, rfl, rfl, (by show (0 : Int) < (last : Int); omega), congrArg V.int eb, _, _, nv (1 + b), rfl, rfl, rfl, ?_⟩
  refine ⟨_, rfl, _, rfl, _, rfl, _, _, rfl, rfl, ⟨by decide, by decide⟩, _, _, nv n, rfl, rfl, (by show (0 : Int) < 6; decide), congrArg V.int en, _, _, nv (1 + n), rfl, rfl, rfl, _, rfl, d, rfl, (by show 4 ≤ sizeLine; decide), fun p hp => ?_⟩
  obtain ⟨f, rfl, ok, fit⟩ := hf
  exact q p _ f (s1.trans (same_new hp _)) (s1.free hp) ok ⟨1 + b, 1 + n, amountBy d, upd_same, by omega, fit⟩
theorem made_same {H : Hp} {x dx : Addr} {o u : HO} (nx : H x = none) (nd : H dx = none) : Same H (upd (upd (upd H dx (.own x)) x o) x u) := (((Same.refl H).upd nd _).upd nx _).upd nx _
theorem ok_L_single {f : Addr} {fd : FuncData} (F : Fun K "_law_single" "_law_single" s_L_single f fd) (m_self : mg "_law_single" = some (.ref f))
    (O_Bid : Own K mg "Bid" c_Bid [])
    (O_Only : Own K mg "Only" c_Only ["bundle", "amount"])
    (O_SoMany : Own K mg "SoMany" c_SoMany ["kind", "least", "amount"])
    (O_UpTo : Own K mg "UpTo" c_UpTo ["kind", "most", "each"])
    (O_Several : Own K mg "Several" c_Several ["bids"])
    (O_AnyOf : Own K mg "AnyOf" c_AnyOf ["bids"])
    (MK_Bid : Make0 K mg "Bid" c_Bid)
    (MK_Only : MakeD P w K mg base 4 "Only" c_Only ["self", "bundle", "amount"] (sp_M_Only___init__ K c_Only))
    (MK_SoMany : MakeD P w K mg base 4 "SoMany" c_SoMany ["self", "kind", "least", "amount"] (sp_M_SoMany___init__ K c_SoMany))
    (MK_UpTo : MakeD P w K mg base 4 "UpTo" c_UpTo ["self", "kind", "most", "each"] (sp_M_UpTo___init__ K c_UpTo)) : DefOk P w K mg base 6 "_law_single" ["_law_form_here"] [] (sp_L_single K c_Bid c_Only c_SoMany c_UpTo c_Several c_AnyOf) := by
  refine F.def_okQ m_self (bnd1 F fun _ _ _ _ _ _ _ => rfl) sc_L_single (fun vs H Q E h => ?_) (fun cdv A outer s H vs Q E hr h => ?_)
  · obtain ⟨p, f, rfl, _⟩ := h; rfl
  obtain ⟨p, f, rfl, ok, ⟨k0, l0, z0, hp, h63, fit⟩, q⟩ := h
  refine ⟨_, (R.pss_cons (R.ps_if (R.pt_cmpR op_eq (R.pe_ix ix_tup (R.pv 0) R.pe_int (fun _ _ => rfl)) R.pe_str (nomark _)) (R.pss_one (R.ps_ret (R.pe_makeD MK_Only hr (by decide) rfl (R.pa_c (R.pe_ix ix_tup (R.pv 0) R.pe_int (fun _ _ => rfl)) (R.pa_c (R.pe_ix ix_tup (R.pv 0) R.pe_int (fun _ _ => rfl)) R.pa_nil))))) R.pss_nil)
    (R.pss_cons (R.ps_if (R.pt_cmpR op_eq (R.pe_ix ix_tup (R.pv 0) R.pe_int (fun _ _ => rfl)) R.pe_str (nomark _)) (R.pss_one (R.ps_ret (R.pe_makeD MK_SoMany hr (by decide) rfl (R.pa_c (R.pe_ix ix_tup (R.pv 0) R.pe_int (fun _ _ => rfl)) (R.pa_c (R.pe_ix ix_tup (R.pv 0) R.pe_int (fun _ _ => rfl)) (R.pa_c (R.pe_ix ix_tup (R.pv 0) R.pe_int (fun _ _ => rfl)) R.pa_nil)))))) R.pss_nil)
    (R.pss_cons (R.ps_if (R.pt_cmpR op_eq (R.pe_ix ix_tup (R.pv 0) R.pe_int (fun _ _ => rfl)) R.pe_str (nomark _)) (R.pss_one (R.ps_ret (R.pe_makeD MK_UpTo hr (by decide) rfl (R.pa_c (R.pe_ix ix_tup (R.pv 0) R.pe_int (fun _ _ => rfl)) (R.pa_c (R.pe_ix ix_tup (R.pv 0) R.pe_int (fun _ _ => rfl)) (R.pa_c (R.pe_ix ix_tup (R.pv 0) R.pe_int (fun _ _ => rfl)) R.pa_nil)))))) R.pss_nil)
    (R.pss_one (R.ps_ret (R.pe_mk0 MK_Bid rfl)))))), ?_⟩
  cases f with
  | none =>
    refine ⟨_, rfl, p, _, _, _, rfl, rfl, SqT.of hp, rfl, rfl, _, rfl, iteF ?_⟩
    refine ⟨_, rfl, p, _, _, _, rfl, rfl, SqT.of hp, rfl, rfl, _, rfl, iteF ?_⟩
    refine ⟨_, rfl, p, _, _, _, rfl, rfl, SqT.of hp, rfl, rfl, _, rfl, iteF ?_⟩
    exact fun x dx nx nd _ => q x _ (((Same.refl H).upd nd _).upd nx _) nx ⟨dx, upd_same⟩
  | only b m =>
    obtain ⟨rfl, rfl⟩ := fit
    refine ⟨_, rfl, p, _, _, _, rfl, rfl, SqT.of hp, rfl, rfl, _, rfl, iteT ?_⟩
    obtain ⟨b1, b2, hm⟩ := ok
    refine ⟨_, rfl, p, _, _, _, rfl, rfl, SqT.of hp, rfl, _, rfl, p, _, _, _, rfl, rfl, SqT.of hp, rfl, fun x dx nx nd _ => ?_⟩
    exact ⟨x, dx, b, m, rfl, b1, b2, hm, upd_same, rfl, q x _ (made_same nx nd) nx ⟨dx, upd_same⟩⟩
  | some k l m =>
    obtain ⟨rfl, rfl, rfl⟩ := fit
    refine ⟨_, rfl, p, _, _, _, rfl, rfl, SqT.of hp, rfl, rfl, _, rfl, iteF ?_⟩
    refine ⟨_, rfl, p, _, _, _, rfl, rfl, SqT.of hp, rfl, rfl, _, rfl, iteT ?_⟩
    obtain ⟨k1, k2, l1, l2, hm⟩ := ok
    refine ⟨_, rfl, p, _, _, _, rfl, rfl, SqT.of hp, rfl, _, rfl, p, _, _, _, rfl, rfl, SqT.of hp, rfl, _, rfl, p, _, _, _, rfl, rfl, SqT.of hp, rfl, fun x dx nx nd _ => ?_⟩
    exact ⟨x, dx, k, l, m, rfl, k1, k2, l1, l2, hm, upd_same, rfl, q x _ (made_same nx nd) nx ⟨dx, upd_same⟩⟩
  | most k l m =>
    obtain ⟨rfl, rfl, rfl⟩ := fit
    refine ⟨_, rfl, p, _, _, _, rfl, rfl, SqT.of hp, rfl, rfl, _, rfl, iteF ?_⟩
    refine ⟨_, rfl, p, _, _, _, rfl, rfl, SqT.of hp, rfl, rfl, _, rfl, iteF ?_⟩
    refine ⟨_, rfl, p, _, _, _, rfl, rfl, SqT.of hp, rfl, rfl, _, rfl, iteT ?_⟩
    obtain ⟨k1, k2, l1, l2, hm⟩ := ok
    refine ⟨_, rfl, p, _, _, _, rfl, rfl, SqT.of hp, rfl, _, rfl, p, _, _, _, rfl, rfl, SqT.of hp, rfl, _, rfl, p, _, _, _, rfl, rfl, SqT.of hp, rfl, fun x dx nx nd _ => ?_⟩
    exact ⟨x, dx, k, l, m, rfl, k1, k2, l1, l2, hm, upd_same, rfl, q x _ (made_same nx nd) nx ⟨dx, upd_same⟩⟩
theorem ok_L_worth {f : Addr} {fd : FuncData} (F : Fun K "_law_worth" "_law_worth" s_L_worth f fd) (m_self : mg "_law_worth" = some (.ref f)) (m_int : mg "int" = none) (m_min : mg "min" = none)
    (D_L_size : DefOk P w K mg base 1 "_law_size" ["_law_bundle"] [] (sp_L_size K)) : DefOk P w K mg base 2 "_law_worth" ["_law_form_here", "_law_bundle"] [] (sp_L_worth K) := by
  refine F.def_okQ m_self (bnd2 F fun _ _ _ _ _ _ _ _ => rfl) sc_L_worth (fun vs H Q E h => ?_) (fun cdv A outer s H vs Q E hr h => ?_)
  · obtain ⟨p, f, x, rfl, _⟩ := h; rfl
  obtain ⟨p, f, x, rfl, ok, ⟨k0, l0, z0, hp, h63, fit⟩, hx, q⟩ := h
  refine ⟨_, (R.pss_cons (R.ps_set (i := 2) sc_L_worth.nd rfl (Or.inl rfl) (R.pe_callD D_L_size hr (by decide) rfl (R.pa_c (R.pe_op op_andN (R.pv 1) (R.pe_ix ix_tup (R.pv 0) R.pe_int (fun _ _ => rfl))) R.pa_nil)))
    (R.pss_cons (R.ps_if (R.pt_cmpR op_eq (R.pe_ix ix_tup (R.pv 0) R.pe_int (fun _ _ => rfl)) R.pe_str (nomark _)) (R.pss_one (R.ps_ret (R.pe_op op_mulB (R.pe_ix ix_tup (R.pv 0) R.pe_int (fun _ _ => rfl)) (R.pe_cTy call_int1 rfl m_int (boot_int) (R.pa_c (R.pe_cmpR op_eq (R.pe_op op_andN (R.pv 1) (R.pe_ix ix_tup (R.pv 0) R.pe_int (fun _ _ => rfl))) (R.pe_ix ix_tup (R.pv 0) R.pe_int (fun _ _ => rfl)) (nomark _)) R.pa_nil))))) R.pss_nil)
    (R.pss_cons (R.ps_if (R.pt_cmpR op_eq (R.pe_ix ix_tup (R.pv 0) R.pe_int (fun _ _ => rfl)) R.pe_str (nomark _)) (R.pss_one (R.ps_ret (R.pe_op op_mulB (R.pe_ix ix_tup (R.pv 0) R.pe_int (fun _ _ => rfl)) (R.pe_cTy call_int1 rfl m_int (boot_int) (R.pa_c (R.pe_cmpR op_ge (R.pv 2) (R.pe_ix ix_tup (R.pv 0) R.pe_int (fun _ _ => rfl)) (nomark _)) R.pa_nil))))) R.pss_nil)
    (R.pss_cons (R.ps_if (R.pt_cmpR op_eq (R.pe_ix ix_tup (R.pv 0) R.pe_int (fun _ _ => rfl)) R.pe_str (nomark _)) (R.pss_one (R.ps_ret (R.pe_op op_mulB (R.pe_ix ix_tup (R.pv 0) R.pe_int (fun _ _ => rfl)) (R.pe_cB (call_min2 rfl) rfl m_min (boot_min) (R.pa_c (R.pv 2) (R.pa_c (R.pe_ix ix_tup (R.pv 0) R.pe_int (fun _ _ => rfl)) R.pa_nil)))))) R.pss_nil)
    (R.pss_one (R.ps_ret R.pe_int)))))), ?_⟩
  cases f with
  | none =>
    refine ⟨_, rfl, _, rfl, p, _, _, _, rfl, rfl, SqT.of hp, rfl, x, k0, rfl, rfl, x &&& k0, rfl, and64 h63, fun H1 s1 => ?_⟩
    have h1 := s1 _ _ hp
    refine ⟨_, rfl, p, _, _, _, rfl, rfl, SqT.of h1, rfl, rfl, _, rfl, iteF ?_⟩
    refine ⟨_, rfl, p, _, _, _, rfl, rfl, SqT.of h1, rfl, rfl, _, rfl, iteF ?_⟩
    refine ⟨_, rfl, p, _, _, _, rfl, rfl, SqT.of h1, rfl, rfl, _, rfl, iteF ?_⟩
    exact q _ s1
  | only b m =>
    obtain ⟨rfl, rfl⟩ := fit
    obtain ⟨b1, b2, hm⟩ := ok
    refine ⟨_, rfl, _, rfl, p, _, _, _, rfl, rfl, SqT.of hp, rfl, x, b, rfl, rfl, x &&& b, rfl, and64 b2, fun H1 s1 => ?_⟩
    have h1 := s1 _ _ hp
    refine ⟨_, rfl, p, _, _, _, rfl, rfl, SqT.of h1, rfl, rfl, _, rfl, iteT ?_⟩
    refine ⟨_, rfl, p, _, _, _, rfl, rfl, SqT.of h1, rfl, ?_⟩
    refine ⟨_, rfl, _, rfl, p, _, _, _, rfl, rfl, SqT.of h1, rfl, x, b, rfl, rfl, _, rfl, p, _, _, _, rfl, rfl, SqT.of h1, rfl, rfl, ?_⟩
    rw [show decide (V.int ((x &&& b : Nat) : Int) = nv b) = decide (x &&& b = b) from int_eq_nat]
    refine .inr ⟨_, rfl, _, _, rfl, rfl, mulOk_small (by split <;> decide), ?_⟩
    have z := q _ s1
    have e : worthF (.only b m) x = m * (if decide (x &&& b = b) = true then 1 else 0) := by
      show (if x &&& b = b then m else 0) = _
      by_cases hc : x &&& b = b
      · rw [if_pos hc, if_pos (decide_eq_true hc), Int.mul_one]
      · rw [if_neg hc, if_neg (by rw [decide_eq_false hc]; decide), Int.mul_zero]
    rw [e] at z
    exact z
  | some k l m =>
    obtain ⟨rfl, rfl, rfl⟩ := fit
    obtain ⟨k1, k2, l1, l2, hm⟩ := ok
    refine ⟨_, rfl, _, rfl, p, _, _, _, rfl, rfl, SqT.of hp, rfl, x, k, rfl, rfl, x &&& k, rfl, and64 k2, fun H1 s1 => ?_⟩
    have h1 := s1 _ _ hp
    refine ⟨_, rfl, p, _, _, _, rfl, rfl, SqT.of h1, rfl, rfl, _, rfl, iteF ?_⟩
    refine ⟨_, rfl, p, _, _, _, rfl, rfl, SqT.of h1, rfl, rfl, _, rfl, iteT ?_⟩
    refine ⟨_, rfl, p, _, _, _, rfl, rfl, SqT.of h1, rfl, ?_⟩
    refine ⟨_, rfl, _, rfl, p, _, _, _, rfl, rfl, SqT.of h1, rfl, _, _, rfl, rfl, ?_⟩
    refine .inr ⟨_, rfl, _, _, rfl, rfl, mulOk_small (by split <;> decide), ?_⟩
    have z := q _ s1
    have e : worthF (.some k l m) x = m * (if decide ((l : Int) ≤ ((things (x &&& k)).length : Int)) = true then 1 else 0) := by
      show (if l ≤ (things (x &&& k)).length then m else 0) = _
      by_cases hc : l ≤ (things (x &&& k)).length
      · rw [if_pos hc, if_pos (decide_eq_true (by exact_mod_cast hc)), Int.mul_one]
      · rw [if_neg hc, if_neg (by rw [decide_eq_false (fun z => hc (by exact_mod_cast z))]; decide), Int.mul_zero]
    rw [e] at z
    exact z
  | most k l m =>
    obtain ⟨rfl, rfl, rfl⟩ := fit
    obtain ⟨k1, k2, l1, l2, hm⟩ := ok
    have t6 := things_len (x &&& k)
    refine ⟨_, rfl, _, rfl, p, _, _, _, rfl, rfl, SqT.of hp, rfl, x, k, rfl, rfl, x &&& k, rfl, and64 k2, fun H1 s1 => ?_⟩
    have h1 := s1 _ _ hp
    refine ⟨_, rfl, p, _, _, _, rfl, rfl, SqT.of h1, rfl, rfl, _, rfl, iteF ?_⟩
    refine ⟨_, rfl, p, _, _, _, rfl, rfl, SqT.of h1, rfl, rfl, _, rfl, iteF ?_⟩
    refine ⟨_, rfl, p, _, _, _, rfl, rfl, SqT.of h1, rfl, rfl, _, rfl, iteT ?_⟩
    refine ⟨_, rfl, p, _, _, _, rfl, rfl, SqT.of h1, rfl, ?_⟩
    refine ⟨_, rfl, _, rfl, p, _, _, _, rfl, rfl, SqT.of h1, rfl, _, _, rfl, ?_⟩
    refine ⟨_, _, rfl, rfl, mulOk_small (by split <;> omega), ?_⟩
    have z := q _ s1
    have e : worthF (.most k l m) x = m * (if (l : Int) < ((things (x &&& k)).length : Int) then (l : Int) else ((things (x &&& k)).length : Int)) := by
      show m * ((if l < (things (x &&& k)).length then l else (things (x &&& k)).length : Nat) : Int) = _
      congr 1
      by_cases hc : l < (things (x &&& k)).length
      · rw [if_pos hc, if_pos (by exact_mod_cast hc)]
      · rw [if_neg hc, if_neg (fun z => hc (by exact_mod_cast z))]
    rw [e] at z
    exact z
theorem ok_L_alike {f : Addr} {fd : FuncData} (F : Fun K "_law_alike" "_law_alike" s_L_alike f fd) (m_self : mg "_law_alike" = some (.ref f)) (m_zip : mg "zip" = none) (m_isinstance : mg "isinstance" = none) (m_list : mg "list" = none) (m_len : mg "len" = none)
    (D_L_whole : DefOk P w K mg base 1 "_law_whole" ["_law_found"] [] (sp_L_whole K)) : DefOk P w K mg base 2 "_law_alike" ["_law_found", "_law_due"] [] (sp_L_alike K) := by
  refine F.def_okQ m_self (bnd2 F fun _ _ _ _ _ _ _ _ => rfl) sc_L_alike (fun vs H Q E h => ?_) (fun cdv A outer s H vs Q E hr h => ?_)
  · obtain ⟨l, d, ws, rfl, _⟩ := h; rfl
  obtain ⟨l, d, ws, rfl, hl, hd, q⟩ := h
  refine ⟨_, (R.pss_cons (R.ps_if (R.pt (R.pw_or (R.pt_not (R.pt_val (R.pe_isi .lst rfl m_isinstance rfl m_list (R.pv 0)))) (R.pw_or1 (R.pt_cmpR op_ne (R.pe_cB call_len_seq rfl m_len PySem.boot_len (R.pa_c (R.pv 0) R.pa_nil)) (R.pe_cB call_len_seq rfl m_len PySem.boot_len (R.pa_c (R.pv 1) R.pa_nil)) (nomark _))))) (R.pss_one (R.ps_ret R.pe_bl)) R.pss_nil)
    (R.pss_cons (R.ps_for PassesOwn.never rfl (R.pi_zip rfl m_zip (R.pa_c (R.pv 0) (R.pa_c (R.pv 1) R.pa_nil))) (R.pg_tup K 2 rfl (R.pgs_cons (R.pg_name (i := 2) sc_L_alike.nd rfl (Or.inl rfl)) (R.pgs_cons (R.pg_name (i := 3) sc_L_alike.nd rfl (Or.inl rfl)) R.pgs_nil))) (R.pss_one (R.ps_if (R.pt (R.pw_or (R.pt_not (R.pt_val (R.pe_callD D_L_whole hr (by decide) rfl (R.pa_c (R.pv 2) R.pa_nil)))) (R.pw_or1 (R.pt_cmpR op_ne (R.pv 2) (R.pv 3) (nomark _))))) (R.pss_one (R.ps_ret R.pe_bl)) R.pss_nil)))
    (R.pss_one (R.ps_ret R.pe_bl)))), ?_⟩
  refine ⟨_, rfl, _, .lst, rfl, TyOf.lst hl, _, rfl, iteF ?_⟩
  refine ⟨_, rfl, l, _, rfl, .inl (SqL.of hl), _, rfl, d, _, rfl, .inl hd, rfl, _, rfl, ?_⟩
  rw [decide_eq_true rfl]
  refine iteF ?_
  refine ⟨_, rfl, _, rfl, l, d, rfl, ⟨_, SqL.of hl⟩, ⟨_, hd⟩, ?_⟩
  refine for_zip (xs := ws.map V.int) (ys := ws.map V.int) rfl (fun i σ H' => Same H H' ∧ ∃ y1 y2, σ = [some (.ref l), some (.ref d), y1, y2]) ?_ ?_ ?_ ?_
  · exact ⟨Same.refl _, _, _, rfl⟩
  · rintro i σ H' _ ⟨s', _⟩
    exact ⟨SqL.of (s' _ _ hl), s'.seq hd⟩
  · rintro i v u p σ H' hx hy ⟨s', y1, y2, rfl⟩ hp
    have s2 := same_new hp (.tup [v, u])
    rw [hx] at hy
    cases hy
    rw [List.getElem?_map] at hx
    obtain ⟨z, hz, rfl⟩ := Option.map_eq_some_iff.mp hx
    refine ⟨p, _, rfl, SqT.of upd_same, rfl, _, _, rfl, _, _, rfl, rfl, ?_⟩
    refine ⟨_, rfl, _, .int, rfl, TyOf.int _, _, rfl, iteF ?_⟩
    refine ⟨_, rfl, _, rfl, rfl, _, rfl, ?_⟩
    rw [decide_eq_true rfl]
    exact iteF ⟨s'.trans s2, _, _, rfl⟩
  · rintro σ H' ⟨s', y1, y2, rfl⟩
    exact q _ s'
theorem ok_M_Bid_depth {f : Addr} {fd : FuncData} (F : Fun K "depth" "Bid.depth" s_M_Bid_depth f fd)
    (O_Bid : Own K mg "Bid" c_Bid [])
    (O_Only : Own K mg "Only" c_Only ["bundle", "amount"])
    (O_SoMany : Own K mg "SoMany" c_SoMany ["kind", "least", "amount"])
    (O_UpTo : Own K mg "UpTo" c_UpTo ["kind", "most", "each"])
    (O_Several : Own K mg "Several" c_Several ["bids"])
    (O_AnyOf : Own K mg "AnyOf" c_AnyOf ["bids"]) : FnOk P w K mg base CX0 1 f fd ["self"] (sp_M_Bid_depth K c_Bid) := by
  refine F.okQ sc_M_Bid_depth (fun vs H Q E h => ?_) (fun cdv A outer s H vs Q E hr h => ?_)
  · obtain ⟨a, rfl, _⟩ := h; rfl
  obtain ⟨a, rfl, q⟩ := h
  refine ⟨_, (R.pss_one (R.ps_ret R.pe_int)), ?_⟩
  exact q
theorem ok_M_Bid_tally {f : Addr} {fd : FuncData} (F : Fun K "tally" "Bid.tally" s_M_Bid_tally f fd)
    (O_Bid : Own K mg "Bid" c_Bid [])
    (O_Only : Own K mg "Only" c_Only ["bundle", "amount"])
    (O_SoMany : Own K mg "SoMany" c_SoMany ["kind", "least", "amount"])
    (O_UpTo : Own K mg "UpTo" c_UpTo ["kind", "most", "each"])
    (O_Several : Own K mg "Several" c_Several ["bids"])
    (O_AnyOf : Own K mg "AnyOf" c_AnyOf ["bids"]) : FnOk P w K mg base CX0 1 f fd ["self"] (sp_M_Bid_tally K c_Bid) := by
  refine F.okQ sc_M_Bid_tally (fun vs H Q E h => ?_) (fun cdv A outer s H vs Q E hr h => ?_)
  · obtain ⟨a, rfl, _⟩ := h; rfl
  obtain ⟨a, rfl, q⟩ := h
  refine ⟨_, (R.pss_one (R.ps_ret R.pe_int)), ?_⟩
  exact q
theorem askD (K : PySem.W.Frag) {c_Bid c_Only c_SoMany c_UpTo c_Several c_AnyOf : Addr} {H : Hp} {b : Addr} {f : Form} (hb : IsBid c_Bid c_Only c_SoMany c_UpTo H b f) :
    ∃ (C dx : Addr) (fs : List (Str × V)) (sp : Sp), H b = some (.ins C dx fs) ∧ fs.lookup ("depth" : Str) = none ∧ T_depth_s K c_Bid c_Only c_SoMany c_UpTo c_Several c_AnyOf C sp ∧ ∀ Q : VK, Q (.int 1) H → sp [.ref b] H Q E0 := by
  cases f <;> obtain ⟨dx, e⟩ := hb
  · exact ⟨_, dx, _, _, e, rfl, .inl ⟨rfl, rfl⟩, fun Q q => ⟨b, rfl, q⟩⟩
  · exact ⟨_, dx, _, _, e, rfl, .inr (.inl ⟨rfl, rfl⟩), fun Q q => ⟨b, rfl, q⟩⟩
  · exact ⟨_, dx, _, _, e, rfl, .inr (.inr (.inl ⟨rfl, rfl⟩)), fun Q q => ⟨b, rfl, q⟩⟩
  · exact ⟨_, dx, _, _, e, rfl, .inr (.inr (.inr ⟨rfl, rfl⟩)), fun Q q => ⟨b, rfl, q⟩⟩
theorem askT (K : PySem.W.Frag) {c_Bid c_Only c_SoMany c_UpTo c_Several c_AnyOf : Addr} {H : Hp} {b : Addr} {f : Form} (hb : IsBid c_Bid c_Only c_SoMany c_UpTo H b f) :
    ∃ (C dx : Addr) (fs : List (Str × V)) (sp : Sp), H b = some (.ins C dx fs) ∧ fs.lookup ("tally" : Str) = none ∧ T_tally_s K c_Bid c_Only c_SoMany c_UpTo c_Several c_AnyOf C sp ∧ ∀ Q : VK, Q (.int 1) H → sp [.ref b] H Q E0 := by
  cases f <;> obtain ⟨dx, e⟩ := hb
  · exact ⟨_, dx, _, _, e, rfl, .inl ⟨rfl, rfl⟩, fun Q q => ⟨b, rfl, q⟩⟩
  · exact ⟨_, dx, _, _, e, rfl, .inr (.inl ⟨rfl, rfl⟩), fun Q q => ⟨b, rfl, q⟩⟩
  · exact ⟨_, dx, _, _, e, rfl, .inr (.inr (.inl ⟨rfl, rfl⟩)), fun Q q => ⟨b, rfl, q⟩⟩
  · exact ⟨_, dx, _, _, e, rfl, .inr (.inr (.inr ⟨rfl, rfl⟩)), fun Q q => ⟨b, rfl, q⟩⟩
theorem askW (K : PySem.W.Frag) {c_Bid c_Only c_SoMany c_UpTo c_Several c_AnyOf : Addr} {H : Hp} {b : Addr} {f : Form} {n : Nat} (hn : n ≤ 6) (ok : FormOk f) (hb : IsBid c_Bid c_Only c_SoMany c_UpTo H b f) :
    ∃ (C dx : Addr) (fs : List (Str × V)) (sp : Sp), H b = some (.ins C dx fs) ∧ fs.lookup ("worths" : Str) = none ∧ T_worths_s K c_Bid c_Only c_SoMany c_UpTo c_Several c_AnyOf C sp ∧ ∀ Q, Tells f n H Q → sp [.ref b, nv n] H Q E0 := by
  cases f with
  | none =>
    obtain ⟨dx, e⟩ := hb
    exact ⟨_, dx, _, _, e, rfl, .inl ⟨rfl, rfl⟩, fun Q q => ⟨b, dx, n, rfl, hn, e, q⟩⟩
  | only x m =>
    obtain ⟨dx, e⟩ := hb
    exact ⟨_, dx, _, _, e, rfl, .inr (.inl ⟨rfl, rfl⟩), fun Q q => ⟨b, dx, n, x, m, rfl, hn, ok.2.1, e, q⟩⟩
  | some k l m =>
    obtain ⟨dx, e⟩ := hb
    exact ⟨_, dx, _, _, e, rfl, .inr (.inr (.inl ⟨rfl, rfl⟩)), fun Q q => ⟨b, dx, n, k, l, m, rfl, hn, ok.2.1, e, q⟩⟩
  | most k l m =>
    obtain ⟨dx, e⟩ := hb
    exact ⟨_, dx, _, _, e, rfl, .inr (.inr (.inr ⟨rfl, rfl⟩)), fun Q q => ⟨b, dx, n, k, l, m, rfl, hn, ok.2.1, e, q⟩⟩
theorem ones_sum (n : Nat) : ((List.range n).map fun _ => (1 : Int)).sum = (n : Int) := by
  induction n with
  | zero => rfl
  | succ n ih =>
    rw [List.range_succ, List.map_append, List.sum_append, ih]
    simp
theorem ok_P_depth_over {f : Addr} {fd : FuncData} (F : Fun K "depth_over" "depth_over" s_P_depth_over f fd) (m_self : mg "depth_over" = some (.ref f)) (m_max : mg "max" = none)
    (O_Bid : Own K mg "Bid" c_Bid [])
    (O_Only : Own K mg "Only" c_Only ["bundle", "amount"])
    (O_SoMany : Own K mg "SoMany" c_SoMany ["kind", "least", "amount"])
    (O_UpTo : Own K mg "UpTo" c_UpTo ["kind", "most", "each"])
    (O_Several : Own K mg "Several" c_Several ["bids"])
    (O_AnyOf : Own K mg "AnyOf" c_AnyOf ["bids"])
    (hT_depth_s : ∀ C sp, T_depth_s K c_Bid c_Only c_SoMany c_UpTo c_Several c_AnyOf C sp → ∃ ps, MethD P w K mg base 1 C "depth" ps sp) : DefOk P w K mg base 2 "depth_over" ["bids"] [] (sp_P_depth_over K c_Bid c_Only c_SoMany c_UpTo c_Several c_AnyOf) := by
  refine F.def_okQ m_self (bnd1 F fun _ _ _ _ _ _ _ => rfl) sc_P_depth_over (fun vs H Q E h => ?_) (fun cdv A outer s H vs Q E hr h => ?_)
  · obtain ⟨l, bs, fs, rfl, _⟩ := h; rfl
  obtain ⟨l, bs, fs, rfl, hl, hB, few, q⟩ := h
  refine ⟨_, (R.pss_one (R.ps_ret (R.pe_op (opE0 op_add) R.pe_int (R.pe_maxD K rfl rfl m_max (R.pe_comp (defScope s_P_depth_over) ["bids"] ["bid"] [] [] rfl rfl rfl ⟨s.heap.objs.size + 1, rfl⟩ rfl rfl (by decide +kernel) (R.pi_list (R.pv 0)) (fun C s2 H2 fp => (R.pg_name (i := 0) (show List.Nodup (["bid"] : List Str) from by decide +kernel) rfl (Or.inl rfl))) (fun C s2 H2 fp => R.pf_nil) (fun C s2 H2 fp => (R.pe_methV0 (R.pv 0) hT_depth_s hr (by decide)))) R.pe_int)))), ?_⟩
  refine ⟨_, rfl, l, rfl, ⟨_, SqL.of hl⟩, fun l2 h2 => ?_⟩
  refine comp_lst1 (xs := bs.map V.ref) (fun k H' => Same H H' ∧ H' l2 = some (.lst (((List.range k).map fun _ => (1 : Int)).map V.int))) ⟨same_new h2 _, upd_same⟩ (fun k H' _ ⟨s, _⟩ => SqL.of (s _ _ hl)) ?_ ?_
  · rintro k v H1 hv ⟨s1, e1⟩ K1 K0 k1 k0
    obtain ⟨b, f, rfl, hb, hf, ok, ib⟩ := (hB.same s1).at hv
    obtain ⟨C, dx, ff, sp, g1, g2, g3, g4⟩ := askD K (c_Several := c_Several) (c_AnyOf := c_AnyOf) ib
    have hk := (List.getElem?_eq_some_iff.mp hb).1
    refine ⟨_, rfl, b, C, dx, ff, sp, rfl, g1, g2, g3, g4 _ (k1 _ _ _ e1 ?_ ⟨s1.upd h2 _, ?_⟩)⟩
    · rw [List.length_map, List.length_map, List.length_range]; exact small1000 (by omega)
    · rw [upd_same, List.range_succ, List.map_append, List.map_append]; rfl
  · rintro H1 ⟨s1, e1⟩
    refine ⟨l2, _, 0, rfl, rfl, SqL.of e1, fun _ => ⟨_, _, .int 1, rfl, rfl, rfl, q 1 H1 (by decide) s1⟩, fun m hm => ⟨_, _, .int 2, rfl, rfl, ?_, q 2 H1 (by decide) s1⟩⟩
    obtain ⟨x, _, e⟩ := List.mem_map.mp hm.1
    show V.int (1 + m) = V.int 2
    rw [← e]; rfl
theorem ok_P_tally_over {f : Addr} {fd : FuncData} (F : Fun K "tally_over" "tally_over" s_P_tally_over f fd) (m_self : mg "tally_over" = some (.ref f)) (m_sum : mg "sum" = none)
    (O_Bid : Own K mg "Bid" c_Bid [])
    (O_Only : Own K mg "Only" c_Only ["bundle", "amount"])
    (O_SoMany : Own K mg "SoMany" c_SoMany ["kind", "least", "amount"])
    (O_UpTo : Own K mg "UpTo" c_UpTo ["kind", "most", "each"])
    (O_Several : Own K mg "Several" c_Several ["bids"])
    (O_AnyOf : Own K mg "AnyOf" c_AnyOf ["bids"])
    (hT_tally_s : ∀ C sp, T_tally_s K c_Bid c_Only c_SoMany c_UpTo c_Several c_AnyOf C sp → ∃ ps, MethD P w K mg base 1 C "tally" ps sp) : DefOk P w K mg base 2 "tally_over" ["bids"] [] (sp_P_tally_over K c_Bid c_Only c_SoMany c_UpTo c_Several c_AnyOf) := by
  refine F.def_okQ m_self (bnd1 F fun _ _ _ _ _ _ _ => rfl) sc_P_tally_over (fun vs H Q E h => ?_) (fun cdv A outer s H vs Q E hr h => ?_)
  · obtain ⟨l, bs, fs, rfl, _⟩ := h; rfl
  obtain ⟨l, bs, fs, rfl, hl, hB, few, q⟩ := h
  refine ⟨_, (R.pss_one (R.ps_ret (R.pe_op op_add R.pe_int (R.pe_cB (call_sumL rfl) rfl m_sum (boot_sum) (R.pa_c (R.pe_comp (defScope s_P_tally_over) ["bids"] ["bid"] [] [] rfl rfl rfl ⟨s.heap.objs.size + 1, rfl⟩ rfl rfl (by decide +kernel) (R.pi_list (R.pv 0)) (fun C s2 H2 fp => (R.pg_name (i := 0) (show List.Nodup (["bid"] : List Str) from by decide +kernel) rfl (Or.inl rfl))) (fun C s2 H2 fp => R.pf_nil) (fun C s2 H2 fp => (R.pe_methV0 (R.pv 0) hT_tally_s hr (by decide)))) R.pa_nil))))), ?_⟩
  refine ⟨_, rfl, l, rfl, ⟨_, SqL.of hl⟩, fun l2 h2 => ?_⟩
  refine comp_lst1 (xs := bs.map V.ref) (fun k H' => Same H H' ∧ H' l2 = some (.lst (((List.range k).map fun _ => (1 : Int)).map V.int))) ⟨same_new h2 _, upd_same⟩ (fun k H' _ ⟨s, _⟩ => SqL.of (s _ _ hl)) ?_ ?_
  · rintro k v H1 hv ⟨s1, e1⟩ K1 K0 k1 k0
    obtain ⟨b, f, rfl, hb, hf, ok, ib⟩ := (hB.same s1).at hv
    obtain ⟨C, dx, ff, sp, g1, g2, g3, g4⟩ := askT K (c_Several := c_Several) (c_AnyOf := c_AnyOf) ib
    have hk := (List.getElem?_eq_some_iff.mp hb).1
    refine ⟨_, rfl, b, C, dx, ff, sp, rfl, g1, g2, g3, g4 _ (k1 _ _ _ e1 ?_ ⟨s1.upd h2 _, ?_⟩)⟩
    · rw [List.length_map, List.length_map, List.length_range]; exact small1000 (by omega)
    · rw [upd_same, List.range_succ, List.map_append, List.map_append]; rfl
  · rintro H1 ⟨s1, e1⟩
    refine ⟨l2, _, rfl, SqL.of e1, _, _, rfl, rfl, ?_⟩
    rw [ones_sum, List.length_map]
    exact q H1 s1
theorem ok_P_check_bids {f : Addr} {fd : FuncData} (F : Fun K "check_bids" "check_bids" s_P_check_bids f fd) (m_self : mg "check_bids" = some (.ref f)) (m_isinstance : mg "isinstance" = none) (m_list : mg "list" = none)
    (D_P_depth_over : DefOk P w K mg base 2 "depth_over" ["bids"] [] (sp_P_depth_over K c_Bid c_Only c_SoMany c_UpTo c_Several c_AnyOf))
    (D_P_tally_over : DefOk P w K mg base 2 "tally_over" ["bids"] [] (sp_P_tally_over K c_Bid c_Only c_SoMany c_UpTo c_Several c_AnyOf))
    (O_Bid : Own K mg "Bid" c_Bid [])
    (O_Only : Own K mg "Only" c_Only ["bundle", "amount"])
    (O_SoMany : Own K mg "SoMany" c_SoMany ["kind", "least", "amount"])
    (O_UpTo : Own K mg "UpTo" c_UpTo ["kind", "most", "each"])
    (O_Several : Own K mg "Several" c_Several ["bids"])
    (O_AnyOf : Own K mg "AnyOf" c_AnyOf ["bids"])
    (kit_Bid_Bid : PySem.W.kitOne K (.ref c_Bid) (.ref c_Bid) = some true)
    (kit_Only_Bid : PySem.W.kitOne K (.ref c_Only) (.ref c_Bid) = some true)
    (kit_SoMany_Bid : PySem.W.kitOne K (.ref c_SoMany) (.ref c_Bid) = some true)
    (kit_UpTo_Bid : PySem.W.kitOne K (.ref c_UpTo) (.ref c_Bid) = some true)
    (kit_Several_Bid : PySem.W.kitOne K (.ref c_Several) (.ref c_Bid) = some true)
    (kit_AnyOf_Bid : PySem.W.kitOne K (.ref c_AnyOf) (.ref c_Bid) = some true) : DefOk P w K mg base 3 "check_bids" ["bids"] [] (sp_P_check_bids K c_Bid c_Only c_SoMany c_UpTo c_Several c_AnyOf) := by
  have isB : ∀ {H : Hp} {b : Addr} {f : Form}, IsBid c_Bid c_Only c_SoMany c_UpTo H b f → ∃ t, TyOf K H (.ref b) t ∧ PySem.W.kitOne K t (.ref c_Bid) = some true := fun {H b f} hb => by
    cases f <;> obtain ⟨dx, e⟩ := hb
    · exact ⟨_, O_Bid.ty e, kit_Bid_Bid⟩
    · exact ⟨_, O_Only.ty e, kit_Only_Bid⟩
    · exact ⟨_, O_SoMany.ty e, kit_SoMany_Bid⟩
    · exact ⟨_, O_UpTo.ty e, kit_UpTo_Bid⟩
  refine F.def_okQ m_self (bnd1 F fun _ _ _ _ _ _ _ => rfl) sc_P_check_bids (fun vs H Q E h => ?_) (fun cdv A outer s H vs Q E hr h => ?_)
  · obtain ⟨l, bs, fs, rfl, _⟩ := h; rfl
  obtain ⟨l, bs, fs, rfl, hl, hB, few, q⟩ := h
  refine ⟨_, (R.pss_cons (R.ps_if (R.pt_not (R.pt_val (R.pe_isi .lst rfl m_isinstance rfl m_list (R.pv 0)))) (R.pss_one R.ps_never) R.pss_nil)
    (R.pss_cons (R.ps_for PassesOwn.never rfl (R.pi_list (R.pv 0)) (R.pg_name (i := 1) sc_P_check_bids.nd rfl (Or.inl rfl)) (R.pss_one (R.ps_if (R.pt_not (R.pt_val (R.pe_isOwn rfl m_isinstance rfl O_Bid.at_ (R.pv 1)))) (R.pss_one R.ps_never) R.pss_nil)))
    (R.pss_cons (R.ps_if (R.pt_cmpR op_gt (R.pe_callD D_P_depth_over hr (by decide) rfl (R.pa_c (R.pv 0) R.pa_nil)) R.pe_int (nomark _)) (R.pss_one R.ps_never) R.pss_nil)
    (R.pss_one (R.ps_if (R.pt_cmpR op_gt (R.pe_callD D_P_tally_over hr (by decide) rfl (R.pa_c (R.pv 0) R.pa_nil)) R.pe_int (nomark _)) (R.pss_one R.ps_never) R.pss_nil))))), ?_⟩
  refine ⟨_, rfl, _, .lst, rfl, TyOf.lst hl, _, rfl, iteF ?_⟩
  refine ⟨_, rfl, l, rfl, ⟨_, SqL.of hl⟩, ?_⟩
  refine for_list (xs := bs.map V.ref) (fun i σ H' => H' = H ∧ ∃ y, σ = [some (.ref l), y]) ?_ ?_ ?_ ?_
  · exact ⟨rfl, _, rfl⟩
  · rintro i σ H' _ ⟨rfl, _⟩; exact SqL.of hl
  · rintro i v σ H' hv ⟨rfl, y, rfl⟩
    obtain ⟨b, f, rfl, hb, hf, ok, ib⟩ := hB.at hv
    obtain ⟨t, ht, hk⟩ := isB ib
    exact ⟨_, rfl, _, t, true, rfl, ht, hk, _, rfl, iteF ⟨rfl, _, rfl⟩⟩
  · rintro σ H' ⟨rfl, y, rfl⟩
    refine ⟨_, rfl, l, bs, fs, rfl, hl, hB, by omega, fun d H1 hd s1 => ⟨_, _, rfl, rfl, _, rfl, ?_⟩⟩
    rw [decide_eq_false (show ¬ (4 : Int) < d by omega)]
    refine iteF ?_
    refine ⟨_, rfl, l, bs, fs, rfl, s1 _ _ hl, hB.same s1, by omega, fun H2 s2 => ⟨_, _, rfl, rfl, _, rfl, ?_⟩⟩
    rw [decide_eq_false (show ¬ (24 : Int) < 1 + (bs.length : Int) by omega)]
    exact iteF (q _ (s1.trans s2))
theorem ok_M_Several___init__ {f : Addr} {fd : FuncData} (F : Fun K "__init__" "Several.__init__" s_M_Several___init__ f fd) (m_list : mg "list" = none)
    (D_P_check_bids : DefOk P w K mg base 3 "check_bids" ["bids"] [] (sp_P_check_bids K c_Bid c_Only c_SoMany c_UpTo c_Several c_AnyOf))
    (O_Bid : Own K mg "Bid" c_Bid [])
    (O_Only : Own K mg "Only" c_Only ["bundle", "amount"])
    (O_SoMany : Own K mg "SoMany" c_SoMany ["kind", "least", "amount"])
    (O_UpTo : Own K mg "UpTo" c_UpTo ["kind", "most", "each"])
    (O_Several : Own K mg "Several" c_Several ["bids"])
    (O_AnyOf : Own K mg "AnyOf" c_AnyOf ["bids"]) : FnOk P w K mg base CX0 4 f fd ["self", "bids"] (sp_M_Several___init__ K c_AnyOf c_Bid c_Only c_SoMany c_UpTo c_Several c_AnyOf) := by
  refine F.okQ sc_M_Several___init__ (fun vs H Q E h => ?_) (fun cdv A outer s H vs Q E hr h => ?_)
  · obtain ⟨a, dx, l, bs, fs, rfl, _⟩ := h; rfl
  obtain ⟨a, dx, l, bs, fs, rfl, ha, hl, hB, few, q⟩ := h
  refine ⟨_, (R.pss_cons (R.ps_expr (R.pe_callD D_P_check_bids hr (by decide) rfl (R.pa_c (R.pv 1) R.pa_nil)))
    (R.pss_one (R.ps_fld (R.pv 0) (R.pe_cTy call_list_of rfl m_list (boot_list) (R.pa_c (R.pv 1) R.pa_nil))))), ?_⟩
  refine ⟨_, rfl, l, bs, fs, rfl, hl, hB, few, fun H1 s1 => ?_⟩
  refine ⟨_, rfl, l, _, rfl, .inl (SqL.of (s1 _ _ hl)), fun lb hb => ?_⟩
  have hab : a ≠ lb := ne_of_none (s1 _ _ ha) hb
  exact ⟨_, rfl, a, c_AnyOf, dx, [], rfl, by rw [upd_ne hab]; exact s1 _ _ ha, O_AnyOf.cls, O_AnyOf.no _ (mem_at 0 rfl), by decide, q H1 lb s1 hb⟩
theorem ok_P_best_share {f : Addr} {fd : FuncData} (F : Fun K "best_share" "best_share" s_P_best_share f fd) (m_self : mg "best_share" = some (.ref f)) (m_max : mg "max" = none)
    (D_P_parts_of : DefOk P w K mg base 3 "parts_of" ["bundle"] [] (sp_P_parts_of K)) : DefOk P w K mg base 4 "best_share" ["one", "other", "bundle"] [] (sp_P_best_share K) := by
  refine F.def_okQ m_self (bnd3 F fun _ _ _ _ _ _ _ _ _ => rfl) sc_P_best_share (fun vs H Q E h => ?_) (fun cdv A outer s H vs Q E hr h => ?_)
  · obtain ⟨a, b, g, h, n, x, rfl, _⟩ := h; rfl
  obtain ⟨a, b, g, h, n, x, rfl, hn, hx, hg, hh, ha, hb, q⟩ := h
  obtain ⟨f1, f2⟩ := pow6 hn
  have x64 : x < 64 := by omega
  obtain ⟨p0, p64⟩ := subs_len x x64
  have pe := parts_subs x x64
  refine ⟨_, (R.pss_one (R.ps_ret (R.pe_cB (call_maxL rfl) rfl m_max (boot_max) (R.pa_c (R.pe_comp (defScope s_P_best_share) ["one", "other", "bundle"] ["part"] ["one", "other", "bundle"] [0, 1, 2] rfl rfl rfl ⟨s.heap.objs.size + 1, rfl⟩ rfl rfl (by decide +kernel) (R.pi_list (R.pe_callD D_P_parts_of hr (by decide) rfl (R.pa_c (R.pv 2) R.pa_nil))) (fun C s2 H2 fp => (R.pg_name (i := 0) (show List.Nodup (["part", "one", "other", "bundle"] : List Str) from by decide +kernel) rfl (Or.inl rfl))) (fun C s2 H2 fp => R.pf_nil) (fun C s2 H2 fp => (R.pe_op op_add (R.pe_ix (R.ixL K) (R.pv 1) (R.pv 0) (fun _ _ => rfl)) (R.pe_ix (R.ixL K) (R.pv 2) (R.pe_op (opE0 op_sub) (R.pv 3) (R.pv 0)) (fun _ _ => rfl))))) R.pa_nil)))), ?_⟩
  refine ⟨_, rfl, x, rfl, x64, fun l H1 s1 hl e1 => ⟨l, rfl, ⟨_, SqL.of e1⟩, fun l2 h2 => ?_⟩⟩
  refine comp_lst_map nv (partsOf x) (fun _ => true) (fun p => .int (g p + h (x - p))) (SqL.of e1) (by rw [pe]; omega) h2 ?_ ?_ ?_
  · intro p hp H2 s2 C hC; exact hC _ (Same.refl _)
  · intro p hp _ H2 s2 C hC
    rw [pe] at hp
    have hp' := subs_mem.mp hp
    have ple : p ≤ x := by rw [← hp']; exact Nat.and_le_left
    have S2 := s1.trans s2
    refine ⟨_, rfl, _, rfl, a, _, _, _, rfl, rfl, S2.seq ha, tab_getD (by omega), _, rfl, _, rfl, _, rfl, _, _, nv (x - p), rfl, rfl, ?_, b, _, _, _, rfl, rfl, S2.seq hb, tab_getD (by omega), _, _, rfl, rfl, hC _ (Same.refl _)⟩
    show V.int ((x : Int) - (p : Int)) = V.int ((x - p : Nat) : Int)
    congr 1; omega
  · intro H2 s2 e2
    refine ⟨l2, (partsOf x).map (fun p => g p + h (x - p)), rfl, SqL.of ?_, ?_, fun m hm => ?_⟩
    · rw [e2, List.map_map, List.filter_eq_self.mpr (fun _ _ => rfl)]; rfl
    · rw [List.length_map, pe]; exact p0
    · rw [pe] at hm
      have em : m = conv g h x := top_isMax (fun z hz => by
        obtain ⟨p, hp, rfl⟩ := List.mem_map.mp hz
        exact part_nonneg hg hh x64 (subs_mem.mp hp)) hm
      rw [em]
      exact q _ (s1.trans s2)
theorem ok_P_shared_out {f : Addr} {fd : FuncData} (F : Fun K "shared_out" "shared_out" s_P_shared_out f fd) (m_self : mg "shared_out" = some (.ref f)) (m_range : mg "range" = none) (m_len : mg "len" = none)
    (D_P_best_share : DefOk P w K mg base 4 "best_share" ["one", "other", "bundle"] [] (sp_P_best_share K)) : DefOk P w K mg base 5 "shared_out" ["one", "other"] [] (sp_P_shared_out K) := by
  refine F.def_okQ m_self (bnd2 F fun _ _ _ _ _ _ _ _ => rfl) sc_P_shared_out (fun vs H Q E h => ?_) (fun cdv A outer s H vs Q E hr h => ?_)
  · obtain ⟨a, b, g, h, n, rfl, _⟩ := h; rfl
  obtain ⟨a, b, g, h, n, rfl, hn, hg, hh, ha, hb, q⟩ := h
  obtain ⟨f1, f2⟩ := pow6 hn
  have ln : ((tab g n).map V.int).length = 2 ^ n := by rw [List.length_map, tab_len]
  refine ⟨_, (R.pss_one (R.ps_ret (R.pe_comp (defScope s_P_shared_out) ["one", "other"] ["bundle"] ["one", "other"] [0, 1] rfl rfl rfl ⟨s.heap.objs.size + 1, rfl⟩ rfl rfl (by decide +kernel) (R.pi_range1 rfl m_range (R.pa_c (R.pe_cB call_len_seq rfl m_len PySem.boot_len (R.pa_c (R.pv 0) R.pa_nil)) R.pa_nil)) (fun C s2 H2 fp => (R.pg_name (i := 0) (show List.Nodup (["bundle", "one", "other"] : List Str) from by decide +kernel) rfl (Or.inl rfl))) (fun C s2 H2 fp => R.pf_nil) (fun C s2 H2 fp => (R.pe_callD D_P_best_share hr (by decide) rfl (R.pa_c (R.pv 1) (R.pa_c (R.pv 2) (R.pa_c (R.pv 0) R.pa_nil)))))))), ?_⟩
  refine ⟨_, rfl, a, _, rfl, .inl ha, _, rfl, by omega, by omega, fun l hl => ?_⟩
  rw [Int.toNat_natCast, ln]
  refine comp_rng_map (n := 2 ^ n) (fun _ => true) (fun x => V.int (conv g h x)) (by omega) hl ?_ ?_ ?_
  · intro x H1 hx s1 C hC; exact hC _ (Same.refl _)
  · intro x H1 hx _ s1 C hC
    rw [Int.zero_add]
    exact ⟨_, rfl, _, rfl, _, rfl, a, b, g, h, n, x, rfl, hn, hx, hg, hh, s1.seq ha, s1.seq hb, fun H2 s2 => hC _ s2⟩
  · intro H1 s1 e1
    refine q l H1 s1 hl ?_
    rw [e1, List.filter_eq_self.mpr (fun _ _ => rfl)]
    unfold tab
    rw [List.map_map]; rfl
theorem ok_M_AnyOf_worths {f : Addr} {fd : FuncData} (F : Fun K "worths" "AnyOf.worths" s_M_AnyOf_worths f fd)
    (D_P_worths_of_nothing : DefOk P w K mg base 1 "worths_of_nothing" ["many"] [] (sp_P_worths_of_nothing K))
    (D_P_shared_out : DefOk P w K mg base 5 "shared_out" ["one", "other"] [] (sp_P_shared_out K))
    (O_Bid : Own K mg "Bid" c_Bid [])
    (O_Only : Own K mg "Only" c_Only ["bundle", "amount"])
    (O_SoMany : Own K mg "SoMany" c_SoMany ["kind", "least", "amount"])
    (O_UpTo : Own K mg "UpTo" c_UpTo ["kind", "most", "each"])
    (O_Several : Own K mg "Several" c_Several ["bids"])
    (O_AnyOf : Own K mg "AnyOf" c_AnyOf ["bids"])
    (hT_worths_s : ∀ C sp, T_worths_s K c_Bid c_Only c_SoMany c_UpTo c_Several c_AnyOf C sp → ∃ ps, MethD P w K mg base 4 C "worths" ps sp) : FnOk P w K mg base CX0 6 f fd ["self", "many"] (sp_M_AnyOf_worths K c_AnyOf c_Bid c_Only c_SoMany c_UpTo c_Several c_AnyOf) := by
  refine F.okQ sc_M_AnyOf_worths (fun vs H Q E h => ?_) (fun cdv A outer s H vs Q E hr h => ?_)
  · obtain ⟨a, n, fs, rfl, _⟩ := h; rfl
  obtain ⟨a, n, fs, rfl, hn, hO, q⟩ := h
  refine ⟨_, (R.pss_cons (R.ps_set (i := 2) sc_M_AnyOf_worths.nd rfl (Or.inl rfl) (R.pe_callD D_P_worths_of_nothing hr (by decide) rfl (R.pa_c (R.pv 1) R.pa_nil)))
    (R.pss_cons (R.ps_for PassesOwn.never rfl (R.pi_list (R.pe_fld K (R.pv 0))) (R.pg_name (i := 3) sc_M_AnyOf_worths.nd rfl (Or.inl rfl)) (R.pss_one (R.ps_set (i := 2) sc_M_AnyOf_worths.nd rfl (Or.inl rfl) (R.pe_callD D_P_shared_out hr (by decide) rfl (R.pa_c (R.pv 2) (R.pa_c (R.pe_methV (R.pv 3) hT_worths_s hr (by decide) (R.pa_c (R.pv 1) R.pa_nil)) R.pa_nil))))))
    (R.pss_one (R.ps_ret (R.pv 2))))), ?_⟩
  obtain ⟨dx, lb, bs, e1, e2, hB⟩ := hO
  obtain ⟨f1, f2⟩ := pow6 hn
  have okf : ∀ f ∈ fs, FormOk f := fun f hf => by
    obtain ⟨i, hi, rfl⟩ := List.mem_iff_getElem.mp hf
    have hi' : i < bs.length := by rw [hB.1]; exact hi
    exact (hB.2 i _ _ (List.getElem?_eq_getElem hi') (List.getElem?_eq_getElem hi)).1
  refine ⟨_, rfl, n, rfl, hn, fun l0 H1 s1 h0 w1 => ?_⟩
  refine ⟨_, rfl, a, c_AnyOf, dx, _, .ref lb, rfl, s1 _ _ e1, O_AnyOf.cls, O_AnyOf.no _ (mem_at 0 rfl), rfl, lb, rfl, ⟨_, SqL.of (s1 _ _ e2)⟩, ?_⟩
  refine for_list (xs := bs.map V.ref) (fun i σ H' => Same H H' ∧ ∃ l y, H l = none ∧ H' l = some (.lst ((tab (best (fs.take i)) n).map V.int)) ∧ σ = [some (.ref a), some (nv n), some (.ref l), y]) ?_ ?_ ?_ ?_
  · exact ⟨s1, l0, none, h0, w1, rfl⟩
  · rintro i σ H' _ ⟨s', _⟩; exact SqL.of (s' _ _ e2)
  · rintro i v σ H2 hv ⟨s2, l, y, hl, el, rfl⟩
    obtain ⟨b, f, rfl, hb, hf, ok, ib⟩ := (hB.same s2).at hv
    obtain ⟨C, dx', ff, sp, g1, g2, g3, g4⟩ := askW K (c_Several := c_Several) (c_AnyOf := c_AnyOf) hn ok ib
    refine ⟨_, rfl, _, rfl, b, C, dx', ff, sp, rfl, g1, g2, g3, _, rfl, g4 _ fun l3 H3 s3 h3 w3 => ?_⟩
    refine ⟨l, l3, best (fs.take i), worthF f, n, rfl, hn, best_good fun f hf => okf f (List.mem_of_mem_take hf), worthF_good ok, SqL.of (s3 _ _ el), SqL.of w3, fun l4 H4 s4 h4 w4 => ?_⟩
    refine ⟨(s2.trans s3).trans s4, l4, some (.ref b), (s2.trans s3).free h4, ?_, rfl⟩
    rw [List.take_succ, hf]
    show H4 l4 = some (.lst ((tab (best (fs.take i ++ [f])) n).map V.int))
    rw [best_snoc]; exact w4
  · rintro σ H2 ⟨s2, l, y, hl, el, rfl⟩
    rw [List.length_map, hB.1, List.take_length] at el
    exact ⟨_, rfl, q l H2 s2 hl el⟩
end
end My


set_option Elab.async false
set_option linter.all false
set_option maxRecDepth 100000
set_option maxHeartbeats 4000000
namespace My
open PySem PySem.Spec PyProof.Rows L2 GM
section
variable {P : Program} {w : World} {K : PySem.W.Frag} {mg : Str → Option Value} {base : Heap}
variable {c_Bid c_Only c_SoMany c_UpTo c_Several c_AnyOf : Addr}
theorem shr_bit (b k : Nat) : decide (V.int ((b / 2 ^ k &&& 1 : Nat) : Int) = V.int 1) = b.testBit k := by
  have e : decide (V.int ((b / 2 ^ k &&& 1 : Nat) : Int) = V.int 1) = decide (b / 2 ^ k &&& 1 = 1) := int_eq_nat (b := 1)
  rw [e, Nat.and_one_is_mod, Nat.testBit_eq_decide_div_mod_eq]
theorem lt10 : ∀ z < 10, z = 0 ∨ z = 1 ∨ z = 2 ∨ z = 3 ∨ z = 4 ∨ z = 5 ∨ z = 6 ∨ z = 7 ∨ z = 8 ∨ z = 9 := by decide
theorem ok_L_sizes {f : Addr} {fd : FuncData} (F : Fun K "_law_sizes" "_law_sizes" s_L_sizes f fd) (m_self : mg "_law_sizes" = some (.ref f)) : DefOk P w K mg base 1 "_law_sizes" ["_law_cell_here"] [] (sp_L_sizes K) := by
  refine F.def_okQ m_self (bnd1 F fun _ _ _ _ _ _ _ => rfl) sc_L_sizes (fun vs H Q E h => ?_) (fun cdv A outer s H vs Q E hr h => ?_)
  · obtain ⟨c, rfl, _⟩ := h; rfl
  obtain ⟨c, rfl, q⟩ := h
  refine ⟨_, (R.pss_one (R.ps_ret (R.pe_ix (R.ixL K) (R.pe_lst (R.pa_c (R.pe_tup (R.pa_c R.pe_int (R.pa_c R.pe_int R.pa_nil))) (R.pa_c (R.pe_tup (R.pa_c R.pe_int (R.pa_c R.pe_int R.pa_nil))) (R.pa_c (R.pe_tup (R.pa_c R.pe_int (R.pa_c R.pe_int R.pa_nil))) (R.pa_c (R.pe_tup (R.pa_c R.pe_int (R.pa_c R.pe_int R.pa_nil))) (R.pa_c (R.pe_tup (R.pa_c R.pe_int (R.pa_c R.pe_int R.pa_nil))) (R.pa_c (R.pe_tup (R.pa_c R.pe_int (R.pa_c R.pe_int R.pa_nil))) (R.pa_c (R.pe_tup (R.pa_c R.pe_int (R.pa_c R.pe_int R.pa_nil))) (R.pa_c (R.pe_tup (R.pa_c R.pe_int (R.pa_c R.pe_int R.pa_nil))) (R.pa_c (R.pe_tup (R.pa_c R.pe_int (R.pa_c R.pe_int R.pa_nil))) (R.pa_c (R.pe_tup (R.pa_c R.pe_int (R.pa_c R.pe_int R.pa_nil))) R.pa_nil))))))))))) (R.pe_op (opE op_mod) (R.pv 0) R.pe_int) (fun _ _ => rfl)))), ?_⟩
  obtain ⟨z, ez, hz⟩ := mod_nat c 10 (by decide)
  refine ⟨(by show 2 ≤ sizeLine; decide), fun p0 h0 => ?_⟩
  have s0 := same_new h0 (.tup [V.int 0, V.int 3])
  have e0 : upd H p0 (.tup [V.int 0, V.int 3]) p0 = some (.tup [V.int 0, V.int 3]) := upd_same
  generalize upd H p0 (.tup [V.int 0, V.int 3]) = H0 at s0 e0 ⊢
  refine ⟨(by show 2 ≤ sizeLine; decide), fun p1 h1 => ?_⟩
  have s1 := same_new h1 (.tup [V.int 1, V.int 5])
  have e1 : upd H0 p1 (.tup [V.int 1, V.int 5]) p1 = some (.tup [V.int 1, V.int 5]) := upd_same
  generalize upd H0 p1 (.tup [V.int 1, V.int 5]) = H1 at s1 e1 ⊢
  refine ⟨(by show 2 ≤ sizeLine; decide), fun p2 h2 => ?_⟩
  have s2 := same_new h2 (.tup [V.int 2, V.int 5])
  have e2 : upd H1 p2 (.tup [V.int 2, V.int 5]) p2 = some (.tup [V.int 2, V.int 5]) := upd_same
  generalize upd H1 p2 (.tup [V.int 2, V.int 5]) = H2 at s2 e2 ⊢
  refine ⟨(by show 2 ≤ sizeLine; decide), fun p3 h3 => ?_⟩
  have s3 := same_new h3 (.tup [V.int 3, V.int 4])
  have e3 : upd H2 p3 (.tup [V.int 3, V.int 4]) p3 = some (.tup [V.int 3, V.int 4]) := upd_same
  generalize upd H2 p3 (.tup [V.int 3, V.int 4]) = H3 at s3 e3 ⊢
  refine ⟨(by show 2 ≤ sizeLine; decide), fun p4 h4 => ?_⟩
  have s4 := same_new h4 (.tup [V.int 4, V.int 3])
  have e4 : upd H3 p4 (.tup [V.int 4, V.int 3]) p4 = some (.tup [V.int 4, V.int 3]) := upd_same
  generalize upd H3 p4 (.tup [V.int 4, V.int 3]) = H4 at s4 e4 ⊢
  refine ⟨(by show 2 ≤ sizeLine; decide), fun p5 h5 => ?_⟩
  have s5 := same_new h5 (.tup [V.int 6, V.int 3])
  have e5 : upd H4 p5 (.tup [V.int 6, V.int 3]) p5 = some (.tup [V.int 6, V.int 3]) := upd_same
  generalize upd H4 p5 (.tup [V.int 6, V.int 3]) = H5 at s5 e5 ⊢
  refine ⟨(by show 2 ≤ sizeLine; decide), fun p6 h6 => ?_⟩
  have s6 := same_new h6 (.tup [V.int 23, V.int 1])
  have e6 : upd H5 p6 (.tup [V.int 23, V.int 1]) p6 = some (.tup [V.int 23, V.int 1]) := upd_same
  generalize upd H5 p6 (.tup [V.int 23, V.int 1]) = H6 at s6 e6 ⊢
  refine ⟨(by show 2 ≤ sizeLine; decide), fun p7 h7 => ?_⟩
  have s7 := same_new h7 (.tup [V.int 12, V.int 2])
  have e7 : upd H6 p7 (.tup [V.int 12, V.int 2]) p7 = some (.tup [V.int 12, V.int 2]) := upd_same
  generalize upd H6 p7 (.tup [V.int 12, V.int 2]) = H7 at s7 e7 ⊢
  refine ⟨(by show 2 ≤ sizeLine; decide), fun p8 h8 => ?_⟩
  have s8 := same_new h8 (.tup [V.int 2, V.int 6])
  have e8 : upd H7 p8 (.tup [V.int 2, V.int 6]) p8 = some (.tup [V.int 2, V.int 6]) := upd_same
  generalize upd H7 p8 (.tup [V.int 2, V.int 6]) = H8 at s8 e8 ⊢
  refine ⟨(by show 2 ≤ sizeLine; decide), fun p9 h9 => ?_⟩
  have s9 := same_new h9 (.tup [V.int 5, V.int 3])
  have e9 : upd H8 p9 (.tup [V.int 5, V.int 3]) p9 = some (.tup [V.int 5, V.int 3]) := upd_same
  generalize upd H8 p9 (.tup [V.int 5, V.int 3]) = H9 at s9 e9 ⊢
  refine ⟨(by show 10 ≤ sizeLine; decide), fun l hl => ?_⟩
  have sl := same_new hl (.lst [V.ref p0, V.ref p1, V.ref p2, V.ref p3, V.ref p4, V.ref p5, V.ref p6, V.ref p7, V.ref p8, V.ref p9])
  have r9 := sl _ _ e9
  have S9 := s9.trans sl
  have r8 := S9 _ _ e8
  have S8 := s8.trans S9
  have r7 := S8 _ _ e7
  have S7 := s7.trans S8
  have r6 := S7 _ _ e6
  have S6 := s6.trans S7
  have r5 := S6 _ _ e5
  have S5 := s5.trans S6
  have r4 := S5 _ _ e4
  have S4 := s4.trans S5
  have r3 := S4 _ _ e3
  have S3 := s3.trans S4
  have r2 := S3 _ _ e2
  have S2 := s2.trans S3
  have r1 := S2 _ _ e1
  have S1 := s1.trans S2
  have r0 := S1 _ _ e0
  have S0 := s0.trans S1
  obtain ⟨p, m, n, ew, ep, b1, b2, b3, b4⟩ : ∃ (p : Addr) (m n : Nat), atI [V.ref p0, V.ref p1, V.ref p2, V.ref p3, V.ref p4, V.ref p5, V.ref p6, V.ref p7, V.ref p8, V.ref p9] (z : Int) = some (.ref p) ∧ upd H9 l (.lst [V.ref p0, V.ref p1, V.ref p2, V.ref p3, V.ref p4, V.ref p5, V.ref p6, V.ref p7, V.ref p8, V.ref p9]) p = some (.tup [nv m, nv n]) ∧ m ≤ 23 ∧ 1 ≤ n ∧ n ≤ 6 ∧ m ^ n ≤ 216 := by
    rcases lt10 z hz with e | e | e | e | e | e | e | e | e | e <;> subst e
    · exact ⟨p0, 0, 3, rfl, r0, by decide, by decide, by decide, by decide⟩
    · exact ⟨p1, 1, 5, rfl, r1, by decide, by decide, by decide, by decide⟩
    · exact ⟨p2, 2, 5, rfl, r2, by decide, by decide, by decide, by decide⟩
    · exact ⟨p3, 3, 4, rfl, r3, by decide, by decide, by decide, by decide⟩
    · exact ⟨p4, 4, 3, rfl, r4, by decide, by decide, by decide, by decide⟩
    · exact ⟨p5, 6, 3, rfl, r5, by decide, by decide, by decide, by decide⟩
    · exact ⟨p6, 23, 1, rfl, r6, by decide, by decide, by decide, by decide⟩
    · exact ⟨p7, 12, 2, rfl, r7, by decide, by decide, by decide, by decide⟩
    · exact ⟨p8, 2, 6, rfl, r8, by decide, by decide, by decide, by decide⟩
    · exact ⟨p9, 5, 3, rfl, r9, by decide, by decide, by decide, by decide⟩
  exact ⟨_, rfl, _, _, nv z, rfl, rfl, (by show (0 : Int) < 10; decide), congrArg V.int ez, l, _, _, _, rfl, rfl, SqL.of upd_same, ew, q p _ m n S0 ep b1 b2 b3 b4⟩
theorem things_few : ∀ n < 7, ∀ x < 64, x < 2 ^ n → (things x).length ≤ n := by decide +kernel
theorem ways_le {m n i : Nat} (hi : i ≤ n) (h : m ^ n ≤ 216) : m ^ i ≤ 216 := by
  cases m with
  | zero => cases i with
    | zero => decide
    | succ i => rw [Nat.zero_pow (by omega)]; decide
  | succ m => exact Nat.le_trans (Nat.pow_le_pow_right (by omega) hi) h
theorem give_take : ∀ (gs : List (Nat → Int)) (ps : List Nat), gs.length = ps.length → give gs ps = ((gs.zipWith (fun g p => g p) ps)).sum
  | [], [], _ => rfl
  | [], _ :: _, h => by simp at h
  | _ :: _, [], h => by simp at h
  | g :: gs, p :: ps, h => by
    show g p + give gs ps = _
    rw [give_take gs ps (by simpa using h), List.zipWith_cons_cons, List.sum_cons]
theorem getD_get {ps : List Nat} {j : Nat} (h : j < ps.length) : (ps.map nv)[j]? = some (nv (ps.getD j 0)) := by
  rw [List.getElem?_map, List.getElem?_eq_getElem h, List.getD_eq_getElem?_getD, List.getElem?_eq_getElem h]; rfl
theorem ok_L_best {f : Addr} {fd : FuncData} (F : Fun K "_law_best" "_law_best" s_L_best f fd) (m_self : mg "_law_best" = some (.ref f)) (m_range : mg "range" = none) (m_max : mg "max" = none) (m_len : mg "len" = none) (m_divmod : mg "divmod" = none) (m_sum : mg "sum" = none) (m_zip : mg "zip" = none) : DefOk P w K mg base 1 "_law_best" ["_law_tables", "_law_bundle"] [] (sp_L_best K) := by
  refine F.def_okQ m_self (bnd2 F fun _ _ _ _ _ _ _ _ => rfl) sc_L_best (fun vs H Q E h => ?_) (fun cdv A outer s H vs Q E hr h => ?_)
  · obtain ⟨a, ls, gs, n, x, rfl, _⟩ := h; rfl
  obtain ⟨a, ls, gs, n, x, rfl, hn, hx, few, hw, hg, ha, hT, q⟩ := h
  obtain ⟨f1, f2⟩ := pow6 hn
  have x64 : x < 64 := by omega
  have tn := things_few n (by omega) x x64 hx
  have ln : (ls.map V.ref).length = gs.length := by rw [List.length_map, hT.1]
  refine ⟨_, (R.pss_cons (R.ps_compE (i := 2) (defScope s_L_best) ["_law_tables", "_law_bundle", "_law_things", "_law_ways", "_law_thing", "_law_best_here", "_law_number", "_law_left", "_law_shares", "_law_at"] ["_law_k"] ["_law_bundle"] [1] sc_L_best.nd rfl (Or.inl rfl) rfl rfl rfl rfl rfl ⟨s.heap.objs.size + 1, rfl⟩ rfl rfl (by decide +kernel) (R.pi_range1 rfl m_range (R.pa_c R.pe_int R.pa_nil)) (fun C s2 H2 fp => (R.pg_name (i := 0) (show List.Nodup (["_law_k", "_law_bundle"] : List Str) from by decide +kernel) rfl (Or.inl rfl))) (fun C s2 H2 fp => (R.pf_one (R.pt_cmpR op_eq (R.pe_op op_andN (R.pe_op op_shrN (R.pv 1) (R.pv 0)) R.pe_int) R.pe_int (nomark _)))) (fun C s2 H2 fp => (R.pv 0)))
    (R.pss_cons (R.ps_set (i := 3) sc_L_best.nd rfl (Or.inl rfl) R.pe_int)
    (R.pss_cons (R.ps_for PassesOwn.never rfl (R.pi_list (R.pv 2)) (R.pg_name (i := 4) sc_L_best.nd rfl (Or.inl rfl)) (R.pss_one (R.ps_set (i := 3) sc_L_best.nd rfl (Or.inl rfl) (R.pe_op (opE op_mulB) (R.pv 3) (R.pe_cB call_len_seq rfl m_len PySem.boot_len (R.pa_c (R.pv 0) R.pa_nil))))))
    (R.pss_cons (R.ps_set (i := 5) sc_L_best.nd rfl (Or.inl rfl) R.pe_int)
    (R.pss_cons (R.ps_for PassesOwn.never rfl (R.pi_range1 rfl m_range (R.pa_c (R.pv 3) R.pa_nil)) (R.pg_name (i := 6) sc_L_best.nd rfl (Or.inl rfl)) (R.pss_cons (R.ps_set (i := 7) sc_L_best.nd rfl (Or.inl rfl) (R.pv 6))
      (R.pss_cons (R.ps_compE (i := 8) (defScope s_L_best) ["_law_tables", "_law_bundle", "_law_things", "_law_ways", "_law_thing", "_law_best_here", "_law_number", "_law_left", "_law_shares", "_law_at"] ["_law_table"] [] [] sc_L_best.nd rfl (Or.inl rfl) rfl rfl rfl rfl rfl ⟨s.heap.objs.size + 1, rfl⟩ rfl rfl (by decide +kernel) (R.pi_list (R.pv 0)) (fun C s2 H2 fp => (R.pg_name (i := 0) (show List.Nodup (["_law_table"] : List Str) from by decide +kernel) rfl (Or.inl rfl))) (fun C s2 H2 fp => R.pf_nil) (fun C s2 H2 fp => R.pe_int))
      (R.pss_cons (R.ps_for PassesOwn.never rfl (R.pi_list (R.pv 2)) (R.pg_name (i := 4) sc_L_best.nd rfl (Or.inl rfl)) (R.pss_cons (R.ps_asg (R.pe_cB call_divmod rfl m_divmod (boot_divmod) (R.pa_c (R.pv 7) (R.pa_c (R.pe_cB call_len_seq rfl m_len PySem.boot_len (R.pa_c (R.pv 0) R.pa_nil)) R.pa_nil))) (R.pg_tup K 2 rfl (R.pgs_cons (R.pg_name (i := 7) sc_L_best.nd rfl (Or.inl rfl)) (R.pgs_cons (R.pg_name (i := 9) sc_L_best.nd rfl (Or.inl rfl)) R.pgs_nil))))
        (R.pss_one (R.ps_asg (R.pe_op (opE0 op_add) (R.pe_ix (R.ixL K) (R.pv 8) (R.pv 9) (fun _ _ => rfl)) (R.pe_op op_shlN R.pe_int (R.pv 4))) (R.pg_setL (R.pv 8) (R.pv 9))))))
      (R.pss_one (R.ps_set (i := 5) sc_L_best.nd rfl (Or.inl rfl) (R.pe_cB (call_max2 rfl) rfl m_max (boot_max) (R.pa_c (R.pv 5) (R.pa_c (R.pe_cB (call_sumL rfl) rfl m_sum (boot_sum) (R.pa_c (R.pe_comp (defScope s_L_best) ["_law_tables", "_law_bundle", "_law_things", "_law_ways", "_law_thing", "_law_best_here", "_law_number", "_law_left", "_law_shares", "_law_at"] ["_law_table", "_law_share"] [] [] rfl rfl rfl ⟨s.heap.objs.size + 1, rfl⟩ rfl rfl (by decide +kernel) (R.pi_zip rfl m_zip (R.pa_c (R.pv 0) (R.pa_c (R.pv 8) R.pa_nil))) (fun C s2 H2 fp => (R.pg_tup K 2 rfl (R.pgs_cons (R.pg_name (i := 0) (show List.Nodup (["_law_table", "_law_share"] : List Str) from by decide +kernel) rfl (Or.inl rfl)) (R.pgs_cons (R.pg_name (i := 1) (show List.Nodup (["_law_table", "_law_share"] : List Str) from by decide +kernel) rfl (Or.inl rfl)) R.pgs_nil)))) (fun C s2 H2 fp => R.pf_nil) (fun C s2 H2 fp => (R.pe_ix (R.ixL K) (R.pv 0) (R.pv 1) (fun _ _ => rfl)))) R.pa_nil)) R.pa_nil)))))))))
    (R.pss_one (R.ps_ret (R.pv 5)))))))), ?_⟩
  refine ⟨_, rfl, by decide, by decide, fun lt ht => ?_⟩
  refine comp_rng_map (n := 6) (fun k => x.testBit k) (fun k => nv k) (by decide) ht ?_ ?_ ?_
  · intro k H1 hk s1 C hC
    rw [Int.zero_add]
    refine ⟨_, rfl, _, rfl, x, k, rfl, rfl, x / 2 ^ k, 1, rfl, rfl, rfl, ?_⟩
    rw [shr_bit]
    exact ⟨_, rfl, hC _ (Same.refl _)⟩
  · intro k H1 hk _ s1 C hC
    rw [Int.zero_add]
    exact ⟨_, rfl, hC _ (Same.refl _)⟩
  intro H1 s1 e1
  have e1' : H1 lt = some (.lst ((things x).map nv)) := e1
  clear e1
  have ha1 := s1 _ _ ha
  refine ⟨_, rfl, lt, rfl, ⟨_, SqL.of e1'⟩, ?_⟩
  refine for_list (xs := (things x).map nv) (fun i σ H' => H' = H1 ∧ ∃ y, σ = [some (.ref a), some (nv x), some (.ref lt), some (nv (gs.length ^ i)), y, none, none, none, none, none]) ?_ ?_ ?_ ?_
  · exact ⟨rfl, _, rfl⟩
  · rintro i σ H' _ ⟨rfl, _⟩; exact SqL.of e1'
  · rintro i v σ H' hv ⟨rfl, y, rfl⟩
    have hi : i < (things x).length := by
      have := (List.getElem?_eq_some_iff.mp hv).1
      rw [List.length_map] at this; exact this
    have w1 := ways_le (m := gs.length) (i := i) (by omega) hw
    refine ⟨_, rfl, _, rfl, a, _, rfl, .inl (SqL.of ha1), _, _, nv (gs.length ^ (i + 1)), rfl, rfl, mulOk_left (by omega), ?_, rfl, _, rfl⟩
    rw [ln, Nat.pow_succ]
    exact congrArg V.int (Int.natCast_mul _ _).symm
  rintro σ H9 ⟨h9, y, rfl⟩
  have h9' := h9.symm
  subst h9'
  rw [List.length_map]
  have w2 := ways_le (m := gs.length) tn hw
  refine ⟨_, rfl, _, rfl, by omega, by omega, ?_⟩
  rw [Int.toNat_natCast]
  refine for_range (n := gs.length ^ (things x).length) (lo := 0) (fun i σ H' => Same H1 H' ∧ ∃ (m : Int) (y6 y7 y8 y9 y4 : Option V), TopIs (fun k => k < i) (fun k => give gs (deal gs.length (things x) (List.replicate gs.length 0) k)) m ∧ σ = [some (.ref a), some (nv x), some (.ref lt), some (nv (gs.length ^ (things x).length)), y4, some (.int m), y6, y7, y8, y9]) ?_ ?_ ?_
  · exact ⟨Same.refl _, 0, none, none, none, none, y, ⟨Int.le_refl _, fun k hk => absurd hk (Nat.not_lt_zero k), .inl rfl⟩, rfl⟩
  · rintro k σ H2 hk ⟨s2, m, y6, y7, y8, y9, y4, top, rfl⟩
    rw [Int.zero_add]
    have hlen0 : 0 < (things x).length → 0 < gs.length := fun h => by
      rcases Nat.eq_zero_or_pos gs.length with e | e
      · rw [e, Nat.zero_pow h] at hk; exact absurd hk (Nat.not_lt_zero k)
      · exact e
    refine ⟨_, rfl, _, rfl, a, rfl, ⟨_, SqL.of (s2 _ _ ha1)⟩, fun lsh hsh => ?_⟩
    refine comp_lst_map V.ref ls (fun _ => true) (fun _ => nv 0) (SqL.of (s2 _ _ ha1)) (by rw [hT.1]; omega) hsh ?_ ?_ ?_
    · intro z _ H3 s3 C hC; exact hC _ (Same.refl _)
    · intro z _ _ H3 s3 C hC; exact hC _ (Same.refl _)
    intro H3 s3 e3
    have e3' : H3 lsh = some (.lst ((List.replicate gs.length 0).map nv)) := by
      rw [e3, List.filter_eq_self.mpr (fun _ _ => rfl), List.map_const', List.map_replicate, hT.1]
    clear e3
    have s13 := s2.trans s3
    refine ⟨_, rfl, lt, rfl, ⟨_, SqL.of (s13 _ _ e1')⟩, ?_⟩
    refine for_list (xs := (things x).map nv) (fun i σ H' => Same H2 H' ∧ H' lsh = some (.lst ((deal gs.length ((things x).take i) (List.replicate gs.length 0) k).map nv)) ∧ ∃ y4 y9, σ = [some (.ref a), some (nv x), some (.ref lt), some (nv (gs.length ^ (things x).length)), y4, some (.int m), some (nv k), some (nv (left gs.length ((things x).take i) k)), some (.ref lsh), y9]) ?_ ?_ ?_ ?_
    · exact ⟨s3, e3', _, _, rfl⟩
    · rintro i σ H' _ ⟨s', _⟩; exact SqL.of ((s2.trans s') _ _ e1')
    · rintro i v σ H4 hv ⟨s4, e4, y4, y9, rfl⟩
      rw [List.getElem?_map] at hv
      obtain ⟨t, ht', rfl⟩ := Option.map_eq_some_iff.mp hv
      have hi : i < (things x).length := (List.getElem?_eq_some_iff.mp ht').1
      have m0 : 0 < gs.length := hlen0 (by omega)
      have t6 : t < 6 := by
        have := List.mem_of_getElem? ht'
        exact (things_mem.mp this).1
      have ek : (things x).take (i + 1) = (things x).take i ++ [t] := by rw [List.take_succ, ht']; rfl
      have dl := deal_len gs.length ((things x).take i) (List.replicate gs.length 0) k
      rw [List.length_replicate] at dl
      rw [ek, deal_snoc, left_snoc]
      generalize left gs.length ((things x).take i) k = z
      generalize deal gs.length ((things x).take i) (List.replicate gs.length 0) k = ps at e4 dl ⊢
      have zm : z % gs.length < gs.length := Nat.mod_lt _ m0
      refine ⟨_, rfl, _, rfl, a, _, rfl, .inl (SqL.of ((s2.trans s4) _ _ ha1)), _, _, rfl, ⟨by show (0 : Int) < (((ls.map V.ref).length : Nat) : Int); rw [ln]; omega, by show (((ls.map V.ref).length : Nat) : Int) < 1073741824; rw [ln]; omega⟩, fun pt hpt => ?_⟩
      rw [ln]
      refine ⟨pt, _, rfl, SqT.of upd_same, rfl, _, _, rfl, _, _, rfl, rfl, ?_⟩
      have sp := same_new hpt (.tup [.int ((z : Int) / (gs.length : Int)), .int ((z : Int) % (gs.length : Int))])
      have s5 := s4.trans sp
      have e5 := sp _ _ e4
      generalize upd H4 pt (.tup [.int ((z : Int) / (gs.length : Int)), .int ((z : Int) % (gs.length : Int))]) = H5 at sp s5 e5 ⊢
      have em : (z : Int) % (gs.length : Int) = ((z % gs.length : Nat) : Int) := (Int.natCast_emod z gs.length).symm
      have ed : (z : Int) / (gs.length : Int) = ((z / gs.length : Nat) : Int) := (Int.natCast_ediv z gs.length).symm
      rw [em, ed]
      have zp : z % gs.length < ps.length := by rw [dl]; exact zm
      refine ⟨_, rfl, _, rfl, lsh, _, _, nv (ps.getD (z % gs.length) 0), rfl, rfl, SqL.of e5, at_nat (getD_get zp), _, rfl, t, rfl, rfl, by omega, _, _, nv (ps.getD (z % gs.length) 0 + 2 ^ t), rfl, rfl, rfl, _, rfl, _, rfl, lsh, _, _, z % gs.length, rfl, rfl, e5, ?_, ?_⟩
      · unfold ixN
        rw [if_pos (by omega), if_pos (by rw [List.length_map]; omega)]
        rw [Int.toNat_natCast]
      · refine ⟨s5.upd hsh _, ?_, _, _, rfl⟩
        rw [upd_same]; unfold dealOne; rw [List.map_set]
    · rintro σ H4 ⟨s4, e4, y4, y9, rfl⟩
      rw [List.length_map, List.take_length] at e4 ⊢
      have dl := deal_len gs.length (things x) (List.replicate gs.length 0) k
      rw [List.length_replicate] at dl
      have v0 : give gs (deal gs.length (things x) (List.replicate gs.length 0) k) = (gs.zipWith (fun g p => g p) (deal gs.length (things x) (List.replicate gs.length 0) k)).sum := give_take _ _ dl.symm
      have small : ∀ p ∈ deal gs.length (things x) (List.replicate gs.length 0) k, p < 2 ^ n := by
        rcases Nat.eq_zero_or_pos gs.length with e | e
        · intro p hp
          rw [List.length_eq_zero_iff.mp (dl.trans e)] at hp; cases hp
        · have sp := deal_split e (things x) (List.replicate gs.length 0) k 0 x (List.length_replicate ..) (fresh_things x x64) (split_zero _)
          have le : ∀ (ps : List Nat) (y : Nat), Split ps y → ∀ p ∈ ps, p ≤ y := by
            intro ps
            induction ps with
            | nil => intro y _ p hp; cases hp
            | cons r rs ih =>
              intro y hs p hp
              rcases List.mem_cons.mp hp with e | hp
              · rw [e, ← hs.1]; exact Nat.and_le_left
              · have := ih (y - r) hs.2 p hp; omega
          intro p hp
          have := le _ _ sp p hp; omega
      have top' := top.add k (S' := fun k' => k' < k + 1) (fun z => by constructor <;> intro h <;> omega)
      generalize give gs (deal gs.length (things x) (List.replicate gs.length 0) k) = V0 at v0 top'
      generalize deal gs.length (things x) (List.replicate gs.length 0) k = ps at e4 dl v0 small
      have S14 := s2.trans s4
      refine ⟨_, rfl, _, rfl, _, rfl, a, lsh, rfl, ⟨_, SqL.of (S14 _ _ ha1)⟩, ⟨_, SqL.of e4⟩, fun l5 h5 => ?_⟩
      refine comp_zip2 (xs := ls.map V.ref) (ys := ps.map nv) (by rw [ln, List.length_map, dl]) (fun j H' => Same H4 H' ∧ H' l5 = some (.lst (((gs.zipWith (fun g p => g p) ps).take j).map V.int))) ⟨same_new h5 _, upd_same⟩ (fun j H' _ ⟨s, _⟩ => ⟨SqL.of ((S14.trans s) _ _ ha1), SqL.of (s _ _ e4)⟩) ?_ ?_
      · rintro j v u p H6 hv hu ⟨s6, e6⟩ hp K1 K0 k1 k0
        rw [List.getElem?_map] at hv hu
        obtain ⟨la, hla, rfl⟩ := Option.map_eq_some_iff.mp hv
        obtain ⟨pj, hpj, rfl⟩ := Option.map_eq_some_iff.mp hu
        have hj : j < ls.length := (List.getElem?_eq_some_iff.mp hla).1
        have hj' : j < gs.length := by rw [← hT.1]; exact hj
        have tb := hT.2 j la gs[j] hla (List.getElem?_eq_getElem hj')
        have s7 := same_new hp (.tup [V.ref la, nv pj])
        have hz : (gs.zipWith (fun g p => g p) ps)[j]? = some (gs[j] pj) := by rw [List.getElem?_zipWith, List.getElem?_eq_getElem hj', hpj]
        refine ⟨_, rfl, _, rfl, la, _, _, _, rfl, rfl, SqL.of ((s6.trans s7) _ _ ((s1.trans S14) _ _ tb)), tab_getD (small pj (List.mem_of_getElem? hpj)), k1 _ _ _ (s7 _ _ e6) ?_ ⟨(s6.trans s7).upd h5 _, ?_⟩⟩
        · rw [List.length_map, List.length_take]; exact small1000 (by omega)
        · rw [upd_same, List.take_succ, hz, List.map_append]; rfl
      · rintro H6 ⟨s6, e6⟩
        rw [List.take_of_length_le (by rw [List.length_zipWith, ln]; exact Nat.min_le_left _ _), ] at e6
        refine ⟨l5, _, rfl, SqL.of e6, _, _, rfl, ?_⟩
        rw [← v0]
        exact ⟨S14.trans s6, _, _, _, _, _, _, top', rfl⟩
  · rintro σ H2 ⟨s2, m, y6, y7, y8, y9, y4, top, rfl⟩
    rw [TopIs.uniq top (deal_top gs hg x64)]
    exact ⟨_, rfl, q _ (s1.trans s2)⟩
end
end My


set_option Elab.async false
set_option linter.all false
set_option maxRecDepth 100000
set_option maxHeartbeats 4000000
namespace My
open PySem PySem.Spec PyProof.Rows L2 GM
/-! bids for one thing each -/
noncomputable def bitv (B : List Int) (x i : Nat) : Int := if x.testBit i = true then B.getD i 0 else 0
noncomputable def sg (B : List Int) (x : Nat) : Int := ((List.range 6).map (bitv B x)).sum
theorem sum_le {f g : Nat → Int} : ∀ (l : List Nat), (∀ i ∈ l, f i ≤ g i) → (l.map f).sum ≤ (l.map g).sum
  | [], _ => Int.le_refl _
  | i :: l, h => by
    have h1 := h i (List.mem_cons_self ..)
    have h2 := sum_le l fun j hj => h j (List.mem_cons_of_mem _ hj)
    rw [List.map_cons, List.map_cons, List.sum_cons, List.sum_cons]; omega
theorem sum_add {f g : Nat → Int} : ∀ (l : List Nat), (l.map f).sum + (l.map g).sum = (l.map fun i => f i + g i).sum
  | [] => rfl
  | i :: l => by
    have := sum_add (f := f) (g := g) l
    rw [List.map_cons, List.map_cons, List.map_cons, List.sum_cons, List.sum_cons, List.sum_cons]; omega
theorem sum_one (t : Nat) (ht : t < 6) (c : Int) : ((List.range 6).map fun i => if i = t then c else 0).sum = c := by
  rcases (by omega : t = 0 ∨ t = 1 ∨ t = 2 ∨ t = 3 ∨ t = 4 ∨ t = 5) with e | e | e | e | e | e <;> subst e <;> simp [List.range_succ]
theorem sum_nonneg {f : Nat → Int} (l : List Nat) (h : ∀ i ∈ l, 0 ≤ f i) : 0 ≤ (l.map f).sum := by
  have := sum_le (f := fun _ => 0) (g := f) l h
  have z : (l.map fun _ => (0 : Int)).sum = 0 := by
    clear this h
    induction l with
    | nil => rfl
    | cons i l ih => rw [List.map_cons, List.sum_cons, ih]; rfl
  omega
theorem sum_congr {f g : Nat → Int} (l : List Nat) (h : ∀ i ∈ l, f i = g i) : (l.map f).sum = (l.map g).sum := by rw [List.map_congr_left h]
noncomputable def NonNeg (B : List Int) : Prop := ∀ i, 0 ≤ B.getD i 0
noncomputable def grow (B : List Int) (t : Nat) (m : Int) : List Int := B.set t (if m > B.getD t 0 then m else B.getD t 0)
theorem grow_at {B : List Int} {t : Nat} {m : Int} (ht : t < B.length) (i : Nat) : (grow B t m).getD i 0 = if i = t then (if m > B.getD t 0 then m else B.getD t 0) else B.getD i 0 := by
  unfold grow
  rw [List.getD_eq_getElem?_getD]
  by_cases c : i = t
  · subst c
    rw [List.getElem?_set_self ht, if_pos rfl]; rfl
  · rw [List.getElem?_set_ne (Ne.symm c), if_neg c, List.getD_eq_getElem?_getD]
theorem grow_nonneg {B : List Int} {t : Nat} {m : Int} (ht : t < B.length) (h : NonNeg B) : NonNeg (grow B t m) := by
  intro i
  rw [grow_at ht]
  have h1 := h t
  have h2 := h i
  split
  · split <;> omega
  · exact h2
noncomputable def bitF (t : Nat) (m : Int) (x : Nat) : Int := if x.testBit t = true then m else 0
theorem less_bit : ∀ x < 64, ∀ t < 6, x.testBit t = true → x &&& (x - 2 ^ t) = x - 2 ^ t ∧ x - (x - 2 ^ t) = 2 ^ t := by decide +kernel
theorem less_bits : ∀ x < 64, ∀ t < 6, x.testBit t = true → ∀ i < 6, (x - 2 ^ t).testBit i = (x.testBit i && decide (i ≠ t)) := by decide +kernel
theorem conv_plain {B : List Int} {t : Nat} {m : Int} (hB : NonNeg B) (ht : t < B.length) (t6 : t < 6) (hm : 0 ≤ m) : agree (conv (sg B) (bitF t m)) (sg (grow B t m)) := by
  intro x hx
  refine TopIs.uniq (conv_top _ _ x) ⟨sum_nonneg _ fun i _ => ?_, fun p hp => ?_, ?_⟩
  · unfold bitv; split; exact grow_nonneg ht hB i; exact Int.le_refl _
  · have hp' := subs_mem.mpr hp
    have e1 : bitF t m (x - p) = ((List.range 6).map fun i => if i = t then bitF t m (x - p) else 0).sum := (sum_one t t6 _).symm
    show sg B p + bitF t m (x - p) ≤ sg (grow B t m) x
    rw [e1]
    unfold sg
    rw [sum_add]
    refine sum_le _ fun i hi => ?_
    have i6 := List.mem_range.mp hi
    have mb := minus_bits x hx p hp' t t6
    have sb := sub_bits.mp hp i
    have hBi := hB i
    have hBt := hB t
    unfold bitv bitF
    rw [grow_at ht, mb]
    by_cases c : i = t
    · subst c
      rw [if_pos rfl, if_pos rfl]
      cases e2 : p.testBit i with
      | true =>
        rw [sb e2]
        simp only [if_true, Bool.not_true, Bool.and_false, Bool.false_eq_true, if_false]
        split <;> omega
      | false =>
        cases e3 : x.testBit i with
        | true =>
          simp only [if_true, Bool.not_false, Bool.and_true, Bool.false_eq_true, if_false]
          split <;> omega
        | false => simp
    · rw [if_neg c, if_neg c]
      cases e2 : p.testBit i with
      | true => rw [sb e2]; simp
      | false =>
        simp only [Bool.false_eq_true, if_false]
        split <;> omega
  · by_cases c : x.testBit t = true ∧ m > B.getD t 0
    · obtain ⟨c1, c2⟩ := c
      obtain ⟨l1, l2⟩ := less_bit x hx t t6 c1
      refine .inr ⟨x - 2 ^ t, l1, ?_⟩
      show sg B (x - 2 ^ t) + bitF t m (x - (x - 2 ^ t)) = sg (grow B t m) x
      have e0 : bitF t m (x - (x - 2 ^ t)) = m := by
        unfold bitF; rw [l2, Nat.testBit_two_pow_self, if_pos rfl]
      rw [e0]
      have e1 : m = ((List.range 6).map fun i => if i = t then m else 0).sum := (sum_one t t6 m).symm
      unfold sg
      rw [e1, sum_add]
      rw [← e1]
      refine sum_congr _ fun i hi => ?_
      have i6 := List.mem_range.mp hi
      unfold bitv
      rw [grow_at ht, less_bits x hx t t6 c1 i i6]
      by_cases ci : i = t
      · subst ci
        rw [c1, if_pos rfl, if_pos rfl, if_pos c2]; simp
      · rw [if_neg ci, if_neg ci]; simp [ci]
    · refine .inr ⟨x, Nat.and_self x, ?_⟩
      show sg B x + bitF t m (x - x) = sg (grow B t m) x
      have e0 : bitF t m (x - x) = 0 := by unfold bitF; rw [Nat.sub_self, Nat.zero_testBit]; rfl
      rw [e0, Int.add_zero]
      unfold sg
      refine sum_congr _ fun i hi => ?_
      unfold bitv
      rw [grow_at ht]
      by_cases ci : i = t
      · subst ci
        rw [if_pos rfl]
        cases e3 : x.testBit i with
        | true =>
          have : ¬ m > B.getD i 0 := fun h => c ⟨e3, h⟩
          rw [if_neg this]
        | false => simp
      · rw [if_neg ci]
theorem bit_only : ∀ x < 64, ∀ t < 6, (x &&& 2 ^ t = 2 ^ t ↔ x.testBit t = true) := by decide +kernel
theorem bit_many : ∀ x < 64, ∀ t < 6, (things (x &&& 2 ^ t)).length = if x.testBit t = true then 1 else 0 := by decide +kernel
theorem plain_only {t : Nat} (t6 : t < 6) (m : Int) : agree (worthF (.only (2 ^ t) m)) (bitF t m) := fun x hx => by
  show (if x &&& 2 ^ t = 2 ^ t then m else 0) = if x.testBit t = true then m else 0
  have := bit_only x hx t t6
  by_cases c : x.testBit t = true
  · rw [if_pos c, if_pos (this.mpr c)]
  · rw [if_neg c, if_neg fun z => c (this.mp z)]
theorem plain_most {t c : Nat} (t6 : t < 6) (c1 : 1 ≤ c) (m : Int) : agree (worthF (.most (2 ^ t) c m)) (bitF t m) := fun x hx => by
  show m * ((if c < (things (x &&& 2 ^ t)).length then c else (things (x &&& 2 ^ t)).length : Nat) : Int) = if x.testBit t = true then m else 0
  rw [bit_many x hx t t6]
  by_cases d : x.testBit t = true
  · rw [if_pos d, if_pos d, if_neg (by omega)]; exact Int.mul_one m
  · rw [if_neg d, if_neg d, if_neg (by omega)]; exact Int.mul_zero m
theorem sum_filter {p : Nat → Bool} {f : Nat → Int} : ∀ l : List Nat, ((l.filter p).map f).sum = (l.map fun i => if p i = true then f i else 0).sum
  | [] => rfl
  | i :: l => by
    rw [List.filter_cons, List.map_cons, List.sum_cons, ← sum_filter l]
    cases p i with
    | true => rw [if_pos rfl, if_pos rfl, List.map_cons, List.sum_cons]
    | false => rw [if_neg (by decide), if_neg (by decide), Int.zero_add]
theorem sg_sum {B : List Int} {n : Nat} (hB : B.length = n) (h5 : 5 ≤ n) (h6 : n ≤ 6) (x : Nat) : (((List.range n).filter fun k => x.testBit k).map fun k => B.getD k 0).sum = sg B x := by
  rw [sum_filter]
  rcases (by omega : n = 5 ∨ n = 6) with e | e
  · subst e
    unfold sg
    rw [List.range_succ (n := 5), List.map_append, List.sum_append]
    have : bitv B x 5 = 0 := by
      unfold bitv
      rw [List.getD_eq_getElem?_getD, List.getElem?_eq_none (by omega)]
      split <;> rfl
    rw [List.map_cons, List.map_nil, List.sum_cons, List.sum_nil, this]
    show _ = _ + 0
    rw [Int.add_zero]; rfl
  · subst e; rfl
theorem pow2_6 : ∀ t < 6, 1 ≤ 2 ^ t ∧ 2 ^ t ≤ 63 := by decide
theorem sg_zero (n x : Nat) : sg (List.replicate n 0) x = 0 := by
  have e : ∀ i, bitv (List.replicate n 0) x i = 0 := fun i => by
    unfold bitv
    rw [List.getD_eq_getElem?_getD, List.getElem?_replicate]
    split
    · split <;> rfl
    · rfl
  unfold sg
  rw [sum_congr _ fun i _ => e i]; rfl
/-- the bids so far and the greatest amounts -/
structure Pl (c_Bid c_Only c_SoMany c_UpTo : Addr) (H : Hp) (lo lb : Addr) (n i : Nat) (bs : List Addr) (fs : List Form) (B : List Int) : Prop where
  eo : H lo = some (.lst (B.map V.int))
  eb : H lb = some (.lst (bs.map V.ref))
  ba : BidsAt c_Bid c_Only c_SoMany c_UpTo H bs fs
  len : B.length = n
  nn : NonNeg B
  ag : agree (best fs) (sg B)
  few : fs.length = i
theorem Pl.same {c1 c2 c3 c4 : Addr} {H H' : Hp} {lo lb : Addr} {n i : Nat} {bs : List Addr} {fs : List Form} {B : List Int} (S : Same H H') (h : Pl c1 c2 c3 c4 H lo lb n i bs fs B) : Pl c1 c2 c3 c4 H' lo lb n i bs fs B := ⟨S _ _ h.eo, S _ _ h.eb, h.ba.same S, h.len, h.nn, h.ag, h.few⟩
theorem tab_agree {g h : Nat → Int} (e : agree g h) {n : Nat} (hn : n ≤ 6) : tab g n = tab h n := by
  unfold tab
  refine List.map_congr_left fun x hx => e x ?_
  have := List.mem_range.mp hx
  have := (pow6 hn).1
  omega
theorem zeros_map (n : Nat) : ((List.range n).filter fun _ => true).map (fun _ => V.int 0) = (List.replicate n (0 : Int)).map V.int := by
  rw [List.filter_eq_self.mpr (fun _ _ => rfl), List.map_const', List.length_range, List.map_replicate]
section
variable {P : Program} {w : World} {K : PySem.W.Frag} {mg : Str → Option Value} {base : Heap}
variable {c_Bid c_Only c_SoMany c_UpTo c_Several c_AnyOf : Addr}
/-- a AnyOf has been made -/
theorem made_any {c_Bid c_Only c_SoMany c_UpTo c : Addr} {H H1 : Hp} {x dx lb : Addr} {bs : List Addr} {fs : List Form} (nx : H x = none) (nd : H dx = none) (s1 : Same (upd (upd H dx (.own x)) x (.ins c dx [])) H1) (hb : H1 lb = none) (hB : BidsAt c_Bid c_Only c_SoMany c_UpTo H bs fs) :
    Same H (upd (upd H1 lb (.lst (bs.map V.ref))) x (.ins c dx (fsSev lb))) ∧ IsAny c c_Bid c_Only c_SoMany c_UpTo (upd (upd H1 lb (.lst (bs.map V.ref))) x (.ins c dx (fsSev lb))) x fs := by
  have sH : Same H H1 := (((Same.refl H).upd nd _).upd nx _).trans s1
  have hlb := sH.free hb
  have S : Same H (upd (upd H1 lb (.lst (bs.map V.ref))) x (.ins c dx (fsSev lb))) := (sH.upd hlb _).upd nx _
  have ne : lb ≠ x := fun z => by
    have e := s1 _ _ (upd_same (H := upd H dx (.own x)) (a := x) (o := .ins c dx []))
    rw [← z, hb] at e; cases e
  exact ⟨S, dx, lb, bs, upd_same, by rw [upd_ne ne]; exact upd_same, hB.same S⟩
theorem getD_atI {B : List Int} {j : Nat} (h : j < B.length) : (B.map V.int)[j]? = some (V.int (B.getD j 0)) := by
  rw [List.getElem?_map, List.getElem?_eq_getElem h, List.getD_eq_getElem?_getD, List.getElem?_eq_getElem h]; rfl
theorem ok_L_plainly {f : Addr} {fd : FuncData} (F : Fun K "_law_plainly" "_law_plainly" s_L_plainly f fd) (m_self : mg "_law_plainly" = some (.ref f)) (m_range : mg "range" = none) (m_max : mg "max" = none) (m_sum : mg "sum" = none)
    (D_L_alike : DefOk P w K mg base 2 "_law_alike" ["_law_found", "_law_due"] [] (sp_L_alike K))
    (D_L_cell : DefOk P w K mg base 1 "_law_cell" ["_law_script", "_law_k"] [] (sp_L_cell K))
    (D_L_amount : DefOk P w K mg base 1 "_law_amount" ["_law_cell_here"] [] (sp_L_amount K))
    (O_Bid : Own K mg "Bid" c_Bid [])
    (O_Only : Own K mg "Only" c_Only ["bundle", "amount"])
    (O_SoMany : Own K mg "SoMany" c_SoMany ["kind", "least", "amount"])
    (O_UpTo : Own K mg "UpTo" c_UpTo ["kind", "most", "each"])
    (O_Several : Own K mg "Several" c_Several ["bids"])
    (O_AnyOf : Own K mg "AnyOf" c_AnyOf ["bids"])
    (MK_AnyOf : MakeD P w K mg base 4 "AnyOf" c_AnyOf ["self", "bids"] (sp_M_Several___init__ K c_AnyOf c_Bid c_Only c_SoMany c_UpTo c_Several c_AnyOf))
    (MK_Only : MakeD P w K mg base 4 "Only" c_Only ["self", "bundle", "amount"] (sp_M_Only___init__ K c_Only))
    (MK_UpTo : MakeD P w K mg base 4 "UpTo" c_UpTo ["self", "kind", "most", "each"] (sp_M_UpTo___init__ K c_UpTo))
    (hT_worths_a : ∀ C sp, T_worths_a K c_Bid c_Only c_SoMany c_UpTo c_Several c_AnyOf C sp → ∃ ps, MethD P w K mg base 6 C "worths" ps sp) : DefOk P w K mg base 7 "_law_plainly" ["_law_script"] [] (sp_L_plainly K) := by
  refine F.def_okQ m_self (bnd1 F fun _ _ _ _ _ _ _ => rfl) sc_L_plainly (fun vs H Q E h => ?_) (fun cdv A outer s H vs Q E hr h => ?_)
  · obtain ⟨a, ns, rfl, _⟩ := h; rfl
  obtain ⟨a, ns, rfl, hS, h63, q⟩ := h
  obtain ⟨t4, ht4, rt4⟩ : ∃ tt, QSs (cxOf CX0 P w K mg base ["_law_script", "_law_things", "_law_best_here", "_law_bids", "_law_k", "_law_cell_here", "_law_thing", "_law_amount_here", "_law_due"] "_law_plainly" (defScope s_L_plainly) f cdv A outer s H E).nox ((defBody s_L_plainly).drop 4) tt ∧
      ∀ (H1 : Hp) (lo lb : Addr) (bs : List Addr) (fs : List Form) (B : List Int) (n i : Nat) (x0 x4 x5 x6 x7 : Option V), 5 ≤ n → n ≤ 6 → i ≤ 10 → Pl c_Bid c_Only c_SoMany c_UpTo H1 lo lb n i bs fs B →
        tt { nx := fun _ H' => Q .non H', rt := Q } [x0, some (nv n), some (.ref lo), some (.ref lb), x4, x5, x6, x7, none] H1 := by
    refine ⟨_, (R.pss_cons (R.ps_compC (i := 8) "_law_bundle" ["_law_things", "_law_best_here"] [1, 2] sc_L_plainly.nd rfl (Or.inl rfl) rfl rfl rfl (R.pi_range1 rfl m_range (R.pa_c (R.pe_op op_shlN R.pe_int (R.pv 1)) R.pa_nil)) (fun C s2 H2 fp => (R.pg_name (i := 0) (show List.Nodup (["_law_bundle", "_law_things", "_law_best_here"] : List Str) from by decide +kernel) rfl (Or.inr rfl))) (fun C s2 H2 fp => R.pf_nil) (fun C s2 H2 fp => (R.pe_cB (R.sumL K rfl) rfl m_sum (boot_sum) (R.pa_c (R.pe_compI ["_law_k"] ["_law_bundle", "_law_best_here"] [0, 2] rfl (R.pi_range1 rfl m_range (R.pa_c (R.pv 1) R.pa_nil)) (fun C s2 H2 fp => (R.pg_name (i := 0) (show List.Nodup (["_law_k", "_law_bundle", "_law_best_here"] : List Str) from by decide +kernel) rfl (Or.inl rfl))) (fun C s2 H2 fp => (R.pf_one (R.pt_cmpR op_eq (R.pe_op op_andN (R.pe_op op_shrN (R.pv 1) (R.pv 0)) R.pe_int) R.pe_int (nomark _)))) (fun C s2 H2 fp => (R.pe_ix (R.ixL K) (R.pv 2) (R.pv 0) (fun _ _ => rfl)))) R.pa_nil))))
    (R.pss_one (R.ps_ret (R.pe_callD D_L_alike hr (by decide) rfl (R.pa_c (R.pe_methV (R.pe_makeD MK_AnyOf hr (by decide) rfl (R.pa_c (R.pv 3) R.pa_nil)) hT_worths_a hr (by decide) (R.pa_c (R.pv 1) R.pa_nil)) (R.pa_c (R.pv 8) R.pa_nil)))))), ?_⟩
    intro H1 lo lb bs fs B n i x0 x4 x5 x6 x7 n5 hn hi st
    obtain ⟨f1, f2⟩ := pow6 hn
    have bl := st.ba.1
    have fl := st.few
    refine ⟨_, rfl, n, rfl, rfl, by omega, _, rfl, (rng6 hn).1, (rng6 hn).2, fun ld hd => ?_⟩
    rw [Int.toNat_natCast]
    refine comp_rng_map (n := 2 ^ n) (fun _ => true) (fun x => V.int (sg B x)) (by omega) hd ?_ ?_ ?_
    · intro x H2 hx s2 C hC; exact hC _ (Same.refl _)
    · intro x H2 hx _ s2 C hC
      rw [Int.zero_add]
      refine ⟨_, rfl, _, rfl, by omega, by omega, fun l3 h3 => ?_⟩
      rw [Int.toNat_natCast]
      refine comp_rng_map (n := n) (fun k => x.testBit k) (fun k => V.int (B.getD k 0)) (by omega) h3 ?_ ?_ ?_
      · intro k H3 hk s3 C hC
        rw [Int.zero_add]
        refine ⟨_, rfl, _, rfl, x, k, rfl, rfl, x / 2 ^ k, 1, rfl, rfl, rfl, ?_⟩
        rw [shr_bit]
        exact ⟨_, rfl, hC _ (Same.refl _)⟩
      · intro k H3 hk _ s3 C hC
        rw [Int.zero_add]
        exact ⟨_, rfl, _, rfl, lo, _, _, _, rfl, rfl, SqL.of ((s2.trans s3) _ _ st.eo), at_nat (getD_atI (by rw [st.len]; exact hk)), hC _ (Same.refl _)⟩
      · intro H3 s3 e3
        refine ⟨l3, ((List.range n).filter fun k => x.testBit k).map (fun k => B.getD k 0), rfl, SqL.of (by rw [e3, List.map_map]; rfl), ?_⟩
        rw [sg_sum st.len n5 hn]
        exact hC _ s3
    intro H2 s2 e2
    have e2' : H2 ld = some (.lst ((tab (best fs) n).map V.int)) := by
      rw [e2, List.filter_eq_self.mpr (fun _ _ => rfl), tab_agree st.ag hn]
      unfold tab
      rw [List.map_map]; rfl
    have st2 := st.same s2
    refine ⟨_, rfl, fun x dx nx nd ne => ?_⟩
    have sx : Same H2 (upd (upd H2 dx (.own x)) x (.ins c_AnyOf dx [])) := ((Same.refl H2).upd nd _).upd nx _
    refine ⟨x, dx, lb, bs, fs, rfl, upd_same, sx _ _ st2.eb, st2.ba.same sx, by omega, fun H3 l1 s3 h3 => ⟨rfl, ?_⟩⟩
    obtain ⟨S3, any3⟩ := made_any nx nd s3 h3 st2.ba
    have any3' := any3
    obtain ⟨dx', l', bs', e31, _⟩ := any3'
    refine ⟨x, c_AnyOf, dx', _, _, rfl, e31, rfl, .inr (.inr (.inr (.inr ⟨rfl, rfl⟩))), _, rfl, x, n, fs, rfl, hn, any3, fun l7 H7 s7 h7 e7 => ?_⟩
    exact ⟨_, rfl, l7, ld, _, rfl, e7, SqL.of ((S3.trans s7) _ _ e2'), fun H8 s8 => q _⟩
  refine ⟨_, (R.pss_cons (R.ps_set (i := 1) sc_L_plainly.nd rfl (Or.inr rfl) (R.pe_op (opE0 op_add) R.pe_int (R.pe_op (opE op_mod) (R.pe_op op_fdiv (R.pe_callD D_L_cell hr (by decide) rfl (R.pa_c (R.pv 0) (R.pa_c R.pe_int R.pa_nil))) R.pe_int) R.pe_int)))
    (R.pss_cons (R.ps_setC (i := 2) sc_L_plainly.nd rfl (Or.inr rfl) (R.pe_comp (defScope s_L_plainly) ["_law_script", "_law_things", "_law_best_here", "_law_bids", "_law_k", "_law_cell_here", "_law_thing", "_law_amount_here", "_law_due"] ["_law_k"] [] [] rfl rfl rfl ⟨s.heap.objs.size + 1, rfl⟩ rfl rfl (by decide +kernel) (R.pi_range1 rfl m_range (R.pa_c (R.pv 1) R.pa_nil)) (fun C s2 H2 fp => (R.pg_name (i := 0) (show List.Nodup (["_law_k"] : List Str) from by decide +kernel) rfl (Or.inl rfl))) (fun C s2 H2 fp => R.pf_nil) (fun C s2 H2 fp => R.pe_int)))
    (R.pss_cons (R.ps_set (i := 3) sc_L_plainly.nd rfl (Or.inl rfl) (R.pe_lst R.pa_nil))
    (R.pss_cons (R.ps_for PassesOwn.never rfl (R.pi_range1 rfl m_range (R.pa_c (R.pe_op (opE0 op_add) R.pe_int (R.pe_op (opE op_mod) (R.pe_op op_fdiv (R.pe_callD D_L_cell hr (by decide) rfl (R.pa_c (R.pv 0) (R.pa_c R.pe_int R.pa_nil))) R.pe_int) R.pe_int)) R.pa_nil)) (R.pg_name (i := 4) sc_L_plainly.nd rfl (Or.inl rfl)) (R.pss_cons (R.ps_set (i := 5) sc_L_plainly.nd rfl (Or.inl rfl) (R.pe_callD D_L_cell hr (by decide) rfl (R.pa_c (R.pv 0) (R.pa_c (R.pe_op (opE0 op_add) R.pe_int (R.pe_op op_mulB R.pe_int (R.pv 4))) R.pa_nil))))
      (R.pss_cons (R.ps_set (i := 6) sc_L_plainly.nd rfl (Or.inl rfl) (R.pe_op (opE op_mod) (R.pv 5) (R.pv 1)))
      (R.pss_cons (R.ps_set (i := 7) sc_L_plainly.nd rfl (Or.inl rfl) (R.pe_callD D_L_amount hr (by decide) rfl (R.pa_c (R.pe_callD D_L_cell hr (by decide) rfl (R.pa_c (R.pv 0) (R.pa_c (R.pe_op (opE0 op_add) R.pe_int (R.pe_op op_mulB R.pe_int (R.pv 4))) R.pa_nil))) R.pa_nil)))
      (R.pss_cons (R.ps_expr (R.pe_append (R.pv 3) (R.pa_c (R.pe_ix (R.ixL K) (R.pe_lst (R.pa_c (R.pe_makeD MK_Only hr (by decide) rfl (R.pa_c (R.pe_op op_shlN R.pe_int (R.pv 6)) (R.pa_c (R.pv 7) R.pa_nil))) (R.pa_c (R.pe_makeD MK_UpTo hr (by decide) rfl (R.pa_c (R.pe_op op_shlN R.pe_int (R.pv 6)) (R.pa_c (R.pe_op (opE0 op_add) R.pe_int (R.pe_op (opE op_mod) (R.pe_op op_fdiv (R.pv 5) R.pe_int) R.pe_int)) (R.pa_c (R.pv 7) R.pa_nil)))) R.pa_nil))) (R.pe_op (opE op_mod) (R.pe_op op_fdiv (R.pv 5) R.pe_int) R.pe_int) (fun _ _ => rfl)) R.pa_nil)))
      (R.pss_one (R.ps_asg (R.pe_cB (call_max2 rfl) rfl m_max (boot_max) (R.pa_c (R.pe_ix (R.ixL K) (R.pv 2) (R.pv 6) (fun _ _ => rfl)) (R.pa_c (R.pv 7) R.pa_nil))) (R.pg_setL (R.pv 2) (R.pv 6)))))))))
    ht4)))), ?_⟩
  obtain ⟨r1, er1, hr1⟩ := mod_nat (cellN ns 1 / 8) 2 (by decide)
  obtain ⟨r2, er2, hr2⟩ := mod_nat (cellN ns 1 / 16) 6 (by decide)
  refine ⟨_, rfl, a, ns, 1, rfl, hS, by decide, fun H1 s1 => ⟨_, _, rfl, rfl, ⟨by decide, by decide⟩, _, _, nv r1, rfl, rfl, (by show (0 : Int) < 2; decide), congrArg V.int er1, _, _, nv (5 + r1), rfl, rfl, rfl, ?_⟩⟩
  have n5 : 5 ≤ 5 + r1 := by omega
  have n6 : 5 + r1 ≤ 6 := by omega
  generalize 5 + r1 = n at n5 n6 ⊢
  have hS1 := s1.seq hS
  refine ⟨_, rfl, _, rfl, by omega, by omega, fun lo hlo => ?_⟩
  rw [Int.toNat_natCast]
  have hd1 := script_put hS1 hlo
  refine comp_rng_map (n := n) (fun _ => true) (fun _ => V.int 0) (by omega) hlo ?_ ?_ ?_
  · intro k H2 hk s2 C hC; exact hC _ (Same.refl _)
  · intro k H2 hk _ s2 C hC; exact hC _ (Same.refl _)
  intro H2 s2 e2
  rw [zeros_map] at e2
  have hS2 := s2.seq hS1
  refine ⟨(by show 0 ≤ sizeLine; decide), fun lb hlb => ?_⟩
  have hd2 := script_put hS2 hlb
  have nob : lo ≠ lb := ne_of_none e2 hlb
  have s3 := same_new hlb (.lst [])
  have e3 := s3 _ _ e2
  have e3b : upd H2 lb (.lst []) lb = some (.lst []) := upd_same
  generalize upd H2 lb (.lst []) = H3 at s3 e3 e3b ⊢
  have hS3 := s3.seq hS2
  refine ⟨_, rfl, a, ns, 1, rfl, hS3, by decide, fun H4 s4 => ⟨_, _, rfl, rfl, ⟨by decide, by decide⟩, _, _, nv r2, rfl, rfl, (by show (0 : Int) < 6; decide), congrArg V.int er2, _, _, nv (5 + r2), rfl, rfl, rfl, _, rfl, by omega, by omega, ?_⟩⟩
  rw [Int.toNat_natCast]
  refine for_range (n := 5 + r2) (lo := 0) (fun i σ H' => SqL K H' a (ns.map V.int) ∧ ∃ (bs : List Addr) (fs : List Form) (B : List Int) (x4 x5 x6 x7 : Option V), Pl c_Bid c_Only c_SoMany c_UpTo H' lo lb n i bs fs B ∧ σ = [some (.ref a), some (nv n), some (.ref lo), some (.ref lb), x4, x5, x6, x7, none]) ?_ ?_ ?_
  · refine ⟨s4.seq hS3, [], [], List.replicate n 0, _, _, _, _, ⟨s4 _ _ e3, s4 _ _ e3b, ⟨rfl, fun i b f e => by simp at e⟩, List.length_replicate .., fun i => ?_, fun x hx => ?_, rfl⟩, rfl⟩
    · rw [List.getD_eq_getElem?_getD, List.getElem?_replicate]; split <;> decide
    · rw [sg_zero]; rfl
  · rintro k σ H5 hk ⟨hS5, bs, fs, B, x4, x5, x6, x7, st, rfl⟩
    rw [Int.zero_add]
    refine ⟨_, rfl, _, rfl, _, _, rfl, rfl, mulOk_left (by decide), _, _, nv (2 + 2 * k), rfl, rfl, rfl, a, ns, 2 + 2 * k, rfl, hS5, by omega, fun H6 s6 => ?_⟩
    obtain ⟨t, et, htn⟩ := mod_nat (cellN ns (2 + 2 * k)) n (by omega)
    refine ⟨_, rfl, _, rfl, _, _, nv t, rfl, rfl, (by show (0 : Int) < (n : Int); omega), congrArg V.int et, ?_⟩
    refine ⟨_, rfl, _, rfl, _, _, rfl, rfl, mulOk_left (by decide), _, _, nv (3 + 2 * k), rfl, rfl, rfl, a, ns, 3 + 2 * k, rfl, s6.seq hS5, by omega, fun H7 s7 => ?_⟩
    refine ⟨_, rfl, ?_⟩
    generalize cellN ns (2 + 2 * k) = c
    have am : AmtOk (amountBy (cellN ns (3 + 2 * k))) := ⟨amountBy_nonneg _, amountBy_le _⟩
    generalize amountBy (cellN ns (3 + 2 * k)) = m at am ⊢
    have t6 : t < 6 := by omega
    obtain ⟨p1, p2⟩ := pow2_6 t t6
    have S7 := s6.trans s7
    have st7 := st.same S7
    have hS7 := S7.seq hS5
    refine ⟨_, rfl, .inl ⟨rfl, _, SqL.of st7.eb⟩, ?_⟩
    obtain ⟨r3, er3, hr3⟩ := mod_nat (c / 60) 6 (by decide)
    obtain ⟨r4, er4, hr4⟩ := mod_nat (c / 30) 2 (by decide)
    refine ⟨_, rfl, t, rfl, rfl, by omega, _, rfl, fun x dx nx nd _ => ⟨x, dx, 2 ^ t, m, rfl, p1, p2, am, upd_same, rfl, ?_⟩⟩
    have S8 : Same H7 (upd (upd (upd H7 dx (.own x)) x (.ins c_Only dx [])) x (.ins c_Only dx (fsOnly (2 ^ t) m))) := made_same nx nd
    have e8 : upd (upd (upd H7 dx (.own x)) x (.ins c_Only dx [])) x (.ins c_Only dx (fsOnly (2 ^ t) m)) x = some (.ins c_Only dx (fsOnly (2 ^ t) m)) := upd_same
    generalize upd (upd (upd H7 dx (.own x)) x (.ins c_Only dx [])) x (.ins c_Only dx (fsOnly (2 ^ t) m)) = H8 at S8 e8 ⊢
    refine ⟨_, rfl, t, rfl, rfl, by omega, _, rfl, _, _, rfl, rfl, ⟨by decide, by decide⟩, _, _, nv r3, rfl, rfl, (by show (0 : Int) < 6; decide), congrArg V.int er3, _, _, nv (1 + r3), rfl, rfl, rfl, _, rfl, fun y dy ny ndy _ => ⟨y, dy, 2 ^ t, 1 + r3, m, rfl, p1, p2, by omega, by omega, am, upd_same, rfl, ?_⟩⟩
    have S9 : Same H8 (upd (upd (upd H8 dy (.own y)) y (.ins c_UpTo dy [])) y (.ins c_UpTo dy (fsMost (2 ^ t) (1 + r3) m))) := made_same ny ndy
    have e9 : upd (upd (upd H8 dy (.own y)) y (.ins c_UpTo dy [])) y (.ins c_UpTo dy (fsMost (2 ^ t) (1 + r3) m)) y = some (.ins c_UpTo dy (fsMost (2 ^ t) (1 + r3) m)) := upd_same
    generalize upd (upd (upd H8 dy (.own y)) y (.ins c_UpTo dy [])) y (.ins c_UpTo dy (fsMost (2 ^ t) (1 + r3) m)) = H9 at S9 e9 ⊢
    refine ⟨(by show 2 ≤ sizeLine; decide), fun l2 h2 => ?_⟩
    have S10 := same_new h2 (.lst [V.ref x, V.ref y])
    obtain ⟨z, f, ew, okf, ib, ag⟩ : ∃ (z : Addr) (f : Form), atI [V.ref x, V.ref y] (r4 : Int) = some (.ref z) ∧ FormOk f ∧ IsBid c_Bid c_Only c_SoMany c_UpTo (upd H9 l2 (.lst [V.ref x, V.ref y])) z f ∧ agree (worthF f) (bitF t m) := by
      rcases (by omega : r4 = 0 ∨ r4 = 1) with e | e <;> subst e
      · exact ⟨x, .only (2 ^ t) m, rfl, ⟨p1, p2, am⟩, ⟨dx, S10 _ _ (S9 _ _ e8)⟩, plain_only t6 m⟩
      · exact ⟨y, .most (2 ^ t) (1 + r3) m, rfl, ⟨p1, p2, by omega, by omega, am⟩, ⟨dy, S10 _ _ e9⟩, plain_most t6 (by omega) m⟩
    refine ⟨_, rfl, _, _, rfl, rfl, ⟨by decide, by decide⟩, _, _, nv r4, rfl, rfl, (by show (0 : Int) < 2; decide), congrArg V.int er4, l2, _, _, _, rfl, rfl, SqL.of upd_same, ew, ?_⟩
    have S710 := (S8.trans S9).trans S10
    generalize upd H9 l2 (.lst [V.ref x, V.ref y]) = H10 at S10 ib S710 ⊢
    have st10 := st7.same S710
    have hS10 := S710.seq hS7
    have few := st.few
    have bl := st.ba.1
    refine ⟨lb, _, _, rfl, rfl, st10.eb, by rw [List.length_map]; exact small1000 (by omega), ?_⟩
    have ba11 := (st10.ba.snoc okf ib).put (o := .lst (bs.map V.ref ++ [V.ref z])) st10.eb
    have e11 : upd H10 lb (.lst (bs.map V.ref ++ [V.ref z])) lb = some (.lst ((bs ++ [z]).map V.ref)) := by rw [upd_same, List.map_append]; rfl
    have eo11 : upd H10 lb (.lst (bs.map V.ref ++ [V.ref z])) lo = some (.lst (B.map V.int)) := by rw [upd_ne nob]; exact st10.eo
    have hS11 : SqL K (upd H10 lb (.lst (bs.map V.ref ++ [V.ref z]))) a (ns.map V.int) := seq_put hS10 hd2
    generalize upd H10 lb (.lst (bs.map V.ref ++ [V.ref z])) = H11 at ba11 e11 eo11 hS11 ⊢
    have tB : t < B.length := by rw [st.len]; exact htn
    refine ⟨_, rfl, _, rfl, lo, _, _, _, rfl, rfl, SqL.of eo11, at_nat (getD_atI tB), _, rfl, _, _, rfl, _, rfl, _, rfl, lo, _, _, t, rfl, rfl, eo11, ?_, ?_⟩
    · unfold ixN
      rw [if_pos (by omega), if_pos (by rw [List.length_map]; omega)]
      rw [Int.toNat_natCast]
    refine ⟨seq_put hS11 hd1, bs ++ [z], fs ++ [f], grow B t m, _, _, _, _, ⟨?_, ?_, ba11.put eo11, ?_, grow_nonneg tB st.nn, ?_, ?_⟩, rfl⟩
    · rw [upd_same]; unfold grow; rw [List.map_set]
    · rw [upd_ne (Ne.symm nob)]; exact e11
    · unfold grow; rw [List.length_set]; exact st.len
    · intro w hw
      rw [best_snoc, conv_agree st.ag ag w hw]
      exact conv_plain st.nn tB t6 am.lo w hw
    · rw [List.length_append, few]; rfl
  · rintro σ H5 ⟨hS5, bs, fs, B, x4, x5, x6, x7, st, rfl⟩
    exact rt4 H5 lo lb bs fs B n (5 + r2) _ _ _ _ _ n5 n6 (by omega) st
end
end My


set_option Elab.async false
set_option linter.all false
set_option maxRecDepth 100000
set_option maxHeartbeats 4000000
namespace My
open PySem PySem.Spec PyProof.Rows L2 GM
/-- forms and the bids made of them, side by side -/
structure Sit (c_Bid c_Only c_SoMany c_UpTo : Addr) (H : Hp) (lf lb : Addr) (ps bs : List Addr) (fs : List Form) : Prop where
  fo : H lf = some (.lst (ps.map V.ref))
  bi : H lb = some (.lst (bs.map V.ref))
  len : ps.length = fs.length
  fa : ∀ (i : Nat) (p : Addr) (f : Form), ps[i]? = some p → fs[i]? = some f → FormOk f ∧ FormAt H p f
  ba : BidsAt c_Bid c_Only c_SoMany c_UpTo H bs fs
theorem Sit.same {c1 c2 c3 c4 : Addr} {H H' : Hp} {lf lb : Addr} {ps bs : List Addr} {fs : List Form} (S : Same H H') (h : Sit c1 c2 c3 c4 H lf lb ps bs fs) : Sit c1 c2 c3 c4 H' lf lb ps bs fs :=
  ⟨S _ _ h.fo, S _ _ h.bi, h.len, fun i p f e1 e2 => ⟨(h.fa i p f e1 e2).1, (h.fa i p f e1 e2).2.same S⟩, h.ba.same S⟩
theorem cut_last (bs : List Addr) : cutV (bs.map V.ref) (some (-1)) none = (bs.drop (bs.length - 1)).map V.ref := by
  unfold cutV
  have e : HT.sIx (bs.map V.ref).length 0 (some (-1)) = bs.length - 1 := by
    show (if (-1 : Int) < 0 then ((-1 : Int) + ((bs.map V.ref).length : Int)).toNat else min (-1 : Int).toNat (bs.map V.ref).length) = bs.length - 1
    rw [if_pos (by decide), List.length_map]; omega
  rw [e, HT.sIx_none, List.map_drop, List.take_of_length_le (by rw [List.length_drop]; exact Nat.le_refl _)]
theorem BidsAt.drop {c1 c2 c3 c4 : Addr} {H : Hp} {bs : List Addr} {fs : List Form} (h : BidsAt c1 c2 c3 c4 H bs fs) (j : Nat) : BidsAt c1 c2 c3 c4 H (bs.drop j) (fs.drop j) :=
  ⟨by rw [List.length_drop, List.length_drop, h.1], fun i b f e1 e2 => h.2 (j + i) b f (by rw [← List.getElem?_drop]; exact e1) (by rw [← List.getElem?_drop]; exact e2)⟩
theorem best_last {fs : List Form} (ok : ∀ f ∈ fs, FormOk f) (h : 0 < fs.length) : agree (best (fs.drop (fs.length - 1))) (worthF fs[fs.length - 1]) := by
  have e : fs.drop (fs.length - 1) = [fs[fs.length - 1]] := by
    rw [List.drop_eq_getElem_cons (by omega), List.drop_of_length_le (by omega)]
  rw [e]
  exact conv_zero (worthF_good (ok _ (List.getElem_mem _)))
theorem ints_refs {g : Nat → Int} {n : Nat} {ls : List Addr} (h : (tab g n).map V.int = ls.map V.ref) : False := by
  have e : (tab g n).length = 2 ^ n := tab_len g n
  have p := Nat.two_pow_pos n
  cases h1 : tab g n with
  | nil => rw [h1] at e; simp at e; omega
  | cons z zs =>
    rw [h1] at h
    cases ls with
    | nil => simp at h
    | cons l ls => simp at h
theorem Tabs.put {H : Hp} {ls : List Addr} {gs : List (Nat → Int)} {n : Nat} {m : Addr} {ps : List Addr} {o : HO} (h : Tabs H ls gs n) (hm : H m = some (.lst (ps.map V.ref))) : Tabs (upd H m o) ls gs n :=
  ⟨h.1, fun i l g e1 e2 => by
    have e : H l = some (.lst ((tab g n).map V.int)) := h.2 i l g e1 e2
    show upd H m o l = some (.lst ((tab g n).map V.int))
    rw [upd_ne (fun z => by
      rw [z, hm] at e
      injection e with e; injection e with e
      exact ints_refs e.symm)]
    exact e⟩
/-- what stays -/
structure Stay (K : PySem.W.Frag) (c1 c2 c3 c4 c x dx l1 lb ltb ld a : Addr) (bs ls : List Addr) (fs : List Form) (n : Nat) (ns : List Int) (H : Hp) : Prop where
  ix : H x = some (.ins c dx (fsSev l1))
  il : H l1 = some (.lst (bs.map V.ref))
  bi : H lb = some (.lst (bs.map V.ref))
  tb : H ltb = some (.lst (ls.map V.ref))
  du : H ld = some (.lst ((tab (best fs) n).map V.int))
  ta : Tabs H ls (gs fs) n
  ba : BidsAt c1 c2 c3 c4 H bs fs
  sc : SqL K H a (ns.map V.int)
theorem Stay.same {K : PySem.W.Frag} {c1 c2 c3 c4 c x dx l1 lb ltb ld a : Addr} {bs ls : List Addr} {fs : List Form} {n : Nat} {ns : List Int} {H H' : Hp} (S : Same H H') (h : Stay K c1 c2 c3 c4 c x dx l1 lb ltb ld a bs ls fs n ns H) : Stay K c1 c2 c3 c4 c x dx l1 lb ltb ld a bs ls fs n ns H' :=
  ⟨S _ _ h.ix, S _ _ h.il, S _ _ h.bi, S _ _ h.tb, S _ _ h.du, h.ta.same S, h.ba.same S, S.seq h.sc⟩
theorem Stay.put {K : PySem.W.Frag} {c1 c2 c3 c4 c x dx l1 lb ltb ld a lh : Addr} {bs ls ps : List Addr} {fs : List Form} {n : Nat} {ns : List Int} {H : Hp} {o : HO} (h : Stay K c1 c2 c3 c4 c x dx l1 lb ltb ld a bs ls fs n ns H)
    (hm : H lh = some (.lst (ps.map V.ref))) (n1 : l1 ≠ lh) (n2 : lb ≠ lh) (n3 : ltb ≠ lh) (n5 : a ≠ lh ∨ ∀ H, SqL K H a (ns.map V.int)) : Stay K c1 c2 c3 c4 c x dx l1 lb ltb ld a bs ls fs n ns (upd H lh o) :=
  ⟨by rw [upd_ne (fun z => by have e := h.ix; rw [z, hm] at e; cases e)]; exact h.ix, by rw [upd_ne n1]; exact h.il, by rw [upd_ne n2]; exact h.bi, by rw [upd_ne n3]; exact h.tb,
    by rw [upd_ne (fun z => by
      have e := h.du
      rw [z, hm] at e
      injection e with e; injection e with e
      exact ints_refs e.symm)]; exact h.du, h.ta.put hm, h.ba.put hm, seq_put h.sc n5⟩
theorem s_to_a {K : PySem.W.Frag} {c_Bid c_Only c_SoMany c_UpTo c_Several c_AnyOf C : Addr} {sp : Sp} (h : T_worths_s K c_Bid c_Only c_SoMany c_UpTo c_Several c_AnyOf C sp) : T_worths_a K c_Bid c_Only c_SoMany c_UpTo c_Several c_AnyOf C sp := by
  rcases h with h | h | h | h
  · exact .inl h
  · exact .inr (.inl h)
  · exact .inr (.inr (.inl h))
  · exact .inr (.inr (.inr (.inl h)))
section
variable {P : Program} {w : World} {K : PySem.W.Frag} {mg : Str → Option Value} {base : Heap}
variable {c_Bid c_Only c_SoMany c_UpTo c_Several c_AnyOf : Addr}
theorem ok_law {f : Addr} {fd : FuncData} (F : Fun K "law" "law" s_law f fd) (m_self : mg "law" = some (.ref f)) (m_range : mg "range" = none) (m_list : mg "list" = none) (m_isinstance : mg "isinstance" = none)
    (D_L_sizes : DefOk P w K mg base 1 "_law_sizes" ["_law_cell_here"] [] (sp_L_sizes K))
    (D_L_cell : DefOk P w K mg base 1 "_law_cell" ["_law_script", "_law_k"] [] (sp_L_cell K))
    (D_L_single : DefOk P w K mg base 6 "_law_single" ["_law_form_here"] [] (sp_L_single K c_Bid c_Only c_SoMany c_UpTo c_Several c_AnyOf))
    (D_L_best : DefOk P w K mg base 1 "_law_best" ["_law_tables", "_law_bundle"] [] (sp_L_best K))
    (D_L_alike : DefOk P w K mg base 2 "_law_alike" ["_law_found", "_law_due"] [] (sp_L_alike K))
    (D_L_plainly : DefOk P w K mg base 7 "_law_plainly" ["_law_script"] [] (sp_L_plainly K))
    (D_L_form : DefOk P w K mg base 2 "_law_form" ["_law_cell_here", "_law_other", "_law_last"] [] (sp_L_form K))
    (D_L_worth : DefOk P w K mg base 2 "_law_worth" ["_law_form_here", "_law_bundle"] [] (sp_L_worth K))
    (O_Bid : Own K mg "Bid" c_Bid [])
    (O_Only : Own K mg "Only" c_Only ["bundle", "amount"])
    (O_SoMany : Own K mg "SoMany" c_SoMany ["kind", "least", "amount"])
    (O_UpTo : Own K mg "UpTo" c_UpTo ["kind", "most", "each"])
    (O_Several : Own K mg "Several" c_Several ["bids"])
    (O_AnyOf : Own K mg "AnyOf" c_AnyOf ["bids"])
    (MK_AnyOf : MakeD P w K mg base 4 "AnyOf" c_AnyOf ["self", "bids"] (sp_M_Several___init__ K c_AnyOf c_Bid c_Only c_SoMany c_UpTo c_Several c_AnyOf))
    (MK_Only : MakeD P w K mg base 4 "Only" c_Only ["self", "bundle", "amount"] (sp_M_Only___init__ K c_Only))
    (hT_worths_a : ∀ C sp, T_worths_a K c_Bid c_Only c_SoMany c_UpTo c_Several c_AnyOf C sp → ∃ ps, MethD P w K mg base 6 C "worths" ps sp)
    (kit_Bid_Bid : PySem.W.kitOne K (.ref c_Bid) (.ref c_Bid) = some true)
    (kit_Only_Bid : PySem.W.kitOne K (.ref c_Only) (.ref c_Bid) = some true)
    (kit_SoMany_Bid : PySem.W.kitOne K (.ref c_SoMany) (.ref c_Bid) = some true)
    (kit_UpTo_Bid : PySem.W.kitOne K (.ref c_UpTo) (.ref c_Bid) = some true)
    (kit_Several_Bid : PySem.W.kitOne K (.ref c_Several) (.ref c_Bid) = some true)
    (kit_AnyOf_Bid : PySem.W.kitOne K (.ref c_AnyOf) (.ref c_Bid) = some true) : FnOk P w K mg base CX0 8 f fd ["_law_script"] (sp_law K) := by
  refine F.okQ sc_law (fun vs H Q E h => ?_) (fun cdv A outer s H vs Q E hr h => ?_)
  · obtain ⟨a, ns, rfl, _⟩ := h; rfl
  obtain ⟨a, ns, rfl, hS, h63, q⟩ := h
  obtain ⟨t19, ht19, rt19⟩ : ∃ tt, QSs (cxOf CX0 P w K mg base ["_law_script", "_law_many", "_law_things", "_law_last", "_law_forms", "_law_k", "_law_bids", "_law_tables", "_law_due", "_law_handed", "_law_bid", "_law_found", "_law_alone"] "law" (defScope s_law) f cdv A outer s H E).nox ((defBody s_law).drop 19) tt ∧
      ∀ (H1 : Hp) (x dx l1 lb ltb ld : Addr) (bs ls : List Addr) (fs : List Form) (n : Nat) (x3 x4 x5 x9 x11 x12 : Option V), n ≤ 6 → fs.length ≤ 23 → Stay K c_Bid c_Only c_SoMany c_UpTo c_AnyOf x dx l1 lb ltb ld a bs ls fs n ns H1 →
        tt { nx := fun _ H' => Q .non H', rt := Q } [some (.ref a), some (nv fs.length), some (nv n), x3, x4, x5, some (.ref lb), some (.ref ltb), some (.ref ld), x9, some (.ref x), x11, x12] H1 := by
    refine ⟨_, (R.pss_one (R.ps_ret (R.pe_and (R.pe_callD D_L_alike hr (by decide) rfl (R.pa_c (R.pe_methV (R.pv 10) hT_worths_a hr (by decide) (R.pa_c (R.pv 2) R.pa_nil)) (R.pa_c (R.pv 8) R.pa_nil))) (R.pe_and (R.pe_isOwn rfl m_isinstance rfl O_Bid.at_ (R.pv 10)) (R.pe_one (R.pe_callD D_L_plainly hr (by decide) rfl (R.pa_c (R.pv 0) R.pa_nil))))))), ?_⟩
    intro H7 x dx l1 lb ltb ld bs ls fs n x3 x4 x5 x9 x11 x12 hn few st7
    refine ⟨_, rfl, x, c_AnyOf, dx, _, _, rfl, st7.ix, rfl, .inr (.inr (.inr (.inr ⟨rfl, rfl⟩))), _, rfl, x, n, fs, rfl, hn, ⟨dx, l1, bs, st7.ix, st7.il, st7.ba⟩, fun l8 H8 s8 h8 e8 => ?_⟩
    have st8 := st7.same s8
    refine ⟨_, rfl, l8, ld, _, rfl, e8, SqL.of st8.du, fun H9 s9 => ⟨_, rfl, iteT ?_⟩⟩
    have st9 := st8.same s9
    exact ⟨_, rfl, _, _, true, rfl, O_AnyOf.ty st9.ix, kit_AnyOf_Bid, _, rfl, iteT ⟨_, rfl, a, ns, rfl, st9.sc, h63, fun H' => q _⟩⟩
  obtain ⟨t18, ht18, rt18⟩ : ∃ tt, QSs (cxOf CX0 P w K mg base ["_law_script", "_law_many", "_law_things", "_law_last", "_law_forms", "_law_k", "_law_bids", "_law_tables", "_law_due", "_law_handed", "_law_bid", "_law_found", "_law_alone"] "law" (defScope s_law) f cdv A outer s H E).nox ((defBody s_law).drop 18) tt ∧
      ∀ (H1 : Hp) (x dx l1 lb ltb ld : Addr) (bs ls : List Addr) (fs : List Form) (n : Nat) (x3 x4 x5 x9 x11 x12 : Option V), n ≤ 6 → fs.length ≤ 23 → Stay K c_Bid c_Only c_SoMany c_UpTo c_AnyOf x dx l1 lb ltb ld a bs ls fs n ns H1 →
        tt { nx := fun _ H' => Q .non H', rt := Q } [some (.ref a), some (nv fs.length), some (nv n), x3, x4, x5, some (.ref lb), some (.ref ltb), some (.ref ld), x9, some (.ref x), x11, x12] H1 := by
    refine ⟨_, (R.pss_cons (R.ps_if (R.pt (R.pw_and (R.pt_cmpR op_gt (R.pv 1) R.pe_int (nomark _)) (R.pw_and1 (R.pt_not (R.pt_val (R.pe_callD D_L_alike hr (by decide) rfl (R.pa_c (R.pe_methV (R.pe_ix (R.ixL K) (R.pv 6) R.pe_int (fun _ _ => rfl)) hT_worths_a hr (by decide) (R.pa_c (R.pv 2) R.pa_nil)) (R.pa_c (R.pe_ix (R.ixL K) (R.pv 7) R.pe_int (fun _ _ => rfl)) R.pa_nil)))))))) (R.pss_one (R.ps_ret R.pe_bl)) R.pss_nil)
    ht19), ?_⟩
    intro H1 x dx l1 lb ltb ld bs ls fs n x3 x4 x5 x9 x11 x12 hn few st
    have bl := st.ba.1
    refine ⟨_, rfl, _, _, rfl, rfl, _, rfl, ?_⟩
    refine ite2 (fun c => ?_) (fun _ => iteF (rt19 H1 x dx l1 lb ltb ld bs ls fs n _ _ _ _ _ _ hn few st))
    have c' : (0 : Int) < (fs.length : Int) := of_decide_eq_true c
    have f0 : 0 < fs.length := by omega
    have b0 : 0 < bs.length := by omega
    have lsl : ls.length = fs.length := by rw [st.ta.1]; exact List.length_map _
    have g0 : 0 < ls.length := by omega
    have zb : (bs.map V.ref)[0]? = some (V.ref bs[0]) := by rw [List.getElem?_map, List.getElem?_eq_getElem b0]; rfl
    have zl : (ls.map V.ref)[0]? = some (V.ref ls[0]) := by rw [List.getElem?_map, List.getElem?_eq_getElem g0]; rfl
    obtain ⟨ok, ib⟩ := st.ba.2 0 bs[0] fs[0] (List.getElem?_eq_getElem b0) (List.getElem?_eq_getElem f0)
    obtain ⟨C, dx', ff, sp, g1, g2, g3, g4⟩ := askW K (c_Several := c_Several) (c_AnyOf := c_AnyOf) hn ok ib
    refine ⟨_, rfl, lb, _, _, _, rfl, rfl, SqL.of st.bi, at_nat (k := 0) zb, bs[0], C, dx', ff, sp, rfl, g1, g2, s_to_a g3, _, rfl, g4 _ fun l3 H3 s3 h3 w3 => ?_⟩
    have st3 := st.same s3
    have tb0 : H3 ls[0] = some (.lst ((tab (worthF fs[0]) n).map V.int)) := st3.ta.2 0 ls[0] (worthF fs[0]) (List.getElem?_eq_getElem g0) (by show (fs.map worthF)[0]? = _; rw [List.getElem?_map, List.getElem?_eq_getElem f0]; rfl)
    refine ⟨_, rfl, ltb, _, _, _, rfl, rfl, SqL.of st3.tb, at_nat (k := 0) zl, l3, ls[0], _, rfl, w3, SqL.of tb0, fun H4 s4 => ⟨_, rfl, iteF ?_⟩⟩
    exact rt19 H4 x dx l1 lb ltb ld bs ls fs n _ _ _ _ _ _ hn few (st3.same s4)
  obtain ⟨t16, ht16, rt16⟩ : ∃ tt, QSs (cxOf CX0 P w K mg base ["_law_script", "_law_many", "_law_things", "_law_last", "_law_forms", "_law_k", "_law_bids", "_law_tables", "_law_due", "_law_handed", "_law_bid", "_law_found", "_law_alone"] "law" (defScope s_law) f cdv A outer s H E).nox ((defBody s_law).drop 16) tt ∧
      ∀ (H1 : Hp) (x dx l1 lb ltb ld : Addr) (bs ls : List Addr) (fs : List Form) (n : Nat) (x3 x4 x5 x9 x11 : Option V), n ≤ 6 → fs.length ≤ 23 → Stay K c_Bid c_Only c_SoMany c_UpTo c_AnyOf x dx l1 lb ltb ld a bs ls fs n ns H1 →
        tt { nx := fun _ H' => Q .non H', rt := Q } [some (.ref a), some (nv fs.length), some (nv n), x3, x4, x5, some (.ref lb), some (.ref ltb), some (.ref ld), x9, some (.ref x), x11, none] H1 := by
    refine ⟨_, (R.pss_cons (R.ps_set (i := 12) sc_law.nd rfl (Or.inl rfl) (R.pe_methV (R.pe_makeD MK_AnyOf hr (by decide) rfl (R.pa_c (R.pe_slice sl_list (R.pv 6) (R.po_some (R.pe_un un_neg R.pe_int)) R.po_none) R.pa_nil)) hT_worths_a hr (by decide) (R.pa_c (R.pv 2) R.pa_nil)))
    (R.pss_cons (R.ps_if (R.pt_not (R.pt_val (R.pe_callD D_L_alike hr (by decide) rfl (R.pa_c (R.pv 12) (R.pa_c (R.pe_ifExp (R.pt_cmpR op_eq (R.pv 1) R.pe_int (nomark _)) (R.pe_comp (defScope s_law) ["_law_script", "_law_many", "_law_things", "_law_last", "_law_forms", "_law_k", "_law_bids", "_law_tables", "_law_due", "_law_handed", "_law_bid", "_law_found", "_law_alone"] ["_law_place"] [] [] rfl rfl rfl ⟨s.heap.objs.size + 1, rfl⟩ rfl rfl (by decide +kernel) (R.pi_list (R.pv 8)) (fun C s2 H2 fp => (R.pg_name (i := 0) (show List.Nodup (["_law_place"] : List Str) from by decide +kernel) rfl (Or.inl rfl))) (fun C s2 H2 fp => R.pf_nil) (fun C s2 H2 fp => R.pe_int)) (R.pe_ix (R.ixL K) (R.pv 7) (R.pe_op (opE0 op_sub) (R.pv 1) R.pe_int) (fun _ _ => rfl))) R.pa_nil))))) (R.pss_one (R.ps_ret R.pe_bl)) R.pss_nil)
    ht18)), ?_⟩
    intro H1 x dx l1 lb ltb ld bs ls fs n x3 x4 x5 x9 x11 hn few st
    obtain ⟨f1, f2⟩ := pow6 hn
    have bl := st.ba.1
    have okf : ∀ f ∈ fs, FormOk f := fun f hf => by
      obtain ⟨i, hi, rfl⟩ := List.mem_iff_getElem.mp hf
      have hi' : i < bs.length := by rw [bl]; exact hi
      exact (st.ba.2 i _ _ (List.getElem?_eq_getElem hi') (List.getElem?_eq_getElem hi)).1
    refine ⟨_, rfl, 1, rfl, -1, rfl, lb, _, rfl, SqL.of st.bi, fun l9 h9 => ?_⟩
    rw [cut_last, bl]
    have s2 := same_new h9 (.lst ((bs.drop (fs.length - 1)).map V.ref))
    have e2 : upd H1 l9 (.lst ((bs.drop (fs.length - 1)).map V.ref)) l9 = some (.lst ((bs.drop (fs.length - 1)).map V.ref)) := upd_same
    generalize upd H1 l9 (.lst ((bs.drop (fs.length - 1)).map V.ref)) = H2 at s2 e2 ⊢
    have st2 := st.same s2
    refine fun y dy ny ndy ne => ?_
    have sx : Same H2 (upd (upd H2 dy (.own y)) y (.ins c_AnyOf dy [])) := ((Same.refl H2).upd ndy _).upd ny _
    have ba2 := st2.ba.drop (fs.length - 1)
    refine ⟨y, dy, l9, _, _, rfl, upd_same, sx _ _ e2, ba2.same sx, by rw [List.length_drop]; omega, fun H3 l3 s3 h3 => ⟨rfl, ?_⟩⟩
    obtain ⟨S3, any3⟩ := made_any ny ndy s3 h3 ba2
    have any3' := any3
    obtain ⟨dy', l', bs', e31, _⟩ := any3'
    have st3 := st2.same S3
    generalize upd (upd H3 l3 (.lst ((bs.drop (fs.length - 1)).map V.ref))) y (.ins c_AnyOf dy (fsSev l3)) = H4 at S3 any3 e31 st3 ⊢
    refine ⟨y, c_AnyOf, dy', _, _, rfl, e31, rfl, .inr (.inr (.inr (.inr ⟨rfl, rfl⟩))), _, rfl, y, n, fs.drop (fs.length - 1), rfl, hn, any3, fun l5 H5 s5 h5 e5 => ?_⟩
    have st5 := st3.same s5
    refine ⟨_, rfl, _, rfl, rfl, _, rfl, ?_⟩
    refine ite2 (fun c => ?_) (fun c => ?_)
    · have c' : V.int (fs.length : Int) = V.int 0 := of_decide_eq_true c
      have f0 : fs.length = 0 := by injection c' with c'; omega
      have f00 : fs = [] := List.length_eq_zero_iff.mp f0
      refine ⟨_, rfl, ld, rfl, ⟨_, SqL.of st5.du⟩, fun l6 h6 => ?_⟩
      refine comp_lst_map V.int (tab (best fs) n) (fun _ => true) (fun _ => V.int 0) (SqL.of st5.du) (by rw [tab_len]; omega) h6 ?_ ?_ ?_
      · intro z _ H7 s7 C hC; exact hC _ (Same.refl _)
      · intro z _ _ H7 s7 C hC; exact hC _ (Same.refl _)
      intro H7 s7 e7
      have e7' : H7 l6 = some (.lst ((tab (best (fs.drop (fs.length - 1))) n).map V.int)) := by
        rw [e7, List.filter_eq_self.mpr (fun _ _ => rfl), List.map_const', tab_len, f00]
        show some (HO.lst _) = some (HO.lst ((tab (fun _ => 0) n).map V.int))
        unfold tab
        rw [List.map_const', List.length_range, List.map_replicate]
      refine ⟨l5, l6, _, rfl, s7 _ _ e5, SqL.of e7', fun H8 s8 => ⟨_, rfl, iteF ?_⟩⟩
      exact rt18 H8 x dx l1 lb ltb ld bs ls fs n _ _ _ _ _ _ hn few (st5.same (s7.trans s8))
    · have f0 : 0 < fs.length := by
        rcases Nat.eq_zero_or_pos fs.length with e | e
        · exact absurd (by rw [e]; rfl) c
        · exact e
      have lsl : ls.length = fs.length := by rw [st.ta.1]; exact List.length_map _
      have hk : fs.length - 1 < ls.length := by omega
      have hk' : fs.length - 1 < fs.length := by omega
      have zl : (ls.map V.ref)[fs.length - 1]? = some (V.ref ls[fs.length - 1]) := by rw [List.getElem?_map, List.getElem?_eq_getElem hk]; rfl
      have tb0 : H5 ls[fs.length - 1] = some (.lst ((tab (worthF fs[fs.length - 1]) n).map V.int)) := st5.ta.2 _ ls[fs.length - 1] (worthF fs[fs.length - 1]) (List.getElem?_eq_getElem hk) (by show (fs.map worthF)[fs.length - 1]? = _; rw [List.getElem?_map, List.getElem?_eq_getElem hk']; rfl)
      rw [tab_agree (best_last okf f0) hn] at e5
      refine ⟨_, rfl, _, rfl, _, _, nv (fs.length - 1), rfl, rfl, ?_, ltb, _, _, _, rfl, rfl, SqL.of st5.tb, at_nat zl, l5, ls[fs.length - 1], _, rfl, e5, SqL.of tb0, fun H8 s8 => ⟨_, rfl, iteF ?_⟩⟩
      · show V.int ((fs.length : Int) - 1) = V.int ((fs.length - 1 : Nat) : Int)
        congr 1; omega
      exact rt18 H8 x dx l1 lb ltb ld bs ls fs n _ _ _ _ _ _ hn few (st5.same s8)
  obtain ⟨t9, ht9, rt9⟩ : ∃ tt, QSs (cxOf CX0 P w K mg base ["_law_script", "_law_many", "_law_things", "_law_last", "_law_forms", "_law_k", "_law_bids", "_law_tables", "_law_due", "_law_handed", "_law_bid", "_law_found", "_law_alone"] "law" (defScope s_law) f cdv A outer s H E).nox ((defBody s_law).drop 9) tt ∧
      ∀ (H1 : Hp) (lb ltb ld : Addr) (bs ls : List Addr) (fs : List Form) (n : Nat) (x3 x4 x5 : Option V), n ≤ 6 → fs.length ≤ 23 → SqL K H1 a (ns.map V.int) → H1 lb = some (.lst (bs.map V.ref)) → BidsAt c_Bid c_Only c_SoMany c_UpTo H1 bs fs → H1 ltb = some (.lst (ls.map V.ref)) → Tabs H1 ls (gs fs) n → H1 ld = some (.lst ((tab (best fs) n).map V.int)) →
        tt { nx := fun _ H' => Q .non H', rt := Q } [some (.ref a), some (nv fs.length), some (nv n), x3, x4, x5, some (.ref lb), some (.ref ltb), some (.ref ld), none, none, none, none] H1 := by
    refine ⟨_, (R.pss_cons (R.ps_set (i := 9) sc_law.nd rfl (Or.inl rfl) (R.pe_cTy call_list_of rfl m_list (boot_list) (R.pa_c (R.pv 6) R.pa_nil)))
    (R.pss_cons (R.ps_set (i := 10) sc_law.nd rfl (Or.inl rfl) (R.pe_makeD MK_AnyOf hr (by decide) rfl (R.pa_c (R.pv 9) R.pa_nil)))
    (R.pss_cons (R.ps_expr (R.pe_append (R.pv 9) (R.pa_c (R.pe_makeD MK_Only hr (by decide) rfl (R.pa_c R.pe_int (R.pa_c (R.pe_op op_pow R.pe_int R.pe_int) R.pa_nil))) R.pa_nil)))
    (R.pss_cons (R.ps_set (i := 11) sc_law.nd rfl (Or.inl rfl) (R.pe_methV (R.pv 10) hT_worths_a hr (by decide) (R.pa_c (R.pv 2) R.pa_nil)))
    (R.pss_cons (R.ps_if (R.pt_not (R.pt_val (R.pe_callD D_L_alike hr (by decide) rfl (R.pa_c (R.pv 11) (R.pa_c (R.pv 8) R.pa_nil))))) (R.pss_one (R.ps_ret R.pe_bl)) R.pss_nil)
    (R.pss_cons (R.ps_expr (R.pe_clear (R.pv 11)))
    (R.pss_cons (R.ps_expr (R.pe_clear (R.pv 9)))
    ht16))))))), ?_⟩
    intro H1 lb ltb ld bs ls fs n x3 x4 x5 hn few hS1 hb hB htb hT hd
    obtain ⟨f1, f2⟩ := pow6 hn
    have hbl := hB.1
    refine ⟨_, rfl, lb, _, rfl, .inl (SqL.of hb), fun lh h2 => ?_⟩
    have s2 := same_new h2 (.lst (bs.map V.ref))
    have hdd := script_put hS1 h2
    have bh : lb ≠ lh := ne_of_none hb h2
    have tbh : ltb ≠ lh := ne_of_none htb h2
    have eh2 : upd H1 lh (.lst (bs.map V.ref)) lh = some (.lst (bs.map V.ref)) := upd_same
    generalize upd H1 lh (.lst (bs.map V.ref)) = H2 at s2 eh2 ⊢
    have hB2 := hB.same s2
    refine ⟨_, rfl, fun x dx nx nd ne => ?_⟩
    have sx : Same H2 (upd (upd H2 dx (.own x)) x (.ins c_AnyOf dx [])) := ((Same.refl H2).upd nd _).upd nx _
    refine ⟨x, dx, lh, bs, fs, rfl, upd_same, sx _ _ eh2, hB2.same sx, by omega, fun H3 l1 s3 h3 => ⟨rfl, ?_⟩⟩
    obtain ⟨S3, one3⟩ := made_any nx nd s3 h3 hB2
    have l1h : l1 ≠ lh := fun z => by
      have := s3 _ _ (sx _ _ eh2)
      rw [← z, h3] at this; cases this
    have e13 : upd (upd H3 l1 (.lst (bs.map V.ref))) x (.ins c_AnyOf dx (fsSev l1)) x = some (.ins c_AnyOf dx (fsSev l1)) := upd_same
    have e23 : upd (upd H3 l1 (.lst (bs.map V.ref))) x (.ins c_AnyOf dx (fsSev l1)) l1 = some (.lst (bs.map V.ref)) := by
      have ne1 : l1 ≠ x := fun z => by
        have e := s3 _ _ (upd_same (H := upd H2 dx (.own x)) (a := x) (o := .ins c_AnyOf dx []))
        rw [← z, h3] at e; cases e
      rw [upd_ne ne1]; exact upd_same
    generalize upd (upd H3 l1 (.lst (bs.map V.ref))) x (.ins c_AnyOf dx (fsSev l1)) = H4 at S3 one3 e13 e23 ⊢
    have s24 := s2.trans S3
    have eh4 := S3 _ _ eh2
    have st4 : Stay K c_Bid c_Only c_SoMany c_UpTo c_AnyOf x dx l1 lb ltb ld a bs ls fs n ns H4 := ⟨e13, e23, s24 _ _ hb, s24 _ _ htb, s24 _ _ hd, hT.same s24, hB.same s24, s24.seq hS1⟩
    refine ⟨_, rfl, .inl ⟨rfl, _, SqL.of eh4⟩, _, _, rfl, rfl, ⟨by decide, by decide, by decide⟩, fun y dy ny ndy _ => ?_⟩
    refine ⟨y, dy, 1, 10 ^ 9, rfl, by decide, by decide, ⟨by decide, by decide⟩, upd_same, rfl, ?_⟩
    have S5 : Same H4 (upd (upd (upd H4 dy (.own y)) y (.ins c_Only dy [])) y (.ins c_Only dy (fsOnly 1 (10 ^ 9)))) := made_same ny ndy
    generalize upd (upd (upd H4 dy (.own y)) y (.ins c_Only dy [])) y (.ins c_Only dy (fsOnly 1 (10 ^ 9))) = H5 at S5 ⊢
    have st5 := st4.same S5
    refine ⟨lh, _, _, rfl, rfl, S5 _ _ eh4, by rw [List.length_map]; exact small1000 (by omega), ?_⟩
    have st6 := st5.put (o := .lst (bs.map V.ref ++ [V.ref y])) (S5 _ _ eh4) l1h bh tbh hdd
    have eh6 : upd H5 lh (.lst (bs.map V.ref ++ [V.ref y])) lh = some (.lst ((bs ++ [y]).map V.ref)) := by rw [upd_same, List.map_append]; rfl
    generalize upd H5 lh (.lst (bs.map V.ref ++ [V.ref y])) = H6 at st6 eh6 ⊢
    refine ⟨_, rfl, x, c_AnyOf, dx, _, _, rfl, st6.ix, rfl, .inr (.inr (.inr (.inr ⟨rfl, rfl⟩))), _, rfl, x, n, fs, rfl, hn, ⟨dx, l1, bs, st6.ix, st6.il, st6.ba⟩, fun l7 H7 s7 h7 e7 => ?_⟩
    refine ⟨_, rfl, _, rfl, l7, ld, _, rfl, e7, SqL.of (s7 _ _ st6.du), fun H8 s8 => ⟨_, rfl, iteF ?_⟩⟩
    have s68 := s7.trans s8
    have e8 := s8 _ _ e7
    refine ⟨_, rfl, .inl ⟨rfl, _, SqL.of e8⟩, l7, _, rfl, rfl, e8, ?_⟩
    have s69 : Same H6 (upd H8 l7 (.lst [])) := s68.upd h7 _
    generalize upd H8 l7 (.lst []) = H9 at s69 ⊢
    refine ⟨_, rfl, .inl ⟨rfl, _, SqL.of (s69 _ _ eh6)⟩, lh, _, rfl, rfl, s69 _ _ eh6, ?_⟩
    have st10 := (st6.same s69).put (o := .lst []) (s69 _ _ eh6) l1h bh tbh hdd
    exact rt16 _ x dx l1 lb ltb ld bs ls fs n _ _ _ _ _ hn few st10
  obtain ⟨t7, ht7, rt7⟩ : ∃ tt, QSs (cxOf CX0 P w K mg base ["_law_script", "_law_many", "_law_things", "_law_last", "_law_forms", "_law_k", "_law_bids", "_law_tables", "_law_due", "_law_handed", "_law_bid", "_law_found", "_law_alone"] "law" (defScope s_law) f cdv A outer s H E).nox ((defBody s_law).drop 7) tt ∧
      ∀ (H1 : Hp) (lf lb : Addr) (ps bs : List Addr) (fs : List Form) (n : Nat) (x3 x5 : Option V), n ≤ 6 → fs.length ≤ 23 → fs.length ^ n ≤ 216 → SqL K H1 a (ns.map V.int) → Sit c_Bid c_Only c_SoMany c_UpTo H1 lf lb ps bs fs →
        tt { nx := fun _ H' => Q .non H', rt := Q } [some (.ref a), some (nv fs.length), some (nv n), x3, some (.ref lf), x5, some (.ref lb), none, none, none, none, none, none] H1 := by
    refine ⟨_, (R.pss_cons (R.ps_setC (i := 7) sc_law.nd rfl (Or.inr rfl) (R.pe_compC "_law_form_here" ["_law_things"] [2] rfl (R.pi_list (R.pv 4)) (fun C s2 H2 fp => (R.pg_name (i := 0) (show List.Nodup (["_law_form_here", "_law_things"] : List Str) from by decide +kernel) rfl (Or.inr rfl))) (fun C s2 H2 fp => R.pf_nil) (fun C s2 H2 fp => (R.pe_compI ["_law_bundle"] ["_law_form_here"] [0] rfl (R.pi_range1 rfl m_range (R.pa_c (R.pe_op op_shlN R.pe_int (R.pv 1)) R.pa_nil)) (fun C s2 H2 fp => (R.pg_name (i := 0) (show List.Nodup (["_law_bundle", "_law_form_here"] : List Str) from by decide +kernel) rfl (Or.inl rfl))) (fun C s2 H2 fp => R.pf_nil) (fun C s2 H2 fp => (R.pe_callD D_L_worth hr (by decide) rfl (R.pa_c (R.pv 1) (R.pa_c (R.pv 0) R.pa_nil))))))))
    (R.pss_cons (R.ps_compE (i := 8) (defScope s_law) ["_law_script", "_law_many", "_law_things", "_law_last", "_law_forms", "_law_k", "_law_bids", "_law_tables", "_law_due", "_law_handed", "_law_bid", "_law_found", "_law_alone"] ["_law_bundle"] ["_law_tables"] [7] sc_law.nd rfl (Or.inl rfl) rfl rfl rfl rfl rfl ⟨s.heap.objs.size + 1, rfl⟩ rfl rfl (by decide +kernel) (R.pi_range1 rfl m_range (R.pa_c (R.pe_op op_shlN R.pe_int (R.pv 2)) R.pa_nil)) (fun C s2 H2 fp => (R.pg_name (i := 0) (show List.Nodup (["_law_bundle", "_law_tables"] : List Str) from by decide +kernel) rfl (Or.inl rfl))) (fun C s2 H2 fp => R.pf_nil) (fun C s2 H2 fp => (R.pe_callD D_L_best hr (by decide) rfl (R.pa_c (R.pv 1) (R.pa_c (R.pv 0) R.pa_nil)))))
    ht9)), ?_⟩
    intro H1 lf lb ps bs fs n x3 x5 hn few hw hS1 st
    obtain ⟨f1, f2⟩ := pow6 hn
    have gl : (gs fs).length = fs.length := List.length_map _
    refine ⟨_, rfl, lf, rfl, ⟨_, SqL.of st.fo⟩, fun ltb htb => ?_⟩
    refine comp_lst1 (xs := ps.map V.ref) (fun k H' => Same H1 H' ∧ ∃ ls : List Addr, H' ltb = some (.lst (ls.map V.ref)) ∧ Tabs H' ls (gs (fs.take k)) n) ?_ (fun k H' _ ⟨s', _⟩ => SqL.of (s' _ _ st.fo)) ?_ ?_
    · exact ⟨same_new htb _, [], upd_same, rfl, fun i l g e => by simp at e⟩
    · rintro k v H2 hv ⟨s2, ls, e2, hT⟩ K1 K0 k1 k0
      rw [List.getElem?_map] at hv
      obtain ⟨p, hp, rfl⟩ := Option.map_eq_some_iff.mp hv
      have hk := (List.getElem?_eq_some_iff.mp hp).1
      have hk' : k < fs.length := by rw [← st.len]; exact hk
      obtain ⟨ok, fa⟩ := st.fa k p fs[k] hp (List.getElem?_eq_getElem hk')
      have lsl : ls.length ≤ 23 := by
        have e : ls.length = (gs (fs.take k)).length := hT.1
        rw [e]; show ((fs.take k).map worthF).length ≤ 23
        rw [List.length_map, List.length_take]; omega
      refine ⟨_, rfl, n, rfl, rfl, by omega, _, rfl, (rng6 hn).1, (rng6 hn).2, fun li hli => ?_⟩
      rw [Int.toNat_natCast]
      refine comp_rng_map (n := 2 ^ n) (fun _ => true) (fun z => V.int (worthF fs[k] z)) (by omega) hli ?_ ?_ ?_
      · intro z H3 hz s3 C hC; exact hC _ (Same.refl _)
      · intro z H3 hz _ s3 C hC
        rw [Int.zero_add]
        exact ⟨_, rfl, _, rfl, p, fs[k], z, rfl, ok, fa.same (s2.trans s3), by omega, fun H4 s4 => hC _ s4⟩
      intro H3 s3 e3
      have e3' : H3 li = some (.lst ((tab (worthF fs[k]) n).map V.int)) := by
        rw [e3, List.filter_eq_self.mpr (fun _ _ => rfl)]
        unfold tab
        rw [List.map_map]; rfl
      refine k1 _ _ _ (s3 _ _ e2) (by rw [List.length_map]; exact small1000 (by omega)) ⟨(s2.trans s3).upd htb _, ls ++ [li], by rw [upd_same, List.map_append]; rfl, ?_⟩
      have T3 : Tabs H3 (ls ++ [li]) (gs (fs.take (k + 1))) n := by
        have ek : gs (fs.take (k + 1)) = gs (fs.take k) ++ [worthF fs[k]] := by
          unfold gs
          rw [List.take_succ, List.getElem?_eq_getElem hk', List.map_append]; rfl
        rw [ek]
        exact (hT.same s3).snoc e3'
      exact T3.put (s3 _ _ e2)
    rintro H2 ⟨s2, ls, e2, hT⟩
    rw [List.length_map, st.len, List.take_length] at hT
    refine ⟨_, rfl, n, rfl, rfl, by omega, _, rfl, (rng6 hn).1, (rng6 hn).2, fun ld hd => ?_⟩
    rw [Int.toNat_natCast]
    refine comp_rng_map (n := 2 ^ n) (fun _ => true) (fun z => V.int (best fs z)) (by omega) hd ?_ ?_ ?_
    · intro z H3 hz s3 C hC; exact hC _ (Same.refl _)
    · intro z H3 hz _ s3 C hC
      rw [Int.zero_add]
      refine ⟨_, rfl, _, rfl, ltb, ls, gs fs, n, z, rfl, hn, hz, by rw [gl]; exact few, by rw [gl]; exact hw, fun g hg => ?_, s3 _ _ e2, hT.same s3, fun H4 s4 => hC _ s4⟩
      obtain ⟨f, hf, rfl⟩ := List.mem_map.mp hg
      obtain ⟨i, hi, rfl⟩ := List.mem_iff_getElem.mp hf
      have hi' : i < ps.length := by rw [st.len]; exact hi
      exact worthF_good (st.fa i ps[i] fs[i] (List.getElem?_eq_getElem hi') (List.getElem?_eq_getElem hi)).1
    intro H3 s3 e3
    have e3' : H3 ld = some (.lst ((tab (best fs) n).map V.int)) := by
      rw [e3, List.filter_eq_self.mpr (fun _ _ => rfl)]
      unfold tab
      rw [List.map_map]; rfl
    have st3 := st.same (s2.trans s3)
    exact rt9 H3 lb ltb ld bs ls fs n _ _ _ hn few ((s2.trans s3).seq hS1) st3.bi st3.ba (s3 _ _ e2) (hT.same s3) e3'
  obtain ⟨t6, ht6, rt6⟩ : ∃ tt, QSs (cxOf CX0 P w K mg base ["_law_script", "_law_many", "_law_things", "_law_last", "_law_forms", "_law_k", "_law_bids", "_law_tables", "_law_due", "_law_handed", "_law_bid", "_law_found", "_law_alone"] "law" (defScope s_law) f cdv A outer s H E).nox ((defBody s_law).drop 6) tt ∧
      ∀ (H1 : Hp) (lf lb : Addr) (ps bs : List Addr) (fs : List Form) (n : Nat) (x3 x5 : Option V), n ≤ 6 → fs.length ≤ 23 → fs.length ^ n ≤ 216 → lf ≠ lb → (a ≠ lf ∨ ∀ H, SqL K H a (ns.map V.int)) → (a ≠ lb ∨ ∀ H, SqL K H a (ns.map V.int)) → SqL K H1 a (ns.map V.int) → Sit c_Bid c_Only c_SoMany c_UpTo H1 lf lb ps bs fs →
        tt { nx := fun _ H' => Q .non H', rt := Q } [some (.ref a), some (nv fs.length), some (nv n), x3, some (.ref lf), x5, some (.ref lb), none, none, none, none, none, none] H1 := by
    refine ⟨_, (R.pss_cons (R.ps_if (R.pt (R.pw_and (R.pt_cmpR op_gt (R.pv 1) R.pe_int (nomark _)) (R.pw_and1 (R.pt_cmpR op_eq (R.pe_op op_mod (R.pe_op op_fdiv (R.pe_callD D_L_cell hr (by decide) rfl (R.pa_c (R.pv 0) (R.pa_c R.pe_int R.pa_nil))) R.pe_int) R.pe_int) R.pe_int (nomark _))))) (R.pss_cons (R.ps_asg (R.pe_ix (R.ixL K) (R.pv 4) R.pe_int (fun _ _ => rfl)) (R.pg_setL (R.pv 4) R.pe_int))
      (R.pss_one (R.ps_asg (R.pe_ix (R.ixL K) (R.pv 6) R.pe_int (fun _ _ => rfl)) (R.pg_setL (R.pv 6) R.pe_int)))) R.pss_nil)
    ht7), ?_⟩
    intro H1 lf lb ps bs fs n x3 x5 hn few hw nfb nd1 nd2 hS1 st
    refine ⟨_, rfl, _, _, rfl, rfl, _, rfl, ?_⟩
    refine ite2 (fun c => ?_) (fun _ => iteF (rt7 H1 lf lb ps bs fs n _ _ hn few hw hS1 st))
    have c' : (1 : Int) < (fs.length : Int) := of_decide_eq_true c
    have h1 : 1 < fs.length := by omega
    refine ⟨_, rfl, a, ns, 1, rfl, hS1, by decide, fun H2 s2 => ⟨_, _, rfl, rfl, ⟨by decide, by decide⟩, _, _, rfl, rfl, (by show (0 : Int) < 4; decide), rfl, _, rfl, ?_⟩⟩
    have st2 := st.same s2
    have hS2 := s2.seq hS1
    refine ite2 (fun _ => ?_) (fun _ => rt7 H2 lf lb ps bs fs n _ _ hn few hw hS2 st2)
    have p0 : 0 < ps.length := by rw [st.len]; omega
    have p1 : 1 < ps.length := by rw [st.len]; omega
    have b0 : 0 < bs.length := by rw [st.ba.1]; omega
    have b1 : 1 < bs.length := by rw [st.ba.1]; omega
    have f0 : 0 < fs.length := by omega
    have zp : (ps.map V.ref)[0]? = some (V.ref ps[0]) := by rw [List.getElem?_map, List.getElem?_eq_getElem p0]; rfl
    have zb : (bs.map V.ref)[0]? = some (V.ref bs[0]) := by rw [List.getElem?_map, List.getElem?_eq_getElem b0]; rfl
    refine ⟨_, rfl, lf, _, _, _, rfl, rfl, SqL.of st2.fo, at_nat (k := 0) zp, _, rfl, lf, _, 1, 1, rfl, rfl, st2.fo, ?_, ?_⟩
    · unfold ixN
      rw [if_pos (by decide), if_pos (by rw [List.length_map]; omega)]; rfl
    have eb3 : upd H2 lf (.lst ((ps.map V.ref).set 1 (V.ref ps[0]))) lb = some (.lst (bs.map V.ref)) := by rw [upd_ne (Ne.symm nfb)]; exact st2.bi
    refine ⟨_, rfl, lb, _, _, _, rfl, rfl, SqL.of eb3, at_nat (k := 0) zb, _, rfl, lb, _, 1, 1, rfl, rfl, eb3, ?_, ?_⟩
    · unfold ixN
      rw [if_pos (by decide), if_pos (by rw [List.length_map]; omega)]; rfl
    have fl : (fs.set 1 fs[0]).length = fs.length := List.length_set
    have hw' : (fs.set 1 fs[0]).length ^ n ≤ 216 := by rw [fl]; exact hw
    have hS9 := seq_put (o := .lst ((bs.map V.ref).set 1 (V.ref bs[0]))) (seq_put (o := .lst ((ps.map V.ref).set 1 (V.ref ps[0]))) hS2 nd1) nd2
    have go := rt7 _ lf lb (ps.set 1 ps[0]) (bs.set 1 bs[0]) (fs.set 1 fs[0]) n x3 x5 hn (by rw [fl]; exact few) hw' hS9 ⟨?_, ?_, ?_, ?_, ?_, ?_⟩
    · rw [fl] at go; exact go
    · rw [upd_ne nfb, upd_same, List.map_set]
    · rw [upd_same, List.map_set]
    · rw [List.length_set, List.length_set, st.len]
    · intro i p f e1 e2
      by_cases hi : i = 1
      · subst hi
        rw [List.getElem?_set_self p1] at e1
        rw [List.getElem?_set_self h1] at e2
        cases e1; cases e2
        obtain ⟨ok, fa⟩ := st2.fa 0 ps[0] fs[0] (List.getElem?_eq_getElem p0) (List.getElem?_eq_getElem f0)
        exact ⟨ok, (fa.put st2.fo).put eb3⟩
      · rw [List.getElem?_set_ne (Ne.symm hi)] at e1 e2
        obtain ⟨ok, fa⟩ := st2.fa i p f e1 e2
        exact ⟨ok, (fa.put st2.fo).put eb3⟩
    · rw [List.length_set, List.length_set, st.ba.1]
    · intro i b f e1 e2
      by_cases hi : i = 1
      · subst hi
        rw [List.getElem?_set_self b1] at e1
        rw [List.getElem?_set_self h1] at e2
        cases e1; cases e2
        obtain ⟨ok, ib⟩ := st2.ba.2 0 bs[0] fs[0] (List.getElem?_eq_getElem b0) (List.getElem?_eq_getElem f0)
        exact ⟨ok, (ib.put st2.fo).put eb3⟩
      · rw [List.getElem?_set_ne (Ne.symm hi)] at e1 e2
        obtain ⟨ok, ib⟩ := st2.ba.2 i b f e1 e2
        exact ⟨ok, (ib.put st2.fo).put eb3⟩
  obtain ⟨t3, ht3, rt3⟩ : ∃ tt, QSs (cxOf CX0 P w K mg base ["_law_script", "_law_many", "_law_things", "_law_last", "_law_forms", "_law_k", "_law_bids", "_law_tables", "_law_due", "_law_handed", "_law_bid", "_law_found", "_law_alone"] "law" (defScope s_law) f cdv A outer s H E).nox ((defBody s_law).drop 3) tt ∧
      ∀ (H1 : Hp) (m n last : Nat), n ≤ 6 → m ≤ 23 → m ^ n ≤ 216 → 1 ≤ last → last ≤ 63 → SqL K H1 a (ns.map V.int) →
        tt { nx := fun _ H' => Q .non H', rt := Q } [some (.ref a), some (nv m), some (nv n), some (nv last), none, none, none, none, none, none, none, none, none] H1 := by
    refine ⟨_, (R.pss_cons (R.ps_set (i := 4) sc_law.nd rfl (Or.inl rfl) (R.pe_lst R.pa_nil))
    (R.pss_cons (R.ps_for PassesOwn.never rfl (R.pi_range1 rfl m_range (R.pa_c (R.pv 1) R.pa_nil)) (R.pg_name (i := 5) sc_law.nd rfl (Or.inl rfl)) (R.pss_one (R.ps_expr (R.pe_append (R.pv 4) (R.pa_c (R.pe_callD D_L_form hr (by decide) rfl (R.pa_c (R.pe_callD D_L_cell hr (by decide) rfl (R.pa_c (R.pv 0) (R.pa_c (R.pe_op (opE0 op_add) R.pe_int (R.pe_op op_mulB R.pe_int (R.pv 5))) R.pa_nil))) (R.pa_c (R.pe_callD D_L_cell hr (by decide) rfl (R.pa_c (R.pv 0) (R.pa_c (R.pe_op (opE0 op_add) R.pe_int (R.pe_op op_mulB R.pe_int (R.pv 5))) R.pa_nil))) (R.pa_c (R.pv 3) R.pa_nil)))) R.pa_nil)))))
    (R.pss_cons (R.ps_compE (i := 6) (defScope s_law) ["_law_script", "_law_many", "_law_things", "_law_last", "_law_forms", "_law_k", "_law_bids", "_law_tables", "_law_due", "_law_handed", "_law_bid", "_law_found", "_law_alone"] ["_law_form_here"] [] [] sc_law.nd rfl (Or.inl rfl) rfl rfl rfl rfl rfl ⟨s.heap.objs.size + 1, rfl⟩ rfl rfl (by decide +kernel) (R.pi_list (R.pv 4)) (fun C s2 H2 fp => (R.pg_name (i := 0) (show List.Nodup (["_law_form_here"] : List Str) from by decide +kernel) rfl (Or.inl rfl))) (fun C s2 H2 fp => R.pf_nil) (fun C s2 H2 fp => (R.pe_callD D_L_single hr (by decide) rfl (R.pa_c (R.pv 0) R.pa_nil))))
    ht6))), ?_⟩
    intro H1 m n last hn hm hw la1 la2 hS1
    refine ⟨(by show 0 ≤ sizeLine; decide), fun lf hf => ?_⟩
    have hdd := script_put hS1 hf
    refine ⟨_, rfl, _, rfl, by omega, by omega, ?_⟩
    rw [Int.toNat_natCast]
    refine for_range (n := m) (lo := 0) (fun i σ H' => SqL K H' a (ns.map V.int) ∧ (∃ (ps : List Addr) (fs : List Form), fs.length = i ∧ ps.length = fs.length ∧ H' lf = some (.lst (ps.map V.ref)) ∧ ∀ (i : Nat) (p : Addr) (f : Form), ps[i]? = some p → fs[i]? = some f → FormOk f ∧ FormAt H' p f) ∧ ∃ y, σ = [some (.ref a), some (nv m), some (nv n), some (nv last), some (.ref lf), y, none, none, none, none, none, none, none]) ?_ ?_ ?_
    · exact ⟨(same_new hf _).seq hS1, ⟨[], [], rfl, rfl, upd_same, fun i p f e => by simp at e⟩, _, rfl⟩
    · rintro k σ H2 hk ⟨hS2, ⟨ps, fs, hl, hpl, e2, hfa⟩, y, rfl⟩
      rw [Int.zero_add]
      refine ⟨_, rfl, .inl ⟨rfl, _, SqL.of e2⟩, ?_⟩
      refine ⟨_, rfl, _, rfl, _, _, rfl, rfl, mulOk_left (by decide), _, _, nv (2 + 2 * k), rfl, rfl, rfl, a, ns, 2 + 2 * k, rfl, hS2, by omega, fun H3 s3 => ?_⟩
      refine ⟨_, rfl, _, rfl, _, _, rfl, rfl, mulOk_left (by decide), _, _, nv (3 + 2 * k), rfl, rfl, rfl, a, ns, 3 + 2 * k, rfl, s3.seq hS2, by omega, fun H4 s4 => ?_⟩
      refine ⟨_, rfl, _, _, last, rfl, la1, la2, fun p H5 f s5 hp ok fa => ?_⟩
      have S := (s3.trans s4).trans s5
      have e5 := S _ _ e2
      refine ⟨lf, _, _, rfl, rfl, e5, by rw [List.length_map]; exact small1000 (by omega), seq_put (S.seq hS2) hdd, ⟨ps ++ [p], fs ++ [f], by rw [List.length_append, hl]; rfl, by rw [List.length_append, List.length_append, hpl]; rfl, by rw [upd_same, List.map_append]; rfl, fun i x y e1 e3 => ?_⟩, _, rfl⟩
      by_cases hi : i < ps.length
      · rw [List.getElem?_append_left hi] at e1
        rw [List.getElem?_append_left (by rw [← hpl]; exact hi)] at e3
        obtain ⟨o1, o2⟩ := hfa i x y e1 e3
        exact ⟨o1, (o2.same S).put e5⟩
      · have hi' : i = ps.length := by
          have := (List.getElem?_eq_some_iff.mp e1).1
          rw [List.length_append, List.length_singleton] at this; omega
        subst hi'
        rw [List.getElem?_append_right (Nat.le_refl _), Nat.sub_self] at e1
        rw [hpl, List.getElem?_append_right (Nat.le_refl _), Nat.sub_self] at e3
        cases e1; cases e3
        exact ⟨ok, fa.put e5⟩
    · rintro σ H2 ⟨hS2, ⟨ps, fs, hl, hpl, e2, hfa⟩, y, rfl⟩
      refine ⟨_, rfl, lf, rfl, ⟨_, SqL.of e2⟩, fun lb hb => ?_⟩
      have nfb : lf ≠ lb := ne_of_none e2 hb
      refine comp_lst1 (xs := ps.map V.ref) (fun k H' => Same H2 H' ∧ ∃ bs : List Addr, H' lb = some (.lst (bs.map V.ref)) ∧ BidsAt c_Bid c_Only c_SoMany c_UpTo H' bs (fs.take k)) ?_ (fun k H' _ ⟨s', _⟩ => SqL.of (s' _ _ e2)) ?_ ?_
      · exact ⟨same_new hb _, [], upd_same, rfl, fun i b f e => by simp at e⟩
      · rintro k v H3 hv ⟨s3, bs, eb, hB⟩ K1 K0 k1 k0
        rw [List.getElem?_map] at hv
        obtain ⟨p, hp, rfl⟩ := Option.map_eq_some_iff.mp hv
        have hk := (List.getElem?_eq_some_iff.mp hp).1
        have hk' : k < fs.length := by rw [← hpl]; exact hk
        obtain ⟨ok, fa⟩ := hfa k p fs[k] hp (List.getElem?_eq_getElem hk')
        refine ⟨_, rfl, p, fs[k], rfl, ok, fa.same s3, fun b H4 s4 nb ib => k1 _ _ _ (s4 _ _ eb) ?_ ⟨(s3.trans s4).upd hb _, bs ++ [b], by rw [upd_same, List.map_append]; rfl, ?_⟩⟩
        · rw [List.length_map, hB.1, List.length_take]; exact small1000 (by omega)
        · rw [List.take_succ, List.getElem?_eq_getElem hk']
          exact ((hB.same s4).snoc ok ib).put (s4 _ _ eb)
      · rintro H3 ⟨s3, bs, eb, hB⟩
        rw [List.length_map, hpl, List.take_length] at hB
        subst hl
        exact rt6 H3 lf lb ps bs fs n _ _ hn hm hw nfb hdd (script_put hS2 hb) (s3.seq hS2) ⟨s3 _ _ e2, eb, hpl, fun i p f e1 e3 => ⟨(hfa i p f e1 e3).1, (hfa i p f e1 e3).2.same s3⟩, hB⟩
  refine ⟨_, (R.pss_cons (R.ps_asg (R.pe_callD D_L_sizes hr (by decide) rfl (R.pa_c (R.pe_callD D_L_cell hr (by decide) rfl (R.pa_c (R.pv 0) (R.pa_c R.pe_int R.pa_nil))) R.pa_nil)) (R.pg_tup K 2 rfl (R.pgs_cons (R.pg_name (i := 1) sc_law.nd rfl (Or.inl rfl)) (R.pgs_cons (R.pg_name (i := 2) sc_law.nd rfl (Or.inr rfl)) R.pgs_nil))))
    (R.pss_cons (R.ps_set (i := 3) sc_law.nd rfl (Or.inl rfl) R.pe_int)
    (R.pss_cons (R.ps_if (R.pt_cmpR op_eq (R.pe_op op_mod (R.pe_callD D_L_cell hr (by decide) rfl (R.pa_c (R.pv 0) (R.pa_c R.pe_int R.pa_nil))) R.pe_int) R.pe_int (nomark _)) (R.pss_one (R.ps_set (i := 3) sc_law.nd rfl (Or.inl rfl) (R.pe_op (opE0 op_sub) (R.pe_op op_shlN R.pe_int (R.pv 2)) R.pe_int))) R.pss_nil)
    ht3))), ?_⟩
  refine ⟨_, rfl, a, ns, 0, rfl, hS, by decide, fun H1 s1 => ⟨_, rfl, fun p H2 m n s2 ep m23 n1 n6 hw => ⟨p, _, rfl, SqT.of ep, rfl, _, _, rfl, _, _, rfl, rfl, ?_⟩⟩⟩
  obtain ⟨f1, f2⟩ := pow6 n6
  have hS2 := (s1.trans s2).seq hS
  refine ⟨_, rfl, a, ns, 1, rfl, hS2, by decide, fun H3 s3 => ⟨_, _, rfl, rfl, (by show (0 : Int) < 2; decide), rfl, _, rfl, ?_⟩⟩
  have two : 2 ^ 1 ≤ 2 ^ n := Nat.pow_le_pow_right (by decide) n1
  refine ite2 (fun _ => ?_) (fun _ => rt3 H3 m n 63 n6 m23 hw (by decide) (by decide) (s3.seq hS2))
  refine ⟨_, rfl, n, rfl, rfl, by omega, _, _, nv (2 ^ n - 1), rfl, rfl, ?_, rt3 H3 m n (2 ^ n - 1) n6 m23 hw (by omega) (by omega) (s3.seq hS2)⟩
  show V.int (((2 ^ n : Nat) : Int) - 1) = V.int ((2 ^ n - 1 : Nat) : Int)
  congr 1; omega
end
end My


set_option Elab.async false
set_option linter.all false
set_option maxRecDepth 100000
set_option maxHeartbeats 4000000
namespace My
open PySem PySem.Spec PyProof.Rows L2 GM
theorem all_mk {l : PySem.W.OpenLaw} {w : World} {K : PySem.W.Frag} {h : Heap} {mg : Str → Option Value} {fa : Addr} (X : K.In h) (G : h.Ns mainGlobals mg) (hfa : mg "law" = some (.ref fa))
    {c_Bid c_Only c_SoMany c_UpTo c_Several c_AnyOf : Addr}
    (b_Bid : PySem.W.nsIn K mainGlobals "Bid" = some (some (.ref c_Bid)))
    (pg_Bid : PySem.W.plainGet K c_Bid Str.empty = true)
    (hd_Bid : PySem.W.hasDictIn K c_Bid = true)
    (po_Bid : PySem.W.plainOver K c_Bid = true)
    (sa_Bid : PySem.W.findIn K (.ref c_Bid) "__setattr__" = some (some (.builtin "object.__setattr__")))
    (mk_Bid : PySem.W.makesIn K c_Bid = true)
    (kp_Bid : PySem.W.keepIn K (.ref c_Bid) = true)
    (t1_Bid : PySem.W.findIn K (.ref c_Bid) "__class__" = some (some (.builtin "object.__class__")))
    (t2_Bid : PySem.W.specialIn K (.builtin "object.__class__") "__get__" = some (some (.builtin "getset_descriptor.__get__")))
    (t3_Bid : PySem.W.takesIn K (.builtin "object.__class__") = some true)
    (t4_Bid : PySem.W.mroIn K c_Bid (.type "object") = some true)
    (in_Bid : PySem.W.findIn K (.ref c_Bid) "__init__" = some (some (.builtin "object.__init__")))
    (b_Only : PySem.W.nsIn K mainGlobals "Only" = some (some (.ref c_Only)))
    (pg_Only : PySem.W.plainGet K c_Only Str.empty = true)
    (hd_Only : PySem.W.hasDictIn K c_Only = true)
    (po_Only : PySem.W.plainOver K c_Only = true)
    (sa_Only : PySem.W.findIn K (.ref c_Only) "__setattr__" = some (some (.builtin "object.__setattr__")))
    (mk_Only : PySem.W.makesIn K c_Only = true)
    (kp_Only : PySem.W.keepIn K (.ref c_Only) = true)
    (no_Only_bundle : PySem.W.findIn K (.ref c_Only) "bundle" = some none)
    (no_Only_amount : PySem.W.findIn K (.ref c_Only) "amount" = some none)
    (t1_Only : PySem.W.findIn K (.ref c_Only) "__class__" = some (some (.builtin "object.__class__")))
    (t2_Only : PySem.W.specialIn K (.builtin "object.__class__") "__get__" = some (some (.builtin "getset_descriptor.__get__")))
    (t3_Only : PySem.W.takesIn K (.builtin "object.__class__") = some true)
    (t4_Only : PySem.W.mroIn K c_Only (.type "object") = some true)
    (b_SoMany : PySem.W.nsIn K mainGlobals "SoMany" = some (some (.ref c_SoMany)))
    (pg_SoMany : PySem.W.plainGet K c_SoMany Str.empty = true)
    (hd_SoMany : PySem.W.hasDictIn K c_SoMany = true)
    (po_SoMany : PySem.W.plainOver K c_SoMany = true)
    (sa_SoMany : PySem.W.findIn K (.ref c_SoMany) "__setattr__" = some (some (.builtin "object.__setattr__")))
    (mk_SoMany : PySem.W.makesIn K c_SoMany = true)
    (kp_SoMany : PySem.W.keepIn K (.ref c_SoMany) = true)
    (no_SoMany_kind : PySem.W.findIn K (.ref c_SoMany) "kind" = some none)
    (no_SoMany_least : PySem.W.findIn K (.ref c_SoMany) "least" = some none)
    (no_SoMany_amount : PySem.W.findIn K (.ref c_SoMany) "amount" = some none)
    (t1_SoMany : PySem.W.findIn K (.ref c_SoMany) "__class__" = some (some (.builtin "object.__class__")))
    (t2_SoMany : PySem.W.specialIn K (.builtin "object.__class__") "__get__" = some (some (.builtin "getset_descriptor.__get__")))
    (t3_SoMany : PySem.W.takesIn K (.builtin "object.__class__") = some true)
    (t4_SoMany : PySem.W.mroIn K c_SoMany (.type "object") = some true)
    (b_UpTo : PySem.W.nsIn K mainGlobals "UpTo" = some (some (.ref c_UpTo)))
    (pg_UpTo : PySem.W.plainGet K c_UpTo Str.empty = true)
    (hd_UpTo : PySem.W.hasDictIn K c_UpTo = true)
    (po_UpTo : PySem.W.plainOver K c_UpTo = true)
    (sa_UpTo : PySem.W.findIn K (.ref c_UpTo) "__setattr__" = some (some (.builtin "object.__setattr__")))
    (mk_UpTo : PySem.W.makesIn K c_UpTo = true)
    (kp_UpTo : PySem.W.keepIn K (.ref c_UpTo) = true)
    (no_UpTo_kind : PySem.W.findIn K (.ref c_UpTo) "kind" = some none)
    (no_UpTo_most : PySem.W.findIn K (.ref c_UpTo) "most" = some none)
    (no_UpTo_each : PySem.W.findIn K (.ref c_UpTo) "each" = some none)
    (t1_UpTo : PySem.W.findIn K (.ref c_UpTo) "__class__" = some (some (.builtin "object.__class__")))
    (t2_UpTo : PySem.W.specialIn K (.builtin "object.__class__") "__get__" = some (some (.builtin "getset_descriptor.__get__")))
    (t3_UpTo : PySem.W.takesIn K (.builtin "object.__class__") = some true)
    (t4_UpTo : PySem.W.mroIn K c_UpTo (.type "object") = some true)
    (b_Several : PySem.W.nsIn K mainGlobals "Several" = some (some (.ref c_Several)))
    (pg_Several : PySem.W.plainGet K c_Several Str.empty = true)
    (hd_Several : PySem.W.hasDictIn K c_Several = true)
    (po_Several : PySem.W.plainOver K c_Several = true)
    (sa_Several : PySem.W.findIn K (.ref c_Several) "__setattr__" = some (some (.builtin "object.__setattr__")))
    (mk_Several : PySem.W.makesIn K c_Several = true)
    (kp_Several : PySem.W.keepIn K (.ref c_Several) = true)
    (no_Several_bids : PySem.W.findIn K (.ref c_Several) "bids" = some none)
    (t1_Several : PySem.W.findIn K (.ref c_Several) "__class__" = some (some (.builtin "object.__class__")))
    (t2_Several : PySem.W.specialIn K (.builtin "object.__class__") "__get__" = some (some (.builtin "getset_descriptor.__get__")))
    (t3_Several : PySem.W.takesIn K (.builtin "object.__class__") = some true)
    (t4_Several : PySem.W.mroIn K c_Several (.type "object") = some true)
    (b_AnyOf : PySem.W.nsIn K mainGlobals "AnyOf" = some (some (.ref c_AnyOf)))
    (pg_AnyOf : PySem.W.plainGet K c_AnyOf Str.empty = true)
    (hd_AnyOf : PySem.W.hasDictIn K c_AnyOf = true)
    (po_AnyOf : PySem.W.plainOver K c_AnyOf = true)
    (sa_AnyOf : PySem.W.findIn K (.ref c_AnyOf) "__setattr__" = some (some (.builtin "object.__setattr__")))
    (mk_AnyOf : PySem.W.makesIn K c_AnyOf = true)
    (kp_AnyOf : PySem.W.keepIn K (.ref c_AnyOf) = true)
    (no_AnyOf_bids : PySem.W.findIn K (.ref c_AnyOf) "bids" = some none)
    (t1_AnyOf : PySem.W.findIn K (.ref c_AnyOf) "__class__" = some (some (.builtin "object.__class__")))
    (t2_AnyOf : PySem.W.specialIn K (.builtin "object.__class__") "__get__" = some (some (.builtin "getset_descriptor.__get__")))
    (t3_AnyOf : PySem.W.takesIn K (.builtin "object.__class__") = some true)
    (t4_AnyOf : PySem.W.mroIn K c_AnyOf (.type "object") = some true)
    (kit_Bid_Bid : PySem.W.kitOne K (.ref c_Bid) (.ref c_Bid) = some true)
    (kit_Only_Bid : PySem.W.kitOne K (.ref c_Only) (.ref c_Bid) = some true)
    (kit_SoMany_Bid : PySem.W.kitOne K (.ref c_SoMany) (.ref c_Bid) = some true)
    (kit_UpTo_Bid : PySem.W.kitOne K (.ref c_UpTo) (.ref c_Bid) = some true)
    (kit_Several_Bid : PySem.W.kitOne K (.ref c_Several) (.ref c_Bid) = some true)
    (kit_AnyOf_Bid : PySem.W.kitOne K (.ref c_AnyOf) (.ref c_Bid) = some true)
    {f0 : Addr} {od0 an0 : Option Addr} {sl0 : Array (Option Value)} {oc0 kV0 dc0 pm0 cd0 ct0 : Value}
    (a0 : PySem.W.nsIn K mainGlobals "is_whole" = some (some (.ref f0))) (l0 : K.lookup f0 = some ⟨oc0, od0, .func (PySem.W.fnOf "is_whole" "is_whole" (defArgs s_P_is_whole) (defBody s_P_is_whole) (defScope s_P_is_whole) .none kV0 dc0 pm0 an0 cd0 ct0), sl0⟩) (c0 : PySem.W.codeIn K cd0 "is_whole" = true) (k0 : PySem.W.keepIn K (.ref f0) = true)
    {f1 : Addr} {od1 an1 : Option Addr} {sl1 : Array (Option Value)} {oc1 kV1 dc1 pm1 cd1 ct1 : Value}
    (a1 : PySem.W.nsIn K mainGlobals "is_within" = some (some (.ref f1))) (l1 : K.lookup f1 = some ⟨oc1, od1, .func (PySem.W.fnOf "is_within" "is_within" (defArgs s_P_is_within) (defBody s_P_is_within) (defScope s_P_is_within) .none kV1 dc1 pm1 an1 cd1 ct1), sl1⟩) (c1 : PySem.W.codeIn K cd1 "is_within" = true) (k1 : PySem.W.keepIn K (.ref f1) = true)
    {f2 : Addr} {od2 an2 : Option Addr} {sl2 : Array (Option Value)} {oc2 kV2 dc2 pm2 cd2 ct2 : Value}
    (a2 : PySem.W.nsIn K mainGlobals "things_in" = some (some (.ref f2))) (l2 : K.lookup f2 = some ⟨oc2, od2, .func (PySem.W.fnOf "things_in" "things_in" (defArgs s_P_things_in) (defBody s_P_things_in) (defScope s_P_things_in) .none kV2 dc2 pm2 an2 cd2 ct2), sl2⟩) (c2 : PySem.W.codeIn K cd2 "things_in" = true) (k2 : PySem.W.keepIn K (.ref f2) = true)
    {f3 : Addr} {od3 an3 : Option Addr} {sl3 : Array (Option Value)} {oc3 kV3 dc3 pm3 cd3 ct3 : Value}
    (a3 : PySem.W.nsIn K mainGlobals "size_of" = some (some (.ref f3))) (l3 : K.lookup f3 = some ⟨oc3, od3, .func (PySem.W.fnOf "size_of" "size_of" (defArgs s_P_size_of) (defBody s_P_size_of) (defScope s_P_size_of) .none kV3 dc3 pm3 an3 cd3 ct3), sl3⟩) (c3 : PySem.W.codeIn K cd3 "size_of" = true) (k3 : PySem.W.keepIn K (.ref f3) = true)
    {f4 : Addr} {od4 an4 : Option Addr} {sl4 : Array (Option Value)} {oc4 kV4 dc4 pm4 cd4 ct4 : Value}
    (a4 : PySem.W.nsIn K mainGlobals "holds" = some (some (.ref f4))) (l4 : K.lookup f4 = some ⟨oc4, od4, .func (PySem.W.fnOf "holds" "holds" (defArgs s_P_holds) (defBody s_P_holds) (defScope s_P_holds) .none kV4 dc4 pm4 an4 cd4 ct4), sl4⟩) (c4 : PySem.W.codeIn K cd4 "holds" = true) (k4 : PySem.W.keepIn K (.ref f4) = true)
    {f5 : Addr} {od5 an5 : Option Addr} {sl5 : Array (Option Value)} {oc5 kV5 dc5 pm5 cd5 ct5 : Value}
    (a5 : PySem.W.nsIn K mainGlobals "parts_of" = some (some (.ref f5))) (l5 : K.lookup f5 = some ⟨oc5, od5, .func (PySem.W.fnOf "parts_of" "parts_of" (defArgs s_P_parts_of) (defBody s_P_parts_of) (defScope s_P_parts_of) .none kV5 dc5 pm5 an5 cd5 ct5), sl5⟩) (c5 : PySem.W.codeIn K cd5 "parts_of" = true) (k5 : PySem.W.keepIn K (.ref f5) = true)
    {f6 : Addr} {od6 an6 : Option Addr} {sl6 : Array (Option Value)} {oc6 kV6 dc6 pm6 cd6 ct6 : Value}
    (a6 : PySem.W.nsIn K mainGlobals "check_bundle" = some (some (.ref f6))) (l6 : K.lookup f6 = some ⟨oc6, od6, .func (PySem.W.fnOf "check_bundle" "check_bundle" (defArgs s_P_check_bundle) (defBody s_P_check_bundle) (defScope s_P_check_bundle) .none kV6 dc6 pm6 an6 cd6 ct6), sl6⟩) (c6 : PySem.W.codeIn K cd6 "check_bundle" = true) (k6 : PySem.W.keepIn K (.ref f6) = true)
    {f7 : Addr} {od7 an7 : Option Addr} {sl7 : Array (Option Value)} {oc7 kV7 dc7 pm7 cd7 ct7 : Value}
    (a7 : PySem.W.nsIn K mainGlobals "check_so_many" = some (some (.ref f7))) (l7 : K.lookup f7 = some ⟨oc7, od7, .func (PySem.W.fnOf "check_so_many" "check_so_many" (defArgs s_P_check_so_many) (defBody s_P_check_so_many) (defScope s_P_check_so_many) .none kV7 dc7 pm7 an7 cd7 ct7), sl7⟩) (c7 : PySem.W.codeIn K cd7 "check_so_many" = true) (k7 : PySem.W.keepIn K (.ref f7) = true)
    {f8 : Addr} {od8 an8 : Option Addr} {sl8 : Array (Option Value)} {oc8 kV8 dc8 pm8 cd8 ct8 : Value}
    (a8 : PySem.W.nsIn K mainGlobals "check_amount" = some (some (.ref f8))) (l8 : K.lookup f8 = some ⟨oc8, od8, .func (PySem.W.fnOf "check_amount" "check_amount" (defArgs s_P_check_amount) (defBody s_P_check_amount) (defScope s_P_check_amount) .none kV8 dc8 pm8 an8 cd8 ct8), sl8⟩) (c8 : PySem.W.codeIn K cd8 "check_amount" = true) (k8 : PySem.W.keepIn K (.ref f8) = true)
    {f9 : Addr} {od9 an9 : Option Addr} {sl9 : Array (Option Value)} {oc9 kV9 dc9 pm9 cd9 ct9 : Value}
    (a9 : PySem.W.nsIn K mainGlobals "check_bids" = some (some (.ref f9))) (l9 : K.lookup f9 = some ⟨oc9, od9, .func (PySem.W.fnOf "check_bids" "check_bids" (defArgs s_P_check_bids) (defBody s_P_check_bids) (defScope s_P_check_bids) .none kV9 dc9 pm9 an9 cd9 ct9), sl9⟩) (c9 : PySem.W.codeIn K cd9 "check_bids" = true) (k9 : PySem.W.keepIn K (.ref f9) = true)
    {f10 : Addr} {od10 an10 : Option Addr} {sl10 : Array (Option Value)} {oc10 kV10 dc10 pm10 cd10 ct10 : Value}
    (a10 : PySem.W.nsIn K mainGlobals "depth_over" = some (some (.ref f10))) (l10 : K.lookup f10 = some ⟨oc10, od10, .func (PySem.W.fnOf "depth_over" "depth_over" (defArgs s_P_depth_over) (defBody s_P_depth_over) (defScope s_P_depth_over) .none kV10 dc10 pm10 an10 cd10 ct10), sl10⟩) (c10 : PySem.W.codeIn K cd10 "depth_over" = true) (k10 : PySem.W.keepIn K (.ref f10) = true)
    {f11 : Addr} {od11 an11 : Option Addr} {sl11 : Array (Option Value)} {oc11 kV11 dc11 pm11 cd11 ct11 : Value}
    (a11 : PySem.W.nsIn K mainGlobals "tally_over" = some (some (.ref f11))) (l11 : K.lookup f11 = some ⟨oc11, od11, .func (PySem.W.fnOf "tally_over" "tally_over" (defArgs s_P_tally_over) (defBody s_P_tally_over) (defScope s_P_tally_over) .none kV11 dc11 pm11 an11 cd11 ct11), sl11⟩) (c11 : PySem.W.codeIn K cd11 "tally_over" = true) (k11 : PySem.W.keepIn K (.ref f11) = true)
    {f12 : Addr} {od12 an12 : Option Addr} {sl12 : Array (Option Value)} {oc12 kV12 dc12 pm12 cd12 ct12 : Value}
    (a12 : PySem.W.nsIn K mainGlobals "worths_of_nothing" = some (some (.ref f12))) (l12 : K.lookup f12 = some ⟨oc12, od12, .func (PySem.W.fnOf "worths_of_nothing" "worths_of_nothing" (defArgs s_P_worths_of_nothing) (defBody s_P_worths_of_nothing) (defScope s_P_worths_of_nothing) .none kV12 dc12 pm12 an12 cd12 ct12), sl12⟩) (c12 : PySem.W.codeIn K cd12 "worths_of_nothing" = true) (k12 : PySem.W.keepIn K (.ref f12) = true)
    {f13 : Addr} {od13 an13 : Option Addr} {sl13 : Array (Option Value)} {oc13 kV13 dc13 pm13 cd13 ct13 : Value}
    (a13 : PySem.W.nsIn K mainGlobals "shared_out" = some (some (.ref f13))) (l13 : K.lookup f13 = some ⟨oc13, od13, .func (PySem.W.fnOf "shared_out" "shared_out" (defArgs s_P_shared_out) (defBody s_P_shared_out) (defScope s_P_shared_out) .none kV13 dc13 pm13 an13 cd13 ct13), sl13⟩) (c13 : PySem.W.codeIn K cd13 "shared_out" = true) (k13 : PySem.W.keepIn K (.ref f13) = true)
    {f14 : Addr} {od14 an14 : Option Addr} {sl14 : Array (Option Value)} {oc14 kV14 dc14 pm14 cd14 ct14 : Value}
    (a14 : PySem.W.nsIn K mainGlobals "best_share" = some (some (.ref f14))) (l14 : K.lookup f14 = some ⟨oc14, od14, .func (PySem.W.fnOf "best_share" "best_share" (defArgs s_P_best_share) (defBody s_P_best_share) (defScope s_P_best_share) .none kV14 dc14 pm14 an14 cd14 ct14), sl14⟩) (c14 : PySem.W.codeIn K cd14 "best_share" = true) (k14 : PySem.W.keepIn K (.ref f14) = true)
    {f15 : Addr} {od15 an15 : Option Addr} {sl15 : Array (Option Value)} {oc15 kV15 dc15 pm15 cd15 ct15 : Value}
    (a15 : PySem.W.nsIn K mainGlobals "_law_cell" = some (some (.ref f15))) (l15 : K.lookup f15 = some ⟨oc15, od15, .func (PySem.W.fnOf "_law_cell" "_law_cell" (defArgs s_L_cell) (defBody s_L_cell) (defScope s_L_cell) .none kV15 dc15 pm15 an15 cd15 ct15), sl15⟩) (c15 : PySem.W.codeIn K cd15 "_law_cell" = true) (k15 : PySem.W.keepIn K (.ref f15) = true)
    {f16 : Addr} {od16 an16 : Option Addr} {sl16 : Array (Option Value)} {oc16 kV16 dc16 pm16 cd16 ct16 : Value}
    (a16 : PySem.W.nsIn K mainGlobals "_law_whole" = some (some (.ref f16))) (l16 : K.lookup f16 = some ⟨oc16, od16, .func (PySem.W.fnOf "_law_whole" "_law_whole" (defArgs s_L_whole) (defBody s_L_whole) (defScope s_L_whole) .none kV16 dc16 pm16 an16 cd16 ct16), sl16⟩) (c16 : PySem.W.codeIn K cd16 "_law_whole" = true) (k16 : PySem.W.keepIn K (.ref f16) = true)
    {f17 : Addr} {od17 an17 : Option Addr} {sl17 : Array (Option Value)} {oc17 kV17 dc17 pm17 cd17 ct17 : Value}
    (a17 : PySem.W.nsIn K mainGlobals "_law_amount" = some (some (.ref f17))) (l17 : K.lookup f17 = some ⟨oc17, od17, .func (PySem.W.fnOf "_law_amount" "_law_amount" (defArgs s_L_amount) (defBody s_L_amount) (defScope s_L_amount) .none kV17 dc17 pm17 an17 cd17 ct17), sl17⟩) (c17 : PySem.W.codeIn K cd17 "_law_amount" = true) (k17 : PySem.W.keepIn K (.ref f17) = true)
    {f18 : Addr} {od18 an18 : Option Addr} {sl18 : Array (Option Value)} {oc18 kV18 dc18 pm18 cd18 ct18 : Value}
    (a18 : PySem.W.nsIn K mainGlobals "_law_size" = some (some (.ref f18))) (l18 : K.lookup f18 = some ⟨oc18, od18, .func (PySem.W.fnOf "_law_size" "_law_size" (defArgs s_L_size) (defBody s_L_size) (defScope s_L_size) .none kV18 dc18 pm18 an18 cd18 ct18), sl18⟩) (c18 : PySem.W.codeIn K cd18 "_law_size" = true) (k18 : PySem.W.keepIn K (.ref f18) = true)
    {f19 : Addr} {od19 an19 : Option Addr} {sl19 : Array (Option Value)} {oc19 kV19 dc19 pm19 cd19 ct19 : Value}
    (a19 : PySem.W.nsIn K mainGlobals "_law_form" = some (some (.ref f19))) (l19 : K.lookup f19 = some ⟨oc19, od19, .func (PySem.W.fnOf "_law_form" "_law_form" (defArgs s_L_form) (defBody s_L_form) (defScope s_L_form) .none kV19 dc19 pm19 an19 cd19 ct19), sl19⟩) (c19 : PySem.W.codeIn K cd19 "_law_form" = true) (k19 : PySem.W.keepIn K (.ref f19) = true)
    {f20 : Addr} {od20 an20 : Option Addr} {sl20 : Array (Option Value)} {oc20 kV20 dc20 pm20 cd20 ct20 : Value}
    (a20 : PySem.W.nsIn K mainGlobals "_law_single" = some (some (.ref f20))) (l20 : K.lookup f20 = some ⟨oc20, od20, .func (PySem.W.fnOf "_law_single" "_law_single" (defArgs s_L_single) (defBody s_L_single) (defScope s_L_single) .none kV20 dc20 pm20 an20 cd20 ct20), sl20⟩) (c20 : PySem.W.codeIn K cd20 "_law_single" = true) (k20 : PySem.W.keepIn K (.ref f20) = true)
    {f21 : Addr} {od21 an21 : Option Addr} {sl21 : Array (Option Value)} {oc21 kV21 dc21 pm21 cd21 ct21 : Value}
    (a21 : PySem.W.nsIn K mainGlobals "_law_worth" = some (some (.ref f21))) (l21 : K.lookup f21 = some ⟨oc21, od21, .func (PySem.W.fnOf "_law_worth" "_law_worth" (defArgs s_L_worth) (defBody s_L_worth) (defScope s_L_worth) .none kV21 dc21 pm21 an21 cd21 ct21), sl21⟩) (c21 : PySem.W.codeIn K cd21 "_law_worth" = true) (k21 : PySem.W.keepIn K (.ref f21) = true)
    {f22 : Addr} {od22 an22 : Option Addr} {sl22 : Array (Option Value)} {oc22 kV22 dc22 pm22 cd22 ct22 : Value}
    (a22 : PySem.W.nsIn K mainGlobals "_law_sizes" = some (some (.ref f22))) (l22 : K.lookup f22 = some ⟨oc22, od22, .func (PySem.W.fnOf "_law_sizes" "_law_sizes" (defArgs s_L_sizes) (defBody s_L_sizes) (defScope s_L_sizes) .none kV22 dc22 pm22 an22 cd22 ct22), sl22⟩) (c22 : PySem.W.codeIn K cd22 "_law_sizes" = true) (k22 : PySem.W.keepIn K (.ref f22) = true)
    {f23 : Addr} {od23 an23 : Option Addr} {sl23 : Array (Option Value)} {oc23 kV23 dc23 pm23 cd23 ct23 : Value}
    (a23 : PySem.W.nsIn K mainGlobals "_law_best" = some (some (.ref f23))) (l23 : K.lookup f23 = some ⟨oc23, od23, .func (PySem.W.fnOf "_law_best" "_law_best" (defArgs s_L_best) (defBody s_L_best) (defScope s_L_best) .none kV23 dc23 pm23 an23 cd23 ct23), sl23⟩) (c23 : PySem.W.codeIn K cd23 "_law_best" = true) (k23 : PySem.W.keepIn K (.ref f23) = true)
    {f24 : Addr} {od24 an24 : Option Addr} {sl24 : Array (Option Value)} {oc24 kV24 dc24 pm24 cd24 ct24 : Value}
    (a24 : PySem.W.nsIn K mainGlobals "_law_alike" = some (some (.ref f24))) (l24 : K.lookup f24 = some ⟨oc24, od24, .func (PySem.W.fnOf "_law_alike" "_law_alike" (defArgs s_L_alike) (defBody s_L_alike) (defScope s_L_alike) .none kV24 dc24 pm24 an24 cd24 ct24), sl24⟩) (c24 : PySem.W.codeIn K cd24 "_law_alike" = true) (k24 : PySem.W.keepIn K (.ref f24) = true)
    {f25 : Addr} {od25 an25 : Option Addr} {sl25 : Array (Option Value)} {oc25 kV25 dc25 pm25 cd25 ct25 : Value}
    (a25 : PySem.W.nsIn K mainGlobals "_law_plainly" = some (some (.ref f25))) (l25 : K.lookup f25 = some ⟨oc25, od25, .func (PySem.W.fnOf "_law_plainly" "_law_plainly" (defArgs s_L_plainly) (defBody s_L_plainly) (defScope s_L_plainly) .none kV25 dc25 pm25 an25 cd25 ct25), sl25⟩) (c25 : PySem.W.codeIn K cd25 "_law_plainly" = true) (k25 : PySem.W.keepIn K (.ref f25) = true)
    {f26 : Addr} {od26 an26 : Option Addr} {sl26 : Array (Option Value)} {oc26 kV26 dc26 pm26 cd26 ct26 : Value}
    (a26 : PySem.W.nsIn K mainGlobals "law" = some (some (.ref f26))) (l26 : K.lookup f26 = some ⟨oc26, od26, .func (PySem.W.fnOf "law" "law" (defArgs s_law) (defBody s_law) (defScope s_law) .none kV26 dc26 pm26 an26 cd26 ct26), sl26⟩) (c26 : PySem.W.codeIn K cd26 "law" = true) (k26 : PySem.W.keepIn K (.ref f26) = true)
    {f27 : Addr} {od27 an27 : Option Addr} {sl27 : Array (Option Value)} {oc27 kV27 dc27 pm27 cd27 ct27 : Value}
    (a27 : PySem.W.findIn K (.ref c_Bid) "worths" = some (some (.ref f27))) (l27 : K.lookup f27 = some ⟨oc27, od27, .func (PySem.W.fnOf "worths" "Bid.worths" (defArgs s_M_Bid_worths) (defBody s_M_Bid_worths) (defScope s_M_Bid_worths) .none kV27 dc27 pm27 an27 cd27 ct27), sl27⟩) (c27 : PySem.W.codeIn K cd27 "Bid.worths" = true) (k27 : PySem.W.keepIn K (.ref f27) = true) (n27 : PySem.W.isFn K (.ref f27) = true)
    (i27_Several : PySem.W.findIn K (.ref c_Several) "worths" = some (some (.ref f27)))
    {f28 : Addr} {od28 an28 : Option Addr} {sl28 : Array (Option Value)} {oc28 kV28 dc28 pm28 cd28 ct28 : Value}
    (a28 : PySem.W.findIn K (.ref c_Bid) "depth" = some (some (.ref f28))) (l28 : K.lookup f28 = some ⟨oc28, od28, .func (PySem.W.fnOf "depth" "Bid.depth" (defArgs s_M_Bid_depth) (defBody s_M_Bid_depth) (defScope s_M_Bid_depth) .none kV28 dc28 pm28 an28 cd28 ct28), sl28⟩) (c28 : PySem.W.codeIn K cd28 "Bid.depth" = true) (k28 : PySem.W.keepIn K (.ref f28) = true) (n28 : PySem.W.isFn K (.ref f28) = true)
    (i28_Only : PySem.W.findIn K (.ref c_Only) "depth" = some (some (.ref f28)))
    (i28_SoMany : PySem.W.findIn K (.ref c_SoMany) "depth" = some (some (.ref f28)))
    (i28_UpTo : PySem.W.findIn K (.ref c_UpTo) "depth" = some (some (.ref f28)))
    {f29 : Addr} {od29 an29 : Option Addr} {sl29 : Array (Option Value)} {oc29 kV29 dc29 pm29 cd29 ct29 : Value}
    (a29 : PySem.W.findIn K (.ref c_Bid) "tally" = some (some (.ref f29))) (l29 : K.lookup f29 = some ⟨oc29, od29, .func (PySem.W.fnOf "tally" "Bid.tally" (defArgs s_M_Bid_tally) (defBody s_M_Bid_tally) (defScope s_M_Bid_tally) .none kV29 dc29 pm29 an29 cd29 ct29), sl29⟩) (c29 : PySem.W.codeIn K cd29 "Bid.tally" = true) (k29 : PySem.W.keepIn K (.ref f29) = true) (n29 : PySem.W.isFn K (.ref f29) = true)
    (i29_Only : PySem.W.findIn K (.ref c_Only) "tally" = some (some (.ref f29)))
    (i29_SoMany : PySem.W.findIn K (.ref c_SoMany) "tally" = some (some (.ref f29)))
    (i29_UpTo : PySem.W.findIn K (.ref c_UpTo) "tally" = some (some (.ref f29)))
    {f30 : Addr} {od30 an30 : Option Addr} {sl30 : Array (Option Value)} {oc30 kV30 dc30 pm30 cd30 ct30 : Value}
    (a30 : PySem.W.findIn K (.ref c_Only) "__init__" = some (some (.ref f30))) (l30 : K.lookup f30 = some ⟨oc30, od30, .func (PySem.W.fnOf "__init__" "Only.__init__" (defArgs s_M_Only___init__) (defBody s_M_Only___init__) (defScope s_M_Only___init__) .none kV30 dc30 pm30 an30 cd30 ct30), sl30⟩) (c30 : PySem.W.codeIn K cd30 "Only.__init__" = true) (k30 : PySem.W.keepIn K (.ref f30) = true) (n30 : PySem.W.isFn K (.ref f30) = true)
    {f31 : Addr} {od31 an31 : Option Addr} {sl31 : Array (Option Value)} {oc31 kV31 dc31 pm31 cd31 ct31 : Value}
    (a31 : PySem.W.findIn K (.ref c_Only) "worths" = some (some (.ref f31))) (l31 : K.lookup f31 = some ⟨oc31, od31, .func (PySem.W.fnOf "worths" "Only.worths" (defArgs s_M_Only_worths) (defBody s_M_Only_worths) (defScope s_M_Only_worths) .none kV31 dc31 pm31 an31 cd31 ct31), sl31⟩) (c31 : PySem.W.codeIn K cd31 "Only.worths" = true) (k31 : PySem.W.keepIn K (.ref f31) = true) (n31 : PySem.W.isFn K (.ref f31) = true)
    {f32 : Addr} {od32 an32 : Option Addr} {sl32 : Array (Option Value)} {oc32 kV32 dc32 pm32 cd32 ct32 : Value}
    (a32 : PySem.W.findIn K (.ref c_SoMany) "__init__" = some (some (.ref f32))) (l32 : K.lookup f32 = some ⟨oc32, od32, .func (PySem.W.fnOf "__init__" "SoMany.__init__" (defArgs s_M_SoMany___init__) (defBody s_M_SoMany___init__) (defScope s_M_SoMany___init__) .none kV32 dc32 pm32 an32 cd32 ct32), sl32⟩) (c32 : PySem.W.codeIn K cd32 "SoMany.__init__" = true) (k32 : PySem.W.keepIn K (.ref f32) = true) (n32 : PySem.W.isFn K (.ref f32) = true)
    {f33 : Addr} {od33 an33 : Option Addr} {sl33 : Array (Option Value)} {oc33 kV33 dc33 pm33 cd33 ct33 : Value}
    (a33 : PySem.W.findIn K (.ref c_SoMany) "worths" = some (some (.ref f33))) (l33 : K.lookup f33 = some ⟨oc33, od33, .func (PySem.W.fnOf "worths" "SoMany.worths" (defArgs s_M_SoMany_worths) (defBody s_M_SoMany_worths) (defScope s_M_SoMany_worths) .none kV33 dc33 pm33 an33 cd33 ct33), sl33⟩) (c33 : PySem.W.codeIn K cd33 "SoMany.worths" = true) (k33 : PySem.W.keepIn K (.ref f33) = true) (n33 : PySem.W.isFn K (.ref f33) = true)
    {f34 : Addr} {od34 an34 : Option Addr} {sl34 : Array (Option Value)} {oc34 kV34 dc34 pm34 cd34 ct34 : Value}
    (a34 : PySem.W.findIn K (.ref c_UpTo) "__init__" = some (some (.ref f34))) (l34 : K.lookup f34 = some ⟨oc34, od34, .func (PySem.W.fnOf "__init__" "UpTo.__init__" (defArgs s_M_UpTo___init__) (defBody s_M_UpTo___init__) (defScope s_M_UpTo___init__) .none kV34 dc34 pm34 an34 cd34 ct34), sl34⟩) (c34 : PySem.W.codeIn K cd34 "UpTo.__init__" = true) (k34 : PySem.W.keepIn K (.ref f34) = true) (n34 : PySem.W.isFn K (.ref f34) = true)
    {f35 : Addr} {od35 an35 : Option Addr} {sl35 : Array (Option Value)} {oc35 kV35 dc35 pm35 cd35 ct35 : Value}
    (a35 : PySem.W.findIn K (.ref c_UpTo) "worths" = some (some (.ref f35))) (l35 : K.lookup f35 = some ⟨oc35, od35, .func (PySem.W.fnOf "worths" "UpTo.worths" (defArgs s_M_UpTo_worths) (defBody s_M_UpTo_worths) (defScope s_M_UpTo_worths) .none kV35 dc35 pm35 an35 cd35 ct35), sl35⟩) (c35 : PySem.W.codeIn K cd35 "UpTo.worths" = true) (k35 : PySem.W.keepIn K (.ref f35) = true) (n35 : PySem.W.isFn K (.ref f35) = true)
    {f36 : Addr} {od36 an36 : Option Addr} {sl36 : Array (Option Value)} {oc36 kV36 dc36 pm36 cd36 ct36 : Value}
    (a36 : PySem.W.findIn K (.ref c_Several) "__init__" = some (some (.ref f36))) (l36 : K.lookup f36 = some ⟨oc36, od36, .func (PySem.W.fnOf "__init__" "Several.__init__" (defArgs s_M_Several___init__) (defBody s_M_Several___init__) (defScope s_M_Several___init__) .none kV36 dc36 pm36 an36 cd36 ct36), sl36⟩) (c36 : PySem.W.codeIn K cd36 "Several.__init__" = true) (k36 : PySem.W.keepIn K (.ref f36) = true) (n36 : PySem.W.isFn K (.ref f36) = true)
    (i36_AnyOf : PySem.W.findIn K (.ref c_AnyOf) "__init__" = some (some (.ref f36)))
    {f37 : Addr} {od37 an37 : Option Addr} {sl37 : Array (Option Value)} {oc37 kV37 dc37 pm37 cd37 ct37 : Value}
    (a37 : PySem.W.findIn K (.ref c_AnyOf) "worths" = some (some (.ref f37))) (l37 : K.lookup f37 = some ⟨oc37, od37, .func (PySem.W.fnOf "worths" "AnyOf.worths" (defArgs s_M_AnyOf_worths) (defBody s_M_AnyOf_worths) (defScope s_M_AnyOf_worths) .none kV37 dc37 pm37 an37 cd37 ct37), sl37⟩) (c37 : PySem.W.codeIn K cd37 "AnyOf.worths" = true) (k37 : PySem.W.keepIn K (.ref f37) = true) (n37 : PySem.W.isFn K (.ref f37) = true)
    (z_isinstance : PySem.W.nsIn K mainGlobals "isinstance" = some none)
    (z_int : PySem.W.nsIn K mainGlobals "int" = some none)
    (z_bool : PySem.W.nsIn K mainGlobals "bool" = some none)
    (z_range : PySem.W.nsIn K mainGlobals "range" = some none)
    (z_len : PySem.W.nsIn K mainGlobals "len" = some none)
    (z_list : PySem.W.nsIn K mainGlobals "list" = some none)
    (z_max : PySem.W.nsIn K mainGlobals "max" = some none)
    (z_sum : PySem.W.nsIn K mainGlobals "sum" = some none)
    (z_min : PySem.W.nsIn K mainGlobals "min" = some none)
    (z_divmod : PySem.W.nsIn K mainGlobals "divmod" = some none)
    (z_zip : PySem.W.nsIn K mainGlobals "zip" = some none)
    : ∃ fd : FuncData, (∀ (s : Shared) (v : Value), BindsTo s fd ⟨[v], []⟩ [("_law_script", v)]) ∧ ∀ base : Heap, K.In base → base.Ns mainGlobals mg → FnOk l.prog w K mg base CX0 8 fa fd ["_law_script"] (sp_law K) := by
  have e := hfa.symm.trans (PySem.W.mg_of X G a26)
  cases e
  have F0 := fun_mk (st := s_P_is_whole) l0 c0 k0
  have g0 := PySem.W.mg_of X G a0
  have F1 := fun_mk (st := s_P_is_within) l1 c1 k1
  have g1 := PySem.W.mg_of X G a1
  have F2 := fun_mk (st := s_P_things_in) l2 c2 k2
  have g2 := PySem.W.mg_of X G a2
  have F3 := fun_mk (st := s_P_size_of) l3 c3 k3
  have g3 := PySem.W.mg_of X G a3
  have F4 := fun_mk (st := s_P_holds) l4 c4 k4
  have g4 := PySem.W.mg_of X G a4
  have F5 := fun_mk (st := s_P_parts_of) l5 c5 k5
  have g5 := PySem.W.mg_of X G a5
  have F6 := fun_mk (st := s_P_check_bundle) l6 c6 k6
  have g6 := PySem.W.mg_of X G a6
  have F7 := fun_mk (st := s_P_check_so_many) l7 c7 k7
  have g7 := PySem.W.mg_of X G a7
  have F8 := fun_mk (st := s_P_check_amount) l8 c8 k8
  have g8 := PySem.W.mg_of X G a8
  have F9 := fun_mk (st := s_P_check_bids) l9 c9 k9
  have g9 := PySem.W.mg_of X G a9
  have F10 := fun_mk (st := s_P_depth_over) l10 c10 k10
  have g10 := PySem.W.mg_of X G a10
  have F11 := fun_mk (st := s_P_tally_over) l11 c11 k11
  have g11 := PySem.W.mg_of X G a11
  have F12 := fun_mk (st := s_P_worths_of_nothing) l12 c12 k12
  have g12 := PySem.W.mg_of X G a12
  have F13 := fun_mk (st := s_P_shared_out) l13 c13 k13
  have g13 := PySem.W.mg_of X G a13
  have F14 := fun_mk (st := s_P_best_share) l14 c14 k14
  have g14 := PySem.W.mg_of X G a14
  have F15 := fun_mk (st := s_L_cell) l15 c15 k15
  have g15 := PySem.W.mg_of X G a15
  have F16 := fun_mk (st := s_L_whole) l16 c16 k16
  have g16 := PySem.W.mg_of X G a16
  have F17 := fun_mk (st := s_L_amount) l17 c17 k17
  have g17 := PySem.W.mg_of X G a17
  have F18 := fun_mk (st := s_L_size) l18 c18 k18
  have g18 := PySem.W.mg_of X G a18
  have F19 := fun_mk (st := s_L_form) l19 c19 k19
  have g19 := PySem.W.mg_of X G a19
  have F20 := fun_mk (st := s_L_single) l20 c20 k20
  have g20 := PySem.W.mg_of X G a20
  have F21 := fun_mk (st := s_L_worth) l21 c21 k21
  have g21 := PySem.W.mg_of X G a21
  have F22 := fun_mk (st := s_L_sizes) l22 c22 k22
  have g22 := PySem.W.mg_of X G a22
  have F23 := fun_mk (st := s_L_best) l23 c23 k23
  have g23 := PySem.W.mg_of X G a23
  have F24 := fun_mk (st := s_L_alike) l24 c24 k24
  have g24 := PySem.W.mg_of X G a24
  have F25 := fun_mk (st := s_L_plainly) l25 c25 k25
  have g25 := PySem.W.mg_of X G a25
  have F26 := fun_mk (st := s_law) l26 c26 k26
  have g26 := PySem.W.mg_of X G a26
  have F27 := fun_mk (st := s_M_Bid_worths) l27 c27 k27
  have F28 := fun_mk (st := s_M_Bid_depth) l28 c28 k28
  have F29 := fun_mk (st := s_M_Bid_tally) l29 c29 k29
  have F30 := fun_mk (st := s_M_Only___init__) l30 c30 k30
  have F31 := fun_mk (st := s_M_Only_worths) l31 c31 k31
  have F32 := fun_mk (st := s_M_SoMany___init__) l32 c32 k32
  have F33 := fun_mk (st := s_M_SoMany_worths) l33 c33 k33
  have F34 := fun_mk (st := s_M_UpTo___init__) l34 c34 k34
  have F35 := fun_mk (st := s_M_UpTo_worths) l35 c35 k35
  have F36 := fun_mk (st := s_M_Several___init__) l36 c36 k36
  have F37 := fun_mk (st := s_M_AnyOf_worths) l37 c37 k37
  have m_isinstance := PySem.W.mg_none_of X G z_isinstance
  have m_int := PySem.W.mg_none_of X G z_int
  have m_bool := PySem.W.mg_none_of X G z_bool
  have m_range := PySem.W.mg_none_of X G z_range
  have m_len := PySem.W.mg_none_of X G z_len
  have m_list := PySem.W.mg_none_of X G z_list
  have m_max := PySem.W.mg_none_of X G z_max
  have m_sum := PySem.W.mg_none_of X G z_sum
  have m_min := PySem.W.mg_none_of X G z_min
  have m_divmod := PySem.W.mg_none_of X G z_divmod
  have m_zip := PySem.W.mg_none_of X G z_zip
  refine ⟨PySem.W.fnOf "law" "law" (defArgs s_law) (defBody s_law) (defScope s_law) .none kV26 dc26 pm26 an26 cd26 ct26, fun s v => .of_eq rfl, fun base _ _ => ?_⟩
  have O_Bid : Own K mg "Bid" c_Bid [] := ⟨PySem.W.mg_of X G b_Bid, ⟨pg_Bid, hd_Bid, po_Bid, sa_Bid⟩, mk_Bid, kp_Bid, (by intro f hf; cases hf), t1_Bid, t2_Bid, t3_Bid, t4_Bid⟩
  have O_Only : Own K mg "Only" c_Only ["bundle", "amount"] := ⟨PySem.W.mg_of X G b_Only, ⟨pg_Only, hd_Only, po_Only, sa_Only⟩, mk_Only, kp_Only, (by intro f hf; simp only [List.mem_cons, List.not_mem_nil, or_false] at hf; rcases hf with rfl | rfl <;> assumption), t1_Only, t2_Only, t3_Only, t4_Only⟩
  have O_SoMany : Own K mg "SoMany" c_SoMany ["kind", "least", "amount"] := ⟨PySem.W.mg_of X G b_SoMany, ⟨pg_SoMany, hd_SoMany, po_SoMany, sa_SoMany⟩, mk_SoMany, kp_SoMany, (by intro f hf; simp only [List.mem_cons, List.not_mem_nil, or_false] at hf; rcases hf with rfl | rfl | rfl <;> assumption), t1_SoMany, t2_SoMany, t3_SoMany, t4_SoMany⟩
  have O_UpTo : Own K mg "UpTo" c_UpTo ["kind", "most", "each"] := ⟨PySem.W.mg_of X G b_UpTo, ⟨pg_UpTo, hd_UpTo, po_UpTo, sa_UpTo⟩, mk_UpTo, kp_UpTo, (by intro f hf; simp only [List.mem_cons, List.not_mem_nil, or_false] at hf; rcases hf with rfl | rfl | rfl <;> assumption), t1_UpTo, t2_UpTo, t3_UpTo, t4_UpTo⟩
  have O_Several : Own K mg "Several" c_Several ["bids"] := ⟨PySem.W.mg_of X G b_Several, ⟨pg_Several, hd_Several, po_Several, sa_Several⟩, mk_Several, kp_Several, (by intro f hf; simp only [List.mem_cons, List.not_mem_nil, or_false] at hf; rcases hf with rfl <;> assumption), t1_Several, t2_Several, t3_Several, t4_Several⟩
  have O_AnyOf : Own K mg "AnyOf" c_AnyOf ["bids"] := ⟨PySem.W.mg_of X G b_AnyOf, ⟨pg_AnyOf, hd_AnyOf, po_AnyOf, sa_AnyOf⟩, mk_AnyOf, kp_AnyOf, (by intro f hf; simp only [List.mem_cons, List.not_mem_nil, or_false] at hf; rcases hf with rfl <;> assumption), t1_AnyOf, t2_AnyOf, t3_AnyOf, t4_AnyOf⟩
  have D_P_is_whole := ok_P_is_whole (P := l.prog) (w := w) (base := base) F0 g0 m_isinstance m_int m_bool 
  have D_P_is_within := ok_P_is_within (P := l.prog) (w := w) (base := base) F1 g1  D_P_is_whole
  have D_P_holds := ok_P_holds (P := l.prog) (w := w) (base := base) F4 g4  
  have D_P_things_in := ok_P_things_in (P := l.prog) (w := w) (base := base) F2 g2 m_range D_P_holds
  have D_P_size_of := ok_P_size_of (P := l.prog) (w := w) (base := base) F3 g3 m_len D_P_things_in
  have D_P_parts_of := ok_P_parts_of (P := l.prog) (w := w) (base := base) F5 g5  D_P_things_in
  have D_P_check_bundle := ok_P_check_bundle (P := l.prog) (w := w) (base := base) F6 g6  D_P_is_within
  have D_P_check_so_many := ok_P_check_so_many (P := l.prog) (w := w) (base := base) F7 g7  D_P_is_within
  have D_P_check_amount := ok_P_check_amount (P := l.prog) (w := w) (base := base) F8 g8  D_P_is_within
  have FO_M_Bid_depth := ok_M_Bid_depth (P := l.prog) (w := w) (base := base) F28   O_Bid O_Only O_SoMany O_UpTo O_Several O_AnyOf
  have hT_depth_s : ∀ C sp, T_depth_s K c_Bid c_Only c_SoMany c_UpTo c_Several c_AnyOf C sp → ∃ ps, MethD l.prog w K mg base 1 C "depth" ps sp := by
    rintro C sp (⟨e1, e2⟩ | ⟨e1, e2⟩ | ⟨e1, e2⟩ | ⟨e1, e2⟩)
    · subst e2; rw [e1]; exact ⟨_, f28, _, (FO_M_Bid_depth).mono (by decide), bnd1 F28 fun _ _ _ _ _ _ _ => rfl, ⟨a28, n28, k28⟩, O_Bid.cls⟩
    · subst e2; rw [e1]; exact ⟨_, f28, _, (FO_M_Bid_depth).mono (by decide), bnd1 F28 fun _ _ _ _ _ _ _ => rfl, ⟨i28_Only, n28, k28⟩, O_Only.cls⟩
    · subst e2; rw [e1]; exact ⟨_, f28, _, (FO_M_Bid_depth).mono (by decide), bnd1 F28 fun _ _ _ _ _ _ _ => rfl, ⟨i28_SoMany, n28, k28⟩, O_SoMany.cls⟩
    · subst e2; rw [e1]; exact ⟨_, f28, _, (FO_M_Bid_depth).mono (by decide), bnd1 F28 fun _ _ _ _ _ _ _ => rfl, ⟨i28_UpTo, n28, k28⟩, O_UpTo.cls⟩
  have D_P_depth_over := ok_P_depth_over (P := l.prog) (w := w) (base := base) F10 g10 m_max  O_Bid O_Only O_SoMany O_UpTo O_Several O_AnyOf hT_depth_s
  have FO_M_Bid_tally := ok_M_Bid_tally (P := l.prog) (w := w) (base := base) F29   O_Bid O_Only O_SoMany O_UpTo O_Several O_AnyOf
  have hT_tally_s : ∀ C sp, T_tally_s K c_Bid c_Only c_SoMany c_UpTo c_Several c_AnyOf C sp → ∃ ps, MethD l.prog w K mg base 1 C "tally" ps sp := by
    rintro C sp (⟨e1, e2⟩ | ⟨e1, e2⟩ | ⟨e1, e2⟩ | ⟨e1, e2⟩)
    · subst e2; rw [e1]; exact ⟨_, f29, _, (FO_M_Bid_tally).mono (by decide), bnd1 F29 fun _ _ _ _ _ _ _ => rfl, ⟨a29, n29, k29⟩, O_Bid.cls⟩
    · subst e2; rw [e1]; exact ⟨_, f29, _, (FO_M_Bid_tally).mono (by decide), bnd1 F29 fun _ _ _ _ _ _ _ => rfl, ⟨i29_Only, n29, k29⟩, O_Only.cls⟩
    · subst e2; rw [e1]; exact ⟨_, f29, _, (FO_M_Bid_tally).mono (by decide), bnd1 F29 fun _ _ _ _ _ _ _ => rfl, ⟨i29_SoMany, n29, k29⟩, O_SoMany.cls⟩
    · subst e2; rw [e1]; exact ⟨_, f29, _, (FO_M_Bid_tally).mono (by decide), bnd1 F29 fun _ _ _ _ _ _ _ => rfl, ⟨i29_UpTo, n29, k29⟩, O_UpTo.cls⟩
  have D_P_tally_over := ok_P_tally_over (P := l.prog) (w := w) (base := base) F11 g11 m_sum  O_Bid O_Only O_SoMany O_UpTo O_Several O_AnyOf hT_tally_s
  have D_P_check_bids := ok_P_check_bids (P := l.prog) (w := w) (base := base) F9 g9 m_isinstance m_list D_P_depth_over D_P_tally_over O_Bid O_Only O_SoMany O_UpTo O_Several O_AnyOf kit_Bid_Bid kit_Only_Bid kit_SoMany_Bid kit_UpTo_Bid kit_Several_Bid kit_AnyOf_Bid
  have D_P_worths_of_nothing := ok_P_worths_of_nothing (P := l.prog) (w := w) (base := base) F12 g12 m_range 
  have D_P_best_share := ok_P_best_share (P := l.prog) (w := w) (base := base) F14 g14 m_max D_P_parts_of
  have D_P_shared_out := ok_P_shared_out (P := l.prog) (w := w) (base := base) F13 g13 m_range m_len D_P_best_share
  have D_L_cell := ok_L_cell (P := l.prog) (w := w) (base := base) F15 g15 m_len 
  have D_L_whole := ok_L_whole (P := l.prog) (w := w) (base := base) F16 g16 m_isinstance m_int m_bool 
  have D_L_amount := ok_L_amount (P := l.prog) (w := w) (base := base) F17 g17  
  have D_L_size := ok_L_size (P := l.prog) (w := w) (base := base) F18 g18 m_sum 
  have D_L_form := ok_L_form (P := l.prog) (w := w) (base := base) F19 g19  D_L_amount
  have FO_M_Only___init__ := ok_M_Only___init__ (P := l.prog) (w := w) (base := base) F30  D_P_check_bundle D_P_check_amount O_Bid O_Only O_SoMany O_UpTo O_Several O_AnyOf
  have FO_M_SoMany___init__ := ok_M_SoMany___init__ (P := l.prog) (w := w) (base := base) F32  D_P_check_bundle D_P_check_so_many D_P_check_amount O_Bid O_Only O_SoMany O_UpTo O_Several O_AnyOf
  have FO_M_UpTo___init__ := ok_M_UpTo___init__ (P := l.prog) (w := w) (base := base) F34  D_P_check_bundle D_P_check_so_many D_P_check_amount O_Bid O_Only O_SoMany O_UpTo O_Several O_AnyOf
  have MK_Bid : Make0 K mg "Bid" c_Bid := ⟨mk_Bid, in_Bid, kp_Bid, O_Bid.at_⟩
  have MK_Only : MakeD l.prog w K mg base 4 "Only" c_Only ["self", "bundle", "amount"] (sp_M_Only___init__ K c_Only) := ⟨f30, _, FO_M_Only___init__, bnd3 F30 fun _ _ _ _ _ _ _ _ _ => rfl, ⟨mk_Only, a30, n30, kp_Only⟩, O_Only.at_⟩
  have MK_SoMany : MakeD l.prog w K mg base 4 "SoMany" c_SoMany ["self", "kind", "least", "amount"] (sp_M_SoMany___init__ K c_SoMany) := ⟨f32, _, FO_M_SoMany___init__, bnd4 F32 fun _ _ _ _ _ _ _ _ _ _ => rfl, ⟨mk_SoMany, a32, n32, kp_SoMany⟩, O_SoMany.at_⟩
  have MK_UpTo : MakeD l.prog w K mg base 4 "UpTo" c_UpTo ["self", "kind", "most", "each"] (sp_M_UpTo___init__ K c_UpTo) := ⟨f34, _, FO_M_UpTo___init__, bnd4 F34 fun _ _ _ _ _ _ _ _ _ _ => rfl, ⟨mk_UpTo, a34, n34, kp_UpTo⟩, O_UpTo.at_⟩
  have D_L_single := ok_L_single (P := l.prog) (w := w) (base := base) F20 g20   O_Bid O_Only O_SoMany O_UpTo O_Several O_AnyOf MK_Bid MK_Only MK_SoMany MK_UpTo
  have D_L_worth := ok_L_worth (P := l.prog) (w := w) (base := base) F21 g21 m_int m_min D_L_size
  have D_L_sizes := ok_L_sizes (P := l.prog) (w := w) (base := base) F22 g22  
  have D_L_best := ok_L_best (P := l.prog) (w := w) (base := base) F23 g23 m_range m_max m_len m_divmod m_sum m_zip 
  have D_L_alike := ok_L_alike (P := l.prog) (w := w) (base := base) F24 g24 m_zip m_isinstance m_list m_len D_L_whole
  have FO_M_Several___init__ := ok_M_Several___init__ (P := l.prog) (w := w) (base := base) F36 m_list D_P_check_bids O_Bid O_Only O_SoMany O_UpTo O_Several O_AnyOf
  have FO_M_Bid_worths := ok_M_Bid_worths (P := l.prog) (w := w) (base := base) F27  D_P_worths_of_nothing O_Bid O_Only O_SoMany O_UpTo O_Several O_AnyOf
  have FO_M_Only_worths := ok_M_Only_worths (P := l.prog) (w := w) (base := base) F31 m_range D_P_holds O_Bid O_Only O_SoMany O_UpTo O_Several O_AnyOf
  have FO_M_SoMany_worths := ok_M_SoMany_worths (P := l.prog) (w := w) (base := base) F33 m_range D_P_size_of O_Bid O_Only O_SoMany O_UpTo O_Several O_AnyOf
  have FO_M_UpTo_worths := ok_M_UpTo_worths (P := l.prog) (w := w) (base := base) F35 m_min m_range D_P_size_of O_Bid O_Only O_SoMany O_UpTo O_Several O_AnyOf
  have hT_worths_s : ∀ C sp, T_worths_s K c_Bid c_Only c_SoMany c_UpTo c_Several c_AnyOf C sp → ∃ ps, MethD l.prog w K mg base 4 C "worths" ps sp := by
    rintro C sp (⟨e1, e2⟩ | ⟨e1, e2⟩ | ⟨e1, e2⟩ | ⟨e1, e2⟩)
    · subst e2; rw [e1]; exact ⟨_, f27, _, (FO_M_Bid_worths).mono (by decide), bnd2 F27 fun _ _ _ _ _ _ _ _ => rfl, ⟨a27, n27, k27⟩, O_Bid.cls⟩
    · subst e2; rw [e1]; exact ⟨_, f31, _, (FO_M_Only_worths).mono (by decide), bnd2 F31 fun _ _ _ _ _ _ _ _ => rfl, ⟨a31, n31, k31⟩, O_Only.cls⟩
    · subst e2; rw [e1]; exact ⟨_, f33, _, (FO_M_SoMany_worths).mono (by decide), bnd2 F33 fun _ _ _ _ _ _ _ _ => rfl, ⟨a33, n33, k33⟩, O_SoMany.cls⟩
    · subst e2; rw [e1]; exact ⟨_, f35, _, (FO_M_UpTo_worths).mono (by decide), bnd2 F35 fun _ _ _ _ _ _ _ _ => rfl, ⟨a35, n35, k35⟩, O_UpTo.cls⟩
  have FO_M_AnyOf_worths := ok_M_AnyOf_worths (P := l.prog) (w := w) (base := base) F37  D_P_worths_of_nothing D_P_shared_out O_Bid O_Only O_SoMany O_UpTo O_Several O_AnyOf hT_worths_s
  have MK_AnyOf : MakeD l.prog w K mg base 4 "AnyOf" c_AnyOf ["self", "bids"] (sp_M_Several___init__ K c_AnyOf c_Bid c_Only c_SoMany c_UpTo c_Several c_AnyOf) := ⟨f36, _, FO_M_Several___init__, bnd2 F36 fun _ _ _ _ _ _ _ _ => rfl, ⟨mk_AnyOf, i36_AnyOf, n36, kp_AnyOf⟩, O_AnyOf.at_⟩
  have hT_worths_a : ∀ C sp, T_worths_a K c_Bid c_Only c_SoMany c_UpTo c_Several c_AnyOf C sp → ∃ ps, MethD l.prog w K mg base 6 C "worths" ps sp := by
    rintro C sp (⟨e1, e2⟩ | ⟨e1, e2⟩ | ⟨e1, e2⟩ | ⟨e1, e2⟩ | ⟨e1, e2⟩)
    · subst e2; rw [e1]; exact ⟨_, f27, _, (FO_M_Bid_worths).mono (by decide), bnd2 F27 fun _ _ _ _ _ _ _ _ => rfl, ⟨a27, n27, k27⟩, O_Bid.cls⟩
    · subst e2; rw [e1]; exact ⟨_, f31, _, (FO_M_Only_worths).mono (by decide), bnd2 F31 fun _ _ _ _ _ _ _ _ => rfl, ⟨a31, n31, k31⟩, O_Only.cls⟩
    · subst e2; rw [e1]; exact ⟨_, f33, _, (FO_M_SoMany_worths).mono (by decide), bnd2 F33 fun _ _ _ _ _ _ _ _ => rfl, ⟨a33, n33, k33⟩, O_SoMany.cls⟩
    · subst e2; rw [e1]; exact ⟨_, f35, _, (FO_M_UpTo_worths).mono (by decide), bnd2 F35 fun _ _ _ _ _ _ _ _ => rfl, ⟨a35, n35, k35⟩, O_UpTo.cls⟩
    · subst e2; rw [e1]; exact ⟨_, f37, _, (FO_M_AnyOf_worths).mono (by decide), bnd2 F37 fun _ _ _ _ _ _ _ _ => rfl, ⟨a37, n37, k37⟩, O_AnyOf.cls⟩
  have D_L_plainly := ok_L_plainly (P := l.prog) (w := w) (base := base) F25 g25 m_range m_max m_sum D_L_alike D_L_cell D_L_amount O_Bid O_Only O_SoMany O_UpTo O_Several O_AnyOf MK_AnyOf MK_Only MK_UpTo hT_worths_a
  exact ok_law (P := l.prog) (w := w) (base := base) F26 g26 m_range m_list m_isinstance D_L_sizes D_L_cell D_L_single D_L_best D_L_alike D_L_plainly D_L_form D_L_worth O_Bid O_Only O_SoMany O_UpTo O_Several O_AnyOf MK_AnyOf MK_Only hT_worths_a kit_Bid_Bid kit_Only_Bid kit_SoMany_Bid kit_UpTo_Bid kit_Several_Bid kit_AnyOf_Bid
theorem walk {l : PySem.W.OpenLaw} {q : Program} {loose : List Str} {XP : (Str → Option Value) → Heap → Prop} {YP : World → Heap → Prop} {d : DefRec} {K : Params → PySem.W.Frag} (hn : l.most = some 63) (hdf : d.params.defaults = [])
    (hY : ∀ (w : World) (h : Heap), YP w h → (K w.params).In h)
    (F : ∀ (w : World) (mg : Str → Option Value) (fa : Addr) (h : Heap), (K w.params).In h → h.Ns mainGlobals mg → mg d.name = some (.ref fa) →
      ∃ fd : FuncData, (∀ (s : Shared) (u : Value), BindsTo s fd ⟨[u], []⟩ [("_law_script", u)]) ∧ ∀ base : Heap, (K w.params).In base → base.Ns mainGlobals mg → FnOk l.prog w (K w.params) mg base CX0 8 fa fd ["_law_script"] (sp_law (K w.params))) :
    PySem.W.WalkO q loose XP YP l.row.toRowW d [] (fun f vs => PySem.call f vs) :=
  L2.walk_of (n := 63) (k := 8) (x := "_law_script") (CX := fun _ => CX0) (sp := fun w => sp_law (K w.params)) hn (by decide) hdf ⟨rfl, by decide, by decide⟩ hY F (fun _ _ a ns hl _ hS => ⟨a, ns, rfl, hS, hl, fun _ => rfl⟩) fun _ _ _ _ _ z => z
theorem walkX_of {q : Program} {loose : List Str} {XP : (Str → Option Value) → Heap → Prop} {K : Params → PySem.W.Frag} {as : List Addr} {n t : Nat} {r : PySem.W.RowW} {d : DefRec} {kwd : List (Str × Expr)} {run : Value → List Value → Sem Value} (e : ∀ P, as = (K P).map (·.1))
    (h : PySem.W.WalkO q loose XP (PySem.W.InK K) r d kwd run) : PySem.W.WalkX q loose XP (PySem.W.X.obsZ as) (PySem.W.X.valZ K n t) r d kwd run :=
  fun w s₀ s₁ mg mb G y a o pm cd doc dV kV h1 h2 h3 h4 h5 h6 args vals as' L hp hl hr hw hlo => h w s₀ s₁ mg mb G (PySem.W.InK.keeps w _ _ (PySem.W.X.z_facts e y).2.1 L.keeps) a o pm cd doc dV kV h1 h2 h3 h4 h5 h6 args vals as' hp hl hr hw hlo
end My
noncomputable def PySem.W.Fast.tw9310220488304683520 : Nat := 0
noncomputable def PySem.W.Fast.tw6576185670503324119 : Nat := 0
noncomputable def PySem.W.Fast.tw1028541310107205097 : Nat := 0
noncomputable def PySem.W.Fast.tw18195570845277525260 : Nat := 0
noncomputable def PySem.W.Fast.tw166617759716131794 : Nat := 0
noncomputable def PySem.W.Fast.tw753324391039438808 : Nat := 0
noncomputable def PySem.W.Fast.tw12490292388346720540 : Nat := 0
noncomputable def PySem.W.Fast.tw6115601316191237174 : Nat := 0
noncomputable def PySem.W.Fast.tw3082881646131282243 : Nat := 0
noncomputable def PySem.W.Fast.tw7590443881978863260 : Nat := 0
noncomputable def PySem.W.Fast.tw11065340219563656812 : Nat := 0
noncomputable def PySem.W.Fast.tw10000767342149483365 : Nat := 0
noncomputable def PySem.W.Fast.tw18047003093366881739 : Nat := 0
open PySem PySem.W PyProof.Rows
set_option maxRecDepth 100000 in
set_option maxHeartbeats 0 in
theorem PySem.Challenge.cw_gavelhall_k23_any_shares_holds : PySem.Challenge.rw_gavelhall_k23_any_shares.Holds := by
  w_on; o_law; z_head; (case hw => w_witness2)
  k_fill
  refine My.walkX_of (fun _ => by kernel_rfl) (My.walk (l := PySem.Challenge.rw_gavelhall_k23_any_shares) rfl rfl (fun w h Y => Y) ?F)
  case F =>
    intro w mg fa h KX G hmg
    refine' My.all_mk KX G hmg ?b_Bid ?pg_Bid ?hd_Bid ?po_Bid ?sa_Bid ?mk_Bid ?kp_Bid ?t1_Bid ?t2_Bid ?t3_Bid ?t4_Bid ?in_Bid ?b_Only ?pg_Only ?hd_Only ?po_Only ?sa_Only ?mk_Only ?kp_Only ?no_Only_bundle ?no_Only_amount ?t1_Only ?t2_Only ?t3_Only ?t4_Only ?b_SoMany ?pg_SoMany ?hd_SoMany ?po_SoMany ?sa_SoMany ?mk_SoMany ?kp_SoMany ?no_SoMany_kind ?no_SoMany_least ?no_SoMany_amount ?t1_SoMany ?t2_SoMany ?t3_SoMany ?t4_SoMany ?b_UpTo ?pg_UpTo ?hd_UpTo ?po_UpTo ?sa_UpTo ?mk_UpTo ?kp_UpTo ?no_UpTo_kind ?no_UpTo_most ?no_UpTo_each ?t1_UpTo ?t2_UpTo ?t3_UpTo ?t4_UpTo ?b_Several ?pg_Several ?hd_Several ?po_Several ?sa_Several ?mk_Several ?kp_Several ?no_Several_bids ?t1_Several ?t2_Several ?t3_Several ?t4_Several ?b_AnyOf ?pg_AnyOf ?hd_AnyOf ?po_AnyOf ?sa_AnyOf ?mk_AnyOf ?kp_AnyOf ?no_AnyOf_bids ?t1_AnyOf ?t2_AnyOf ?t3_AnyOf ?t4_AnyOf ?kit_Bid_Bid ?kit_Only_Bid ?kit_SoMany_Bid ?kit_UpTo_Bid ?kit_Several_Bid ?kit_AnyOf_Bid ?a0 ?l0 ?c0 ?k0 ?a1 ?l1 ?c1 ?k1 ?a2 ?l2 ?c2 ?k2 ?a3 ?l3 ?c3 ?k3 ?a4 ?l4 ?c4 ?k4 ?a5 ?l5 ?c5 ?k5 ?a6 ?l6 ?c6 ?k6 ?a7 ?l7 ?c7 ?k7 ?a8 ?l8 ?c8 ?k8 ?a9 ?l9 ?c9 ?k9 ?a10 ?l10 ?c10 ?k10 ?a11 ?l11 ?c11 ?k11 ?a12 ?l12 ?c12 ?k12 ?a13 ?l13 ?c13 ?k13 ?a14 ?l14 ?c14 ?k14 ?a15 ?l15 ?c15 ?k15 ?a16 ?l16 ?c16 ?k16 ?a17 ?l17 ?c17 ?k17 ?a18 ?l18 ?c18 ?k18 ?a19 ?l19 ?c19 ?k19 ?a20 ?l20 ?c20 ?k20 ?a21 ?l21 ?c21 ?k21 ?a22 ?l22 ?c22 ?k22 ?a23 ?l23 ?c23 ?k23 ?a24 ?l24 ?c24 ?k24 ?a25 ?l25 ?c25 ?k25 ?a26 ?l26 ?c26 ?k26 ?a27 ?l27 ?c27 ?k27 ?n27 ?i27_Several ?a28 ?l28 ?c28 ?k28 ?n28 ?i28_Only ?i28_SoMany ?i28_UpTo ?a29 ?l29 ?c29 ?k29 ?n29 ?i29_Only ?i29_SoMany ?i29_UpTo ?a30 ?l30 ?c30 ?k30 ?n30 ?a31 ?l31 ?c31 ?k31 ?n31 ?a32 ?l32 ?c32 ?k32 ?n32 ?a33 ?l33 ?c33 ?k33 ?n33 ?a34 ?l34 ?c34 ?k34 ?n34 ?a35 ?l35 ?c35 ?k35 ?n35 ?a36 ?l36 ?c36 ?k36 ?n36 ?i36_AnyOf ?a37 ?l37 ?c37 ?k37 ?n37 ?z_isinstance ?z_int ?z_bool ?z_range ?z_len ?z_list ?z_max ?z_sum ?z_min ?z_divmod ?z_zip
    (case b_Bid => k_is)
    (case pg_Bid => k_is)
    (case hd_Bid => k_is)
    (case po_Bid => k_is)
    (case sa_Bid => k_is)
    (case mk_Bid => k_is)
    (case kp_Bid => k_is)
    (case t1_Bid => k_is)
    (case t2_Bid => k_is)
    (case t3_Bid => k_is)
    (case t4_Bid => k_is)
    (case in_Bid => k_is)
    (case b_Only => k_is)
    (case pg_Only => k_is)
    (case hd_Only => k_is)
    (case po_Only => k_is)
    (case sa_Only => k_is)
    (case mk_Only => k_is)
    (case kp_Only => k_is)
    (case no_Only_bundle => k_is)
    (case no_Only_amount => k_is)
    (case t1_Only => k_is)
    (case t2_Only => k_is)
    (case t3_Only => k_is)
    (case t4_Only => k_is)
    (case b_SoMany => k_is)
    (case pg_SoMany => k_is)
    (case hd_SoMany => k_is)
    (case po_SoMany => k_is)
    (case sa_SoMany => k_is)
    (case mk_SoMany => k_is)
    (case kp_SoMany => k_is)
    (case no_SoMany_kind => k_is)
    (case no_SoMany_least => k_is)
    (case no_SoMany_amount => k_is)
    (case t1_SoMany => k_is)
    (case t2_SoMany => k_is)
    (case t3_SoMany => k_is)
    (case t4_SoMany => k_is)
    (case b_UpTo => k_is)
    (case pg_UpTo => k_is)
    (case hd_UpTo => k_is)
    (case po_UpTo => k_is)
    (case sa_UpTo => k_is)
    (case mk_UpTo => k_is)
    (case kp_UpTo => k_is)
    (case no_UpTo_kind => k_is)
    (case no_UpTo_most => k_is)
    (case no_UpTo_each => k_is)
    (case t1_UpTo => k_is)
    (case t2_UpTo => k_is)
    (case t3_UpTo => k_is)
    (case t4_UpTo => k_is)
    (case b_Several => k_is)
    (case pg_Several => k_is)
    (case hd_Several => k_is)
    (case po_Several => k_is)
    (case sa_Several => k_is)
    (case mk_Several => k_is)
    (case kp_Several => k_is)
    (case no_Several_bids => k_is)
    (case t1_Several => k_is)
    (case t2_Several => k_is)
    (case t3_Several => k_is)
    (case t4_Several => k_is)
    (case b_AnyOf => k_is)
    (case pg_AnyOf => k_is)
    (case hd_AnyOf => k_is)
    (case po_AnyOf => k_is)
    (case sa_AnyOf => k_is)
    (case mk_AnyOf => k_is)
    (case kp_AnyOf => k_is)
    (case no_AnyOf_bids => k_is)
    (case t1_AnyOf => k_is)
    (case t2_AnyOf => k_is)
    (case t3_AnyOf => k_is)
    (case t4_AnyOf => k_is)
    (case kit_Bid_Bid => kit_is)
    (case kit_Only_Bid => kit_is)
    (case kit_SoMany_Bid => kit_is)
    (case kit_UpTo_Bid => kit_is)
    (case kit_Several_Bid => kit_is)
    (case kit_AnyOf_Bid => kit_is)
    (case a0 => k_is)
    (case l0 => k_is)
    (case c0 => k_is)
    (case k0 => k_is)
    (case a1 => k_is)
    (case l1 => k_is)
    (case c1 => k_is)
    (case k1 => k_is)
    (case a2 => k_is)
    (case l2 => k_is)
    (case c2 => k_is)
    (case k2 => k_is)
    (case a3 => k_is)
    (case l3 => k_is)
    (case c3 => k_is)
    (case k3 => k_is)
    (case a4 => k_is)
    (case l4 => k_is)
    (case c4 => k_is)
    (case k4 => k_is)
    (case a5 => k_is)
    (case l5 => k_is)
    (case c5 => k_is)
    (case k5 => k_is)
    (case a6 => k_is)
    (case l6 => k_is)
    (case c6 => k_is)
    (case k6 => k_is)
    (case a7 => k_is)
    (case l7 => k_is)
    (case c7 => k_is)
    (case k7 => k_is)
    (case a8 => k_is)
    (case l8 => k_is)
    (case c8 => k_is)
    (case k8 => k_is)
    (case a9 => k_is)
    (case l9 => k_is)
    (case c9 => k_is)
    (case k9 => k_is)
    (case a10 => k_is)
    (case l10 => k_is)
    (case c10 => k_is)
    (case k10 => k_is)
    (case a11 => k_is)
    (case l11 => k_is)
    (case c11 => k_is)
    (case k11 => k_is)
    (case a12 => k_is)
    (case l12 => k_is)
    (case c12 => k_is)
    (case k12 => k_is)
    (case a13 => k_is)
    (case l13 => k_is)
    (case c13 => k_is)
    (case k13 => k_is)
    (case a14 => k_is)
    (case l14 => k_is)
    (case c14 => k_is)
    (case k14 => k_is)
    (case a15 => k_is)
    (case l15 => k_is)
    (case c15 => k_is)
    (case k15 => k_is)
    (case a16 => k_is)
    (case l16 => k_is)
    (case c16 => k_is)
    (case k16 => k_is)
    (case a17 => k_is)
    (case l17 => k_is)
    (case c17 => k_is)
    (case k17 => k_is)
    (case a18 => k_is)
    (case l18 => k_is)
    (case c18 => k_is)
    (case k18 => k_is)
    (case a19 => k_is)
    (case l19 => k_is)
    (case c19 => k_is)
    (case k19 => k_is)
    (case a20 => k_is)
    (case l20 => k_is)
    (case c20 => k_is)
    (case k20 => k_is)
    (case a21 => k_is)
    (case l21 => k_is)
    (case c21 => k_is)
    (case k21 => k_is)
    (case a22 => k_is)
    (case l22 => k_is)
    (case c22 => k_is)
    (case k22 => k_is)
    (case a23 => k_is)
    (case l23 => k_is)
    (case c23 => k_is)
    (case k23 => k_is)
    (case a24 => k_is)
    (case l24 => k_is)
    (case c24 => k_is)
    (case k24 => k_is)
    (case a25 => k_is)
    (case l25 => k_is)
    (case c25 => k_is)
    (case k25 => k_is)
    (case a26 => k_is)
    (case l26 => k_is)
    (case c26 => k_is)
    (case k26 => k_is)
    (case a27 => k_is)
    (case l27 => k_is)
    (case c27 => k_is)
    (case k27 => k_is)
    (case n27 => k_is)
    (case i27_Several => k_is)
    (case a28 => k_is)
    (case l28 => k_is)
    (case c28 => k_is)
    (case k28 => k_is)
    (case n28 => k_is)
    (case i28_Only => k_is)
    (case i28_SoMany => k_is)
    (case i28_UpTo => k_is)
    (case a29 => k_is)
    (case l29 => k_is)
    (case c29 => k_is)
    (case k29 => k_is)
    (case n29 => k_is)
    (case i29_Only => k_is)
    (case i29_SoMany => k_is)
    (case i29_UpTo => k_is)
    (case a30 => k_is)
    (case l30 => k_is)
    (case c30 => k_is)
    (case k30 => k_is)
    (case n30 => k_is)
    (case a31 => k_is)
    (case l31 => k_is)
    (case c31 => k_is)
    (case k31 => k_is)
    (case n31 => k_is)
    (case a32 => k_is)
    (case l32 => k_is)
    (case c32 => k_is)
    (case k32 => k_is)
    (case n32 => k_is)
    (case a33 => k_is)
    (case l33 => k_is)
    (case c33 => k_is)
    (case k33 => k_is)
    (case n33 => k_is)
    (case a34 => k_is)
    (case l34 => k_is)
    (case c34 => k_is)
    (case k34 => k_is)
    (case n34 => k_is)
    (case a35 => k_is)
    (case l35 => k_is)
    (case c35 => k_is)
    (case k35 => k_is)
    (case n35 => k_is)
    (case a36 => k_is)
    (case l36 => k_is)
    (case c36 => k_is)
    (case k36 => k_is)
    (case n36 => k_is)
    (case i36_AnyOf => k_is)
    (case a37 => k_is)
    (case l37 => k_is)
    (case c37 => k_is)
    (case k37 => k_is)
    (case n37 => k_is)
    (case z_isinstance => k_is)
    (case z_int => k_is)
    (case z_bool => k_is)
    (case z_range => k_is)
    (case z_len => k_is)
    (case z_list => k_is)
    (case z_max => k_is)
    (case z_sum => k_is)
    (case z_min => k_is)
    (case z_divmod => k_is)
    (case z_zip => k_is)


