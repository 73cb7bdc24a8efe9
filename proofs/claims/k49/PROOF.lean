import PyProof.Rows.All
import Wide.All
import OpenK.AllK
import Wide.FinOn
import Lean
import PyProof.EqAt
import PyProof.EqKinds
import PyProof.TupleCall
import PyProof.ZipIter
import PyProof.LayNew
import PyProof.Rows.ZipGen
import PyProof.Rows.FactsT2
import KE.KMinKey
import PyProof.FString5
import PyProof.SliceStr2
import PyProof.EnumFor
import PyProof.EnumStmt
import PyProof.EnumMake
import PyProof.StrLoop
import PyProof.StrWalks
import PyProof.Rows.EnumRows
import KE.KDictList
import KE.KEqDict
import PyProof.StrOps2
import KE.KSortTup
import PyProof.AttrMiss
import PyProof.IsiH_list
import KE.KDictOf
import PySem.Challenge.RW_gavelhall_k49_whole_side_by_side
set_option genSizeOf false
set_option Elab.async false
set_option linter.all false
set_option maxRecDepth 100000
/-! THE HAND LAYER, for ints, bools, texts, own classes, LISTS and tuples (index, slices, in, append, pop ..), calls, loops. Paste it whole ahead of your own text; what your proof does not reach may be deleted. -/
namespace L2
open PySem PySem.Spec PyProof.Rows

/-- a key: an int or a str -/
noncomputable abbrev Key := Sum Int Str
noncomputable def keyIs : Key → Value → Bool
  | .inl k, v => Value.isInt k v
  | .inr x, v => Value.isStrOf x v
noncomputable def keyH (w : World) : Key → Int
  | .inl k => hashInt k
  | .inr x => hashStr w x
theorem keyIs_shape : ∀ {k : Key} {v : Value}, keyIs k v = true → (∃ i t, k = Sum.inl i ∧ v = Value.int i t) ∨ (∃ x t, k = Sum.inr x ∧ v = Value.str x t)
  | .inl i, v, h => by
    obtain ⟨t, e⟩ := Value.isInt_shape (k := i) (v := v) h
    exact .inl ⟨i, t, rfl, e⟩
  | .inr x, v, h => by
    obtain ⟨t, e⟩ := Value.isStrOf_shape (x := x) (v := v) h
    exact .inr ⟨x, t, rfl, e⟩
theorem keyIs_int (i : Int) (t : Tok) : keyIs (.inl i) (.int i t) = true := by simp [keyIs, Value.isInt]
theorem keyIs_str (x : Str) (t : Tok) : keyIs (.inr x) (.str x t) = true := by simp [keyIs, Value.isStrOf]
theorem key_ll (a b : Int) : decide ((Sum.inl a : Key) = Sum.inl b) = (a == b) := by
  by_cases e : a = b
  · subst e; simp
  · have h : ¬ (Sum.inl a : Key) = Sum.inl b := fun q => e (Sum.inl.inj q)
    rw [decide_eq_false h]
    exact (beq_eq_false_iff_ne.mpr e).symm
theorem key_rr (a b : Str) : decide ((Sum.inr a : Key) = Sum.inr b) = decide (a = b) := by
  by_cases e : a = b
  · subst e; simp
  · have h : ¬ (Sum.inr a : Key) = Sum.inr b := fun q => e (Sum.inr.inj q)
    rw [decide_eq_false h, decide_eq_false e]
theorem key_lr (a : Int) (b : Str) : decide ((Sum.inl a : Key) = Sum.inr b) = false := decide_eq_false (fun q => nomatch q)
theorem key_rl (a : Str) (b : Int) : decide ((Sum.inr a : Key) = Sum.inl b) = false := decide_eq_false (fun q => nomatch q)

noncomputable def mixKind (prog : Program) (w : World) : PySem.KeyKind prog w Key where
  is := keyIs
  hash := keyH w
  inj := fun v a b ha hb => by
    rcases keyIs_shape ha with ⟨i, t, rfl, rfl⟩ | ⟨x, t, rfl, rfl⟩
    · rcases keyIs_shape hb with ⟨j, u, rfl, e⟩ | ⟨y, u, rfl, e⟩
      · injection e with e1 _; rw [e1]
      · exact nomatch e
    · rcases keyIs_shape hb with ⟨j, u, rfl, e⟩ | ⟨y, u, rfl, e⟩
      · exact nomatch e
      · injection e with e1 _; rw [e1]
  byValue := fun k v h => by
    rcases keyIs_shape h with ⟨i, t, rfl, rfl⟩ | ⟨x, t, rfl, rfl⟩ <;> rfl
  pyHash := fun hv h => by
    rcases keyIs_shape hv with ⟨i, t, rfl, rfl⟩ | ⟨x, t, rfl, rfl⟩
    · exact wpAny_pyHash_int h
    · exact wpAny_pyHash_str h
  eqBool := fun hu hv h => by
    rcases keyIs_shape hu with ⟨i, t, rfl, rfl⟩ | ⟨x, t, rfl, rfl⟩
    · rcases keyIs_shape hv with ⟨j, u, rfl, rfl⟩ | ⟨y, u, rfl, rfl⟩
      · rw [key_ll] at h; exact wpAny_eqBool_int h
      · rw [key_lr] at h; exact SeqAt.EqAt.int_str i t y u _ _ _ _ h
    · rcases keyIs_shape hv with ⟨j, u, rfl, rfl⟩ | ⟨y, u, rfl, rfl⟩
      · rw [key_rl] at h; exact SeqAt.EqAt.str_int x t j u _ _ _ _ h
      · rw [key_rr] at h; exact wpAny_eqBool_str h
  «strs» := fun k x t v h => by
    rcases keyIs_shape h with ⟨i, u, rfl, e⟩ | ⟨y, u, rfl, e⟩
    · exact nomatch e
    · injection e with e1 _
      subst e1
      cases v <;> rfl

theorem mixKind_int (prog : Program) (w : World) (i : Int) (t : Tok) : (mixKind prog w).is (.inl i) (.int i t) = true := keyIs_int i t
theorem mixKind_str (prog : Program) (w : World) (x : Str) (t : Tok) : (mixKind prog w).is (.inr x) (.str x t) = true := keyIs_str x t
end L2

namespace L2
open PySem PySem.Spec PyProof.Rows

/-- a value, without the heap -/
inductive V where
  | non | bl (b : Bool) | int (i : Int) | str (x : Str) | byt (b : Array UInt8) | flt (b : UInt64) | ref (a : Addr) | ty (n : String)
  deriving DecidableEq

noncomputable def RelV : V → Value → Prop
  | .non, u => u = Value.none
  | .bl b, u => u = Value.bool b
  | .int i, u => ∃ t, u = Value.int i t
  | .str x, u => ∃ t, u = Value.str x t
  | .byt b, u => ∃ t, u = Value.bytes b t
  | .flt b, u => ∃ t, u = Value.float b t
  | .ref a, u => u = Value.ref a
  | .ty n, u => u = Value.type n

noncomputable abbrev Vals : List V → List Value → Prop := Paired RelV
theorem Vals.length {xs : List V} {us : List Value} (r : Vals xs us) : xs.length = us.length := Paired.length r
theorem Vals.get : ∀ {xs : List V} {us : List Value} {i : Nat} {x : V}, Vals xs us → xs[i]? = some x → ∃ u, us[i]? = some u ∧ RelV x u
  | _, _, _, _, .nil, e => by simp at e
  | _, _, 0, _, .cons r _, e => by simp at e; subst e; exact ⟨_, rfl, r⟩
  | _, _, i + 1, x, .cons _ t, e => by
    obtain ⟨u, h1, h2⟩ := Vals.get (i := i) (x := x) t (by simpa using e)
    exact ⟨u, by simpa using h1, h2⟩
theorem Vals.append : ∀ {xs ys : List V} {us ws : List Value}, Vals xs us → Vals ys ws → Vals (xs ++ ys) (us ++ ws)
  | _, _, _, _, .nil, s => s
  | _, _, _, _, .cons r t, s => .cons r (Vals.append t s)

noncomputable def RelO : Option V → Option Value → Prop
  | some v, some u => RelV v u
  | none, none => True
  | _, _ => False
noncomputable def KV {κ : Type} : List (κ × V) → List (κ × Value) → Prop := Paired fun (p : κ × V) (q : κ × Value) => p.1 = q.1 ∧ RelV p.2 q.2

/-- a key of a dict (00_mix): an int or a text -/
noncomputable def kV : Key → V
  | .inl i => .int i
  | .inr x => .str x

/-- what stands at a tracked address -/
inductive HO where
  /-- a list -/
  | lst (xs : List V)
  /-- a tuple (never changes) -/
  | tup (xs : List V)
  /-- a dict whose keys are ints and texts; one whose keys are tuples of ints and texts (the empty one is both) -/
  | dK (kvs : List (Key × V)) | dT (kvs : List (List Key × V))
  /-- a set of ints: its members, its size -/
  | set (S : Int → Bool) (n : Nat)
  /-- an instance of the class at C, its dict at dx, its attributes -/
  | ins (C dx : Addr) (fs : List (Str × V))
  /-- the dict of the instance at x -/
  | own (x : Addr)
  /-- the dict of an exception -/
  | xd (fs : List (Str × V))
  /-- a bound method, f of x -/
  | met (f x : Addr)
  /-- a range object lo, lo + 1, .. below hi -/
  | rng (lo hi : Int)
  /-- a thing that is known to the object (the script; a dict while a loop walks it): read, never written while it is so -/
  | frz (o : Obj) (u : HO)
  /-- a code object's table -/
  | tbl (ps : Array Value)
  /-- any other thing, by what is true of its one object (a def of one's own: SetO a S n := HO.ext fun h => ..) -/
  | ext (φ : Heap → Prop)

noncomputable abbrev Hp := Addr → Option HO
noncomputable def upd (H : Hp) (a : Addr) (o : HO) : Hp := fun b => if b = a then some o else H b
theorem upd_same {H : Hp} {a : Addr} {o : HO} : upd H a o a = some o := by unfold upd; rw [if_pos rfl]
theorem upd_ne {H : Hp} {a b : Addr} {o : HO} (h : b ≠ a) : upd H a o b = H b := by unfold upd; rw [if_neg h]
theorem ne_of_none {H : Hp} {a b : Addr} {o : HO} (h : H a = some o) (h' : H b = none) : a ≠ b := by
  intro e; subst e; rw [h] at h'; cases h'

section
variable (P : Program) (w : World)
noncomputable def ObjOk (H : Hp) (h : Heap) (a : Addr) : HO → Prop
  | .lst xs => xs.length ≤ sizeLine ∧ ∃ (its : List Value) (n : Nat), Vals xs its ∧ h.get? a = some { cls := .type "list", data := .seq its.toArray n }
  | .tup xs => xs.length ≤ sizeLine ∧ ∃ its : List Value, Vals xs its ∧ IsTup h a its.toArray
  | .dK kvs => kvs.length ≤ sizeLine ∧ (a == sysModules) = false ∧ ∃ vs, KV kvs vs ∧ h.DictOf (mixKind P w) a vs
  | .dT kvs => kvs.length ≤ sizeLine ∧ (a == sysModules) = false ∧ ∃ xs : List (List Key × Addr × Value),
      Paired (fun (p : List Key × V) (q : List Key × Addr × Value) => p.1 = q.1 ∧ H q.2.1 = some (.tup (p.1.map kV)) ∧ RelV p.2 q.2.2) kvs xs ∧
      ∃ o es ep, h.get? a = some o ∧ o.ExactDict ∧ o.data = .dict es ep ∧ es.toList = xs.map (entryOfKey (tupleKind (mixKind P w))) ∧ (xs.map (·.1)).Nodup
  | .set S n => h.SetOf (intKind P w) a S n
  | .ins C dx fs => H dx = some (.own a) ∧ fs.length ≤ 1000 ∧ dx ≠ a ∧ h.get? a = some (PySem.W.instObj C dx) ∧
      ∃ mA, h.Ns1 dx mA ∧ (∀ f, RelO (fs.lookup f) (mA f)) ∧ PySem.Within mA (fs.map (·.1))
  | .own _ => ∃ o, h.get? a = some o
  | .xd fs => ∃ mA, h.Ns1 a mA ∧ ∀ f, RelO (fs.lookup f) (mA f)
  | .rng lo hi => ∃ t u v, h.get? a = some { cls := .type "range", data := .fields #[.int lo t, .int hi u, .int 1 v] }
  | .frz o u => h.get? a = some o ∧ ObjOk H h a u
  | .tbl ps => h.get? a = some { cls := .none, data := .fields ps }
  | .met f x => h.get? a = some (PySem.W.methodObj (.ref f) (.ref x))
  | .ext φ => φ h ∧ (∃ o, h.get? a = some o) ∧ ∀ h1 h2 : Heap, φ h1 → (∀ o, h1.get? a = some o → h2.get? a = some o) → φ h2
/-- the abstract heap is held -/
noncomputable def HOk (H : Hp) (h : Heap) : Prop := ∀ a o, H a = some o → ObjOk P w H h a o
end

section
variable {P : Program} {w : World} {H H' : Hp} {h h' : Heap} {a : Addr} {o : HO}
theorem ObjOk.lt (x : ObjOk P w H h a o) : a < h.objs.size := by
  cases o with
  | lst xs => obtain ⟨_, _, _, _, e⟩ := x; exact Heap.lt_size e
  | tup xs => obtain ⟨_, _, _, p⟩ := x; exact p.lt
  | dK kvs => obtain ⟨_, _, _, _, o, _, _, e, _⟩ := x; exact Heap.lt_size e
  | dT kvs => obtain ⟨_, _, _, _, o, _, _, e, _⟩ := x; exact Heap.lt_size e
  | set S n => obtain ⟨o, _, _, _, e, _⟩ := x; exact Heap.lt_size e
  | ins C dx fs => obtain ⟨_, _, _, e, _⟩ := x; exact Heap.lt_size e
  | own y => obtain ⟨_, e⟩ := x; exact Heap.lt_size e
  | xd fs => obtain ⟨_, ⟨_, _, _, e, _⟩, _⟩ := x; exact Heap.lt_size e
  | rng lo hi => obtain ⟨_, _, _, e⟩ := x; exact Heap.lt_size e
  | frz ob u => obtain ⟨e, _⟩ := x; exact Heap.lt_size e
  | tbl ps => exact Heap.lt_size (show h.get? a = some _ from x)
  | met f y => exact Heap.lt_size (show h.get? a = some _ from x)
  | ext φ => obtain ⟨_, ⟨_, e⟩, _⟩ := x; exact Heap.lt_size e
theorem Paired.mapP {α β : Type} {F G : α → β → Prop} : ∀ {l₁ : List α} {l₂ : List β}, Paired F l₁ l₂ → (∀ a b, F a b → G a b) → Paired G l₁ l₂
  | _, _, .nil, _ => .nil
  | _, _, .cons r t, f => .cons (f _ _ r) (Paired.mapP t f)
/-- what an object's description leans on: its own object, its own dict, the tuples -/
theorem ObjOk.stay (x : ObjOk P w H h a o) (k : ∀ b u, (b = a ∨ H b = some (.own a)) → h.get? b = some u → h'.get? b = some u)
    (ho : ∀ b, H b = some (.own a) → H' b = some (.own a)) (ht : ∀ b xs, H b = some (.tup xs) → H' b = some (.tup xs)) : ObjOk P w H' h' a o := by
  induction o with
  | lst xs => obtain ⟨z, its, n, r, e⟩ := x; exact ⟨z, its, n, r, k _ _ (.inl rfl) e⟩
  | tup xs => obtain ⟨z, its, r, ob, e, c⟩ := x; exact ⟨z, its, r, ob, k _ _ (.inl rfl) e, c⟩
  | dK kvs => obtain ⟨z, y, vs, r, ob, es, ep, e, c⟩ := x; exact ⟨z, y, vs, r, ob, es, ep, k _ _ (.inl rfl) e, c⟩
  | dT kvs =>
    obtain ⟨z, y, xs, r, ob, es, ep, e, c⟩ := x
    exact ⟨z, y, xs, Paired.mapP r fun p q z => ⟨z.1, ht _ _ z.2.1, z.2.2⟩, ob, es, ep, k _ _ (.inl rfl) e, c⟩
  | set S n => obtain ⟨ob, es, ep, t, e, c⟩ := x; exact ⟨ob, es, ep, t, k _ _ (.inl rfl) e, c⟩
  | ins C dx fs =>
    obtain ⟨d, z, ne, e, mA, ⟨od, es, ep, e2, c⟩, r⟩ := x
    exact ⟨ho _ d, z, ne, k _ _ (.inl rfl) e, mA, ⟨od, es, ep, k _ _ (.inr d) e2, c⟩, r⟩
  | own y => obtain ⟨ob, e⟩ := x; exact ⟨ob, k _ _ (.inl rfl) e⟩
  | xd fs => obtain ⟨mA, ⟨od, es, ep, e, c⟩, r⟩ := x; exact ⟨mA, ⟨od, es, ep, k _ _ (.inl rfl) e, c⟩, r⟩
  | rng lo hi => obtain ⟨t, u, v, e⟩ := x; exact ⟨t, u, v, k _ _ (.inl rfl) e⟩
  | frz ob u ih => obtain ⟨e, q⟩ := x; exact ⟨k _ _ (.inl rfl) e, ih q⟩
  | tbl ps =>
    have e : h.get? a = some { cls := .none, data := .fields ps } := x
    show h'.get? a = some { cls := .none, data := .fields ps }
    exact k a _ (.inl rfl) e
  | met f y =>
    have e : h.get? a = some (PySem.W.methodObj (.ref f) (.ref y)) := x
    show h'.get? a = some (PySem.W.methodObj (.ref f) (.ref y))
    exact k a _ (.inl rfl) e
  | ext φ => obtain ⟨p, ⟨o, e⟩, st⟩ := x; exact ⟨st _ _ p fun o q => k _ _ (.inl rfl) q, ⟨o, k _ _ (.inl rfl) e⟩, st⟩
theorem HOk.lt (x : HOk P w H h) (e : H a = some o) : a < h.objs.size := (x a o e).lt
theorem HOk.fresh (x : HOk P w H h) (e : h.objs.size ≤ a) : H a = none := by
  cases q : H a with
  | none => rfl
  | some u => exact absurd (Nat.lt_of_lt_of_le (x.lt q) e) (Nat.lt_irrefl _)
/-- every object of the heap is kept -/
theorem HOk.kept (x : HOk P w H h) (k : ∀ b u, h.get? b = some u → h'.get? b = some u) : HOk P w H h' := fun a o e =>
  (x a o e).stay (fun b u _ q => k b u q) (fun _ q => q) fun _ _ q => q
/-- a new object is laid and tracked -/
theorem HOk.laid (x : HOk P w H h) (k : ∀ b u, h.get? b = some u → h'.get? b = some u) (hp : h.objs.size ≤ a) (new : ObjOk P w (upd H a o) h' a o) : HOk P w (upd H a o) h' := fun b u e => by
  have hn := x.fresh hp
  by_cases hb : b = a
  · subst hb; rw [upd_same] at e; cases e; exact new
  · rw [upd_ne hb] at e
    exact (x b u e).stay (fun c v _ q => k c v q) (fun c q => by rw [upd_ne (ne_of_none q hn)]; exact q) fun c xs q => by rw [upd_ne (ne_of_none q hn)]; exact q
end

/-- what may be read as u: it is u, or a known u -/
noncomputable def Rd (H : Hp) (a : Addr) (u : HO) : Prop := H a = some u ∨ ∃ o, H a = some (.frz o u)
theorem Rd.ok {P : Program} {w : World} {H : Hp} {h : Heap} {a : Addr} {u : HO} (r : Rd H a u) (x : HOk P w H h) : ObjOk P w H h a u := by
  rcases r with r | ⟨o, r⟩
  · exact x a u r
  · obtain ⟨_, q⟩ := x a _ r
    exact q
/-- what may be written -/
noncomputable def Mut : Option HO → Prop
  | some (.lst _) => True
  | some (.dK _) => True
  | some (.dT _) => True
  | some (.set _ _) => True
  | some (.ins _ _ _) => True
  | some (.ext _) => True
  | _ => False
section
variable {P : Program} {w : World} {H : Hp} {h h' : Heap} {x e : Addr} {o' : HO}
/-- the object at e is changed: x itself, or the dict of the instance x -/
theorem HOk.write (ok : HOk P w H h) (mu : Mut (H x)) (he : e = x ∨ H e = some (.own x)) (k : ∀ b u, b ≠ e → h.get? b = some u → h'.get? b = some u) (heo : ∃ u, h'.get? e = some u)
    (new : ObjOk P w (upd H x o') h' x o') : HOk P w (upd H x o') h' := fun b u q => by
  have nown : ∀ c y, H c = some (.own y) → c ≠ x := fun c y r z => by subst z; rw [r] at mu; exact mu
  have ntup : ∀ c xs, H c = some (.tup xs) → c ≠ x := fun c xs r z => by subst z; rw [r] at mu; exact mu
  by_cases hb : b = x
  · subst hb; rw [upd_same] at q; cases q; exact new
  · rw [upd_ne hb] at q
    by_cases hbe : b = e
    · have q' : H b = some (.own x) := by
        rcases he with z | z
        · exact absurd (hbe.trans z) hb
        · rw [hbe]; exact z
      rw [q] at q'; cases q'
      obtain ⟨v, hv⟩ := heo
      exact ⟨v, by rw [hbe]; exact hv⟩
    · refine (ok b u q).stay (fun c v hc r => k c v ?_ r) (fun c r => by rw [upd_ne (nown c b r)]; exact r) fun c xs r => by rw [upd_ne (ntup c xs r)]; exact r
      rcases hc with rfl | hc
      · exact hbe
      · rintro rfl
        rcases he with z | z
        · exact nown c b hc z
        · rw [hc] at z; cases z; exact hb rfl
end

/-! ### kept unless tracked; of the frames at fs (the callers') the slots may change (an exception that passes writes there); of the records at ex (iterators) nothing is said -/
structure Un (fs ex : List Addr) (H H' : Hp) (h h' : Heap) : Prop where
  keep : ∀ b o, h.get? b = some o → H b = none → b ∉ fs → b ∉ ex → h'.get? b = some o
  slot : ∀ b o, h.get? b = some o → H b = none → b ∈ fs → b ∉ ex → ∃ sl, h'.get? b = some { o with slots := sl }
  free : ∀ b o, h.get? b = some o → H b = none → b ∉ ex → H' b = none
  there : ∀ b o, h.get? b = some o → b ∉ ex → ∃ o', h'.get? b = some o'
  tups : ∀ b xs, H b = some (.tup xs) → H' b = some (.tup xs)
  frzs : ∀ b o u, H b = some (.frz o u) → H' b = some (.frz o u)
  tbls : ∀ b ps, H b = some (.tbl ps) → ∃ more, H' b = some (.tbl (ps ++ more))
section
variable {fs fs' ex ex' : List Addr} {H H1 H2 : Hp} {h h1 h2 h' : Heap} {a x e : Addr} {o : HO}
theorem Un.any (u : Un fs ex H H1 h h1) {b : Addr} {ob : Obj} (q : h.get? b = some ob) (n : H b = none) (hx : b ∉ ex) : ∃ sl, h1.get? b = some { ob with slots := sl } := by
  by_cases hb : b ∈ fs
  · exact u.slot b ob q n hb hx
  · exact ⟨ob.slots, u.keep b ob q n hb hx⟩
theorem Un.kept (k : ∀ b u, h.get? b = some u → h'.get? b = some u) : Un fs ex H H h h' :=
  ⟨fun b ob q _ _ _ => k b ob q, fun b ob q _ _ _ => ⟨ob.slots, k b ob q⟩, fun _ _ _ n _ => n, fun b ob q _ => ⟨ob, k b ob q⟩, fun _ _ q => q, fun _ _ _ q => q, fun _ ps q => ⟨#[], by rw [q]; simp⟩⟩
theorem Un.refl : Un fs ex H H h h := Un.kept fun _ _ q => q
theorem Un.laid (k : ∀ b u, h.get? b = some u → h'.get? b = some u) (hp : h.objs.size ≤ a) (hn : H a = none) : Un fs ex H (upd H a o) h h' where
  keep := fun b u q _ _ _ => k b u q
  slot := fun b u q _ _ _ => ⟨u.slots, k b u q⟩
  free := fun b u q n _ => by rw [upd_ne (Nat.ne_of_lt (Nat.lt_of_lt_of_le (Heap.lt_size q) hp))]; exact n
  there := fun b u q _ => ⟨u, k b u q⟩
  tups := fun b xs q => by rw [upd_ne (ne_of_none q hn)]; exact q
  frzs := fun b u xs q => by rw [upd_ne (ne_of_none q hn)]; exact q
  tbls := fun b ps q => ⟨#[], by rw [upd_ne (ne_of_none q hn), q]; simp⟩
theorem Un.write (mu : Mut (H x)) (he : e = x ∨ H e = some (.own x)) (k : ∀ b u, b ≠ e → h.get? b = some u → h'.get? b = some u) (heo : ∃ u, h'.get? e = some u) : Un fs ex H (upd H x o) h h' := by
  have hx : ∀ b, H b = none → b ≠ x := fun b n z => by subst z; rw [n] at mu; exact mu
  have hb : ∀ b, H b = none → b ≠ e := fun b n z => by
    subst z
    rcases he with r | r
    · exact hx b n r
    · rw [n] at r; cases r
  have hm : ∀ b u, H b = some u → ¬ Mut (some u) → b ≠ x := fun b u q nm z => by subst z; rw [q] at mu; exact nm mu
  refine ⟨fun b u q n _ _ => k b u (hb b n) q, fun b u q n _ _ => ⟨u.slots, k b u (hb b n) q⟩, fun b u q n _ => by rw [upd_ne (hx b n)]; exact n, fun b u q _ => ?_,
    fun b xs q => by rw [upd_ne (hm b _ q fun z => z)]; exact q, fun b u xs q => by rw [upd_ne (hm b _ q fun z => z)]; exact q, fun b ps q => ⟨#[], by rw [upd_ne (hm b _ q fun z => z), q]; simp⟩⟩
  by_cases hbe : b = e
  · subst hbe; exact heo
  · exact ⟨u, k b u hbe q⟩
end

/-! ### the heap without what is tracked -/
noncomputable def trk (h : Heap) (H : Hp) : List Addr := (List.range h.objs.size).filter fun a => (H a).isSome
noncomputable def hidT (h : Heap) (H : Hp) : Heap := PySem.W.hideAll h (trk h H)
theorem hidT_size (h : Heap) (H : Hp) : (hidT h H).objs.size = h.objs.size := PySem.W.hideAll_size _ _
theorem hidT_get {h : Heap} {H : Hp} {b : Addr} {o : Obj} (e : h.get? b = some o) (n : H b = none) : (hidT h H).get? b = some o :=
  PySem.W.hideAll_get _ e fun hm => by
    have q : (H b).isSome = true := (List.mem_filter.mp hm).2
    rw [n] at q; simp at q
theorem of_hidT {h : Heap} {H : Hp} {b : Addr} {o : Obj} (e : (hidT h H).get? b = some o) : h.get? b = some o ∧ H b = none := by
  have e' : h.get? b = some o := PySem.W.of_hideAll (trk h H) e
  refine ⟨e', ?_⟩
  cases q : H b with
  | none => rfl
  | some x =>
    have hm : b ∈ trk h H := List.mem_filter.mpr ⟨List.mem_range.mpr (Heap.lt_size e'), by simp [q]⟩
    have z : (hidT h H).get? b = none := PySem.W.hideAll_none (trk h H) hm
    rw [z] at e; cases e

/-! ### OpenK's ledger, filled with every new object but one -/
end L2

namespace L2
open PySem PySem.Spec PyProof.Rows

/-- the module's facts, over the base: the heap at the law's entry without what is tracked there -/
structure Mod (K : PySem.W.Frag) (mg : Str → Option Value) (base : Heap) : Prop where
  kin : K.In base
  glob : base.Ns mainGlobals mg
  blt : ∃ mb, base.Ns builtinsNs mb ∧ ∀ x : Str, x ≠ "__name__" → mb x = bootBuiltins x
  nolimit : base.NoLimit

/-- the context: a def's body (or a comprehension's block) running. base: fixed through the whole law; s₀, H₀: the entry; outer: the frames whose slots others may change (a def's callers); stack: all frames that run;
   ex: iterators that were made ahead of the entry and are walked here (a comprehension's); fn: the names whose cells were made at the entry (a def: all; a comprehension's block: its own); calm: not within an except suite; pn: pins that every state bears; xe: what is wanted of an exception that leaves the code -/
structure Cx where
  prog : Program
  w : World
  K : PySem.W.Frag
  mg : Str → Option Value
  base : Heap
  A : Around
  N : List Str
  s₀ : Shared
  H₀ : Hp
  env : Env
  outer : List Env
  stack : List Env
  ex : List Addr
  fn : Str → Bool
  calm : Bool
  pn : List (Addr × Obj)
  xe : Value → Shared → Prop
/-- the callers' frames -/
noncomputable def frs (l : List Env) : List Addr := l.filterMap (·.frame)
noncomputable abbrev Cx.fs (X : Cx) : List Addr := frs X.outer

noncomputable def Vis (sc : Scope) (x : Str) : Prop := sc.names.lookup x = some .local ∨ sc.names.lookup x = some .cell ∨ sc.names.lookup x = some .free
noncomputable def Loc (sc : Scope) (x : Str) : Prop := sc.names.lookup x = some .local ∨ sc.names.lookup x = some .cell
noncomputable def Look (env : Env) (h : Heap) (m : Str → Option Value) (x : Str) (u : Value) : Prop :=
  (env.kindOf x = some .local ∧ m x = some u) ∨ ((env.kindOf x = some .cell ∨ env.kindOf x = some .free) ∧ ∃ c, env.cells.lookup x = some c ∧ h.IsCell c (some u))

structure Cx.Ok (X : Cx) : Prop where
  mod : Mod X.K X.mg X.base
  kind : X.env.scope.kind = .function
  glob : X.env.globals = mainGlobals
  blt : X.env.builtins = builtinsNs
  above : X.s₀.heap.objs.size ≤ X.env.locals
  inj : ∀ x y c, X.env.cells.lookup x = some c → X.env.cells.lookup y = some c → x = y
  has : ∀ x, (X.env.kindOf x = some .cell ∨ X.env.kindOf x = some .free) → ∃ c, X.env.cells.lookup x = some c
  cab : ∀ x c, X.fn x = true → X.env.cells.lookup x = some c → X.s₀.heap.objs.size ≤ c
  hd : X.calm = true → X.A.handled = none
  frames : X.A.frames = some X.stack
  stk : X.stack = X.outer ∨ (X.stack = X.env :: X.outer ∧ X.env.frame = some X.env.locals)
  exf : ∀ b ∈ X.ex, b ≠ X.env.locals ∧ ∀ x c, X.env.cells.lookup x = some c → c ≠ b
  bs : ∀ b o, X.base.get? b = some o → X.s₀.heap.get? b = some o ∧ X.H₀ b = none
  bsz : X.base.objs.size ≤ X.s₀.heap.objs.size
  noex : ∀ b o, X.base.get? b = some o → b ∉ X.ex
  exfs : ∀ b ∈ X.ex, b ∉ X.fs
  funs : X.s₀.heap.FunFrames X.base X.outer
  frf : ∀ b ∈ X.fs, X.H₀ b = none

structure Inv (X : Cx) (pins : List (Addr × Obj)) (σ : List (Option V)) (H : Hp) (s : Shared) : Prop where
  ok : X.Ok
  os : s.os = X.s₀.os
  bare : AllBare s.gens
  base : Un X.fs X.ex X.H₀ H X.s₀.heap s.heap
  loc : ∃ m, s.heap.Ns X.env.locals m ∧ ∀ (i : Nat) (x : Str) (v : V), X.N[i]? = some x → σ[i]? = some (some v) → Vis X.env.scope x → ∃ u, RelV v u ∧ Look X.env s.heap m x u
  cell : ∀ x c, X.env.cells.lookup x = some c → ∃ v, s.heap.IsCell c v
  free : H X.env.locals = none
  freeC : ∀ x c, X.env.cells.lookup x = some c → H c = none
  pin : ∀ p ∈ X.pn ++ pins, s.heap.get? p.1 = some p.2 ∧ H p.1 = none ∧ p.1 ≠ X.env.locals ∧ p.1 ∉ X.fs ∧ ∀ v, p.2.data ≠ .cell v
  hok : HOk X.prog X.w H s.heap
  len : σ.length = X.N.length

section
variable {X : Cx} {pins : List (Addr × Obj)} {σ : List (Option V)} {H H' : Hp} {s : Shared} {h' : Heap}

theorem Cx.Ok.nofr (ok : X.Ok) {b : Addr} {o : Obj} (e : X.base.get? b = some o) : b ∉ X.fs := fun hb => by
  have := (ok.funs.mem hb).1
  rw [e] at this; cases this
theorem Inv.bs (I : Inv X pins σ H s) : ∀ b o, X.base.get? b = some o → s.heap.get? b = some o ∧ H b = none := fun b o e =>
  ⟨I.base.keep b o (I.ok.bs b o e).1 (I.ok.bs b o e).2 (I.ok.nofr e) (I.ok.noex b o e), I.base.free b o (I.ok.bs b o e).1 (I.ok.bs b o e).2 (I.ok.noex b o e)⟩
theorem Inv.bk (I : Inv X pins σ H s) : ∀ b o, X.base.get? b = some o → s.heap.get? b = some o := fun b o e => (I.bs b o e).1
theorem Inv.mod (I : Inv X pins σ H s) : Mod X.K X.mg X.base := I.ok.mod
theorem Inv.kIn (I : Inv X pins σ H s) : X.K.In s.heap := I.ok.mod.kin.keeps I.bk
theorem Inv.lt (I : Inv X pins σ H s) : X.env.locals < s.heap.objs.size := let ⟨_, hn, _⟩ := I.loc; hn.lt
theorem Inv.sz (I : Inv X pins σ H s) : X.s₀.heap.objs.size ≤ s.heap.objs.size := Nat.le_trans I.ok.above (Nat.le_of_lt I.lt)
theorem Inv.nofs (I : Inv X pins σ H s) {a : Addr} (h : s.heap.objs.size ≤ a) : a ∉ X.fs := fun hb => by
  obtain ⟨_, o, ho, _⟩ := I.ok.funs.mem hb
  exact absurd (Nat.lt_of_lt_of_le (Heap.lt_size ho) (Nat.le_trans I.sz h)) (Nat.lt_irrefl _)
theorem Inv.cne (I : Inv X pins σ H s) : ∀ x c, X.env.cells.lookup x = some c → c ≠ X.env.locals := fun x c e z => by
  obtain ⟨v, o, ho, hd⟩ := I.cell x c e
  obtain ⟨m, ⟨o', es, ep, ho', hd', _⟩, _⟩ := I.loc
  rw [z, ho'] at ho; cases ho; rw [hd'] at hd; cases hd
theorem Inv.funs (I : Inv X pins σ H s) : s.heap.FunFrames X.base X.outer := by
  have all : ∀ (l : List Env), (∀ b ∈ frs l, b ∈ X.fs) → X.s₀.heap.FunFrames X.base l → s.heap.FunFrames X.base l := by
    intro l
    induction l with
    | nil => intro _ _; trivial
    | cons env r ih =>
      intro hs hl
      obtain ⟨hk, ⟨L, o, hf, hn, ho, hd⟩, hr⟩ := hl
      have hL : L ∈ X.fs := hs L (by unfold frs; rw [List.filterMap_cons, hf]; exact List.mem_cons_self)
      obtain ⟨sl, e⟩ := I.base.slot L o ho (I.ok.frf L hL) hL fun z => I.ok.exfs L z hL
      exact ⟨hk, ⟨L, _, hf, hn, e, hd⟩, ih (fun b hb => hs b (by unfold frs; rw [List.filterMap_cons, hf]; exact List.mem_cons_of_mem _ hb)) hr⟩
  exact all X.outer (fun _ hb => hb) I.ok.funs

/-- the frames that run, for a call -/
theorem Inv.stack (I : Inv X pins σ H s) : s.heap.FunFrames X.base X.stack := by
  rcases I.ok.stk with e | ⟨e, hf⟩
  · rw [e]; exact I.funs
  · rw [e]
    obtain ⟨m, hn, _⟩ := I.loc
    refine .cons (by rw [I.ok.kind]; decide) hf hn ?_ I.funs
    exact Heap.get?_none_of_le (Nat.le_trans I.ok.bsz I.ok.above)
theorem Inv.stkSub (I : Inv X pins σ H s) : ∀ b ∈ frs X.stack, b ∈ X.env.locals :: X.fs := fun b hb => by
  rcases I.ok.stk with e | ⟨e, hf⟩
  · rw [e] at hb; exact List.mem_cons_of_mem _ hb
  · rw [e] at hb
    unfold frs at hb
    rw [List.filterMap_cons, hf] at hb
    exact hb
theorem Inv.stkFree (I : Inv X pins σ H s) : ∀ b ∈ frs X.stack, H b = none := fun b hb => by
  rcases List.mem_cons.mp (I.stkSub b hb) with e | hb
  · rw [e]; exact I.free
  · obtain ⟨_, o, ho, _⟩ := I.ok.funs.mem hb
    exact I.base.free b o ho (I.ok.frf b hb) fun z => I.ok.exfs b z hb

/-- THE STEP: the untracked objects but the frame and the records at ch are kept (the callers' frames up to slots), the frame's map is kept, the new abstract heap is held -/
theorem Inv.step {g' : Array GenState} {t' : Nat} {d' : Drawn} {ch : List Addr} (I : Inv X pins σ H s)
    (hch : ∀ b ∈ ch, (b ∈ X.ex ∨ X.s₀.heap.objs.size ≤ b) ∧ b ≠ X.env.locals ∧ (∀ x c, X.env.cells.lookup x = some c → c ≠ b) ∧ ∀ p ∈ X.pn ++ pins, p.1 ≠ b)
    (keep : ∀ b o, b ≠ X.env.locals → b ∉ X.fs → b ∉ ch → s.heap.get? b = some o → H b = none → h'.get? b = some o)
    (slot : ∀ b o, b ≠ X.env.locals → b ∈ X.fs → b ∉ ch → s.heap.get? b = some o → H b = none → ∃ sl, h'.get? b = some { o with slots := sl }) (free : ∀ b o, b ∉ ch → s.heap.get? b = some o → H b = none → H' b = none)
    (there : ∀ b o, b ∉ ch → s.heap.get? b = some o → ∃ o', h'.get? b = some o')
    (tups : ∀ b xs, H b = some (.tup xs) → H' b = some (.tup xs)) (frzs : ∀ b o u, H b = some (.frz o u) → H' b = some (.frz o u)) (tbls : ∀ b ps, H b = some (.tbl ps) → ∃ more, H' b = some (.tbl (ps ++ more)))
    (ns : ∀ m, s.heap.Ns X.env.locals m → h'.Ns X.env.locals m) (hok : HOk X.prog X.w H' h') (hg : AllBare g') :
    Inv X pins σ H' { s with heap := h', gens := g', drawn := d', toks := t' } := by
  have neL : ∀ b o, X.s₀.heap.get? b = some o → b ≠ X.env.locals := fun b o e => Nat.ne_of_lt (Nat.lt_of_lt_of_le (Heap.lt_size e) I.ok.above)
  have neC : ∀ b o, X.s₀.heap.get? b = some o → b ∉ X.ex → b ∉ ch := fun b o e hx hb => by
    rcases (hch b hb).1 with z | z
    · exact hx z
    · exact absurd (Nat.lt_of_lt_of_le (Heap.lt_size e) z) (Nat.lt_irrefl _)
  have cellK : ∀ x c, X.env.cells.lookup x = some c → ∀ v, s.heap.IsCell c v → h'.IsCell c v := fun x c e v ⟨o, ho, hd⟩ => by
    have nch : c ∉ ch := fun z => (hch c z).2.2.1 x c e rfl
    by_cases hc : c ∈ X.fs
    · obtain ⟨sl, q⟩ := slot c o (I.cne x c e) hc nch ho (I.freeC x c e)
      exact ⟨_, q, hd⟩
    · exact ⟨o, keep c o (I.cne x c e) hc nch ho (I.freeC x c e), hd⟩
  refine ⟨I.ok, I.os, hg, ⟨fun b o e n hb hx => ?_, fun b o e n hb hx => ?_, fun b o e n hx => ?_, fun b o e hx => ?_, fun b xs e => tups b xs (I.base.tups b xs e), fun b o xs e => frzs b o xs (I.base.frzs b o xs e), fun b ps e => ?_⟩, ?_, fun x c e => ?_, ?_, fun x c e => ?_, fun p hp => ?_, hok, I.len⟩
  · exact keep b o (neL b o e) hb (neC b o e hx) (I.base.keep b o e n hb hx) (I.base.free b o e n hx)
  · obtain ⟨sl, e1⟩ := I.base.slot b o e n hb hx
    obtain ⟨sl', e2⟩ := slot b _ (neL b o e) hb (neC b o e hx) e1 (I.base.free b o e n hx)
    exact ⟨sl', e2⟩
  · obtain ⟨o', e1⟩ := I.base.there b o e hx
    exact free b o' (neC b o e hx) e1 (I.base.free b o e n hx)
  · obtain ⟨o', e1⟩ := I.base.there b o e hx
    exact there b o' (neC b o e hx) e1
  · obtain ⟨m1, e1⟩ := I.base.tbls b ps e
    obtain ⟨m2, e2⟩ := tbls b _ e1
    exact ⟨m1 ++ m2, by rw [e2, Array.append_assoc]⟩
  · obtain ⟨m, hn, hl⟩ := I.loc
    refine ⟨m, ns m hn, fun i x v e1 e2 e3 => ?_⟩
    obtain ⟨u, r, l⟩ := hl i x v e1 e2 e3
    refine ⟨u, r, ?_⟩
    rcases l with l | ⟨k, c, e, z⟩
    · exact .inl l
    · exact .inr ⟨k, c, e, cellK x c e _ z⟩
  · obtain ⟨v, z⟩ := I.cell x c e
    exact ⟨v, cellK x c e v z⟩
  · obtain ⟨m, ⟨o, _, _, ho, _⟩, _⟩ := I.loc
    exact free _ o (fun z => (hch _ z).2.1 rfl) ho I.free
  · obtain ⟨v, o, ho, hd⟩ := I.cell x c e
    exact free c o (fun z => (hch c z).2.2.1 x c e rfl) ho (I.freeC x c e)
  · obtain ⟨e, n, ne, nf, d⟩ := I.pin p hp
    have nch : p.1 ∉ ch := fun z => (hch p.1 z).2.2.2 p hp rfl
    exact ⟨keep p.1 p.2 ne nf nch e n, free p.1 p.2 nch e n, ne, nf, d⟩
/-- .. where the frame's own object is kept too -/
theorem Inv.un {t' : Nat} (I : Inv X pins σ H s) (u : Un X.fs [] H H' s.heap h') (hok : HOk X.prog X.w H' h') : Inv X pins σ H' { s with heap := h', toks := t' } := by
  obtain ⟨m, ⟨o, es, ep, ho, r⟩, _⟩ := id I.loc
  obtain ⟨sl, hL⟩ := u.any ho I.free (by simp)
  exact I.step (g' := s.gens) (d' := s.drawn) (ch := []) (fun _ z => nomatch z) (fun b o _ hb _ e n => u.keep b o e n hb (by simp)) (fun b o _ hb _ e n => u.slot b o e n hb (by simp)) (fun b o _ e n => u.free b o e n (by simp)) (fun b o _ e => u.there b o e (by simp)) u.tups u.frzs u.tbls (fun m' hm => by
    obtain ⟨o', es', ep', ho', r'⟩ := hm
    rw [ho] at ho'; cases ho'
    exact ⟨_, es', ep', hL, r'⟩) hok I.bare
/-- behind a call (or a comprehension's block): the slots of this frame may have changed too, the records at ch may have turned -/
theorem Inv.call {g' : Array GenState} {t' : Nat} {d' : Drawn} {ch : List Addr} (I : Inv X pins σ H s) (u : Un (frs X.stack) ch H H' s.heap h') (hok : HOk X.prog X.w H' h') (hg : AllBare g')
    (hch : ∀ b ∈ ch, (b ∈ X.ex ∨ X.s₀.heap.objs.size ≤ b) ∧ b ≠ X.env.locals ∧ (∀ x c, X.env.cells.lookup x = some c → c ≠ b) ∧ ∀ p ∈ X.pn ++ pins, p.1 ≠ b) :
    Inv X pins σ H' { s with heap := h', gens := g', drawn := d', toks := t' } := by
  obtain ⟨m, ⟨o, es, ep, ho, r⟩, _⟩ := id I.loc
  obtain ⟨sl, hL⟩ := u.any ho I.free fun z => (hch _ z).2.1 rfl
  exact I.step (ch := ch) hch (fun b o hL hb hc e n => u.keep b o e n (fun z => (List.mem_cons.mp (I.stkSub b z)).elim hL hb) hc) (fun b o _ _ hc e n => u.any e n hc) (fun b o hc e n => u.free b o e n hc) (fun b o hc e => u.there b o e hc) u.tups u.frzs u.tbls (fun m' hm => by
    obtain ⟨o', es', ep', ho', r'⟩ := hm
    rw [ho] at ho'; cases ho'
    exact ⟨_, es', ep', hL, r'⟩) hok hg
/-- an untracked record of ours (an iterator) has turned -/
theorem Inv.turned {t' : Nat} {it : Addr} (I : Inv X pins σ H s) (k : ∀ b o, b ≠ it → s.heap.get? b = some o → h'.get? b = some o) (hn : H it = none) (hL : it ≠ X.env.locals)
    (h1 : it ∈ X.ex ∨ X.s₀.heap.objs.size ≤ it) (h2 : ∀ x c, X.env.cells.lookup x = some c → c ≠ it) (h3 : ∀ p ∈ X.pn ++ pins, p.1 ≠ it) : Inv X pins σ H { s with heap := h', toks := t' } := by
  have nit : ∀ b u, H b = some u → b ≠ it := fun b u e z => by rw [z, hn] at e; cases e
  refine I.step (g' := s.gens) (d' := s.drawn) (ch := [it]) (fun b hb => ?_) (fun b o _ _ hc e _ => k b o (fun z => hc (by simp [z])) e) (fun b o _ _ hc e _ => ⟨o.slots, k b o (fun z => hc (by simp [z])) e⟩) (fun _ _ _ _ n => n)
    (fun b o hc e => ⟨o, k b o (fun z => hc (by simp [z])) e⟩) (fun _ _ e => e) (fun _ _ _ e => e) (fun b ps e => ⟨#[], by rw [e]; simp⟩) (fun m hm => ?_) (fun b u e => ?_) I.bare
  · have e : b = it := by simpa using hb
    subst e
    exact ⟨h1, hL, h2, h3⟩
  · obtain ⟨o, es, ep, ho, r⟩ := hm
    exact ⟨o, es, ep, k _ o (Ne.symm hL) ho, r⟩
  · refine (I.hok b u e).stay (fun c v hc q => k c v ?_ q) (fun _ q => q) fun _ _ q => q
    rcases hc with z | z
    · rw [z]; exact nit b u e
    · exact nit c _ z
theorem Inv.tok (I : Inv X pins σ H s) (t : Nat) : Inv X pins σ H { s with toks := t } := I.un (h' := s.heap) (t' := t) Un.refl I.hok
/-- all objects kept -/
theorem Inv.kept {t' : Nat} (I : Inv X pins σ H s) (k : ∀ b u, s.heap.get? b = some u → h'.get? b = some u) : Inv X pins σ H { s with heap := h', toks := t' } := I.un (Un.kept k) (I.hok.kept k)
/-- a new object laid and tracked -/
theorem Inv.laid {a : Addr} {o : HO} {t' : Nat} (I : Inv X pins σ H s) (k : ∀ b u, s.heap.get? b = some u → h'.get? b = some u) (hp : s.heap.objs.size ≤ a) (new : ObjOk X.prog X.w (upd H a o) h' a o) :
    Inv X pins σ (upd H a o) { s with heap := h', toks := t' } := I.un (Un.laid k hp (I.hok.fresh hp)) (I.hok.laid k hp new)
/-- an object written -/
theorem Inv.write {x e : Addr} {o : HO} {t' : Nat} (I : Inv X pins σ H s) (mu : Mut (H x)) (he : e = x ∨ H e = some (.own x)) (k : ∀ b u, b ≠ e → s.heap.get? b = some u → h'.get? b = some u) (heo : ∃ u, h'.get? e = some u)
    (new : ObjOk X.prog X.w (upd H x o) h' x o) : Inv X pins σ (upd H x o) { s with heap := h', toks := t' } := I.un (Un.write mu he k heo) (I.hok.write mu he k heo new)
theorem Inv.pins_of {pins' : List (Addr × Obj)} (I : Inv X pins σ H s) (h : ∀ p ∈ pins', s.heap.get? p.1 = some p.2 ∧ H p.1 = none ∧ p.1 ≠ X.env.locals ∧ p.1 ∉ X.fs ∧ ∀ v, p.2.data ≠ .cell v) : Inv X pins' σ H s :=
  ⟨I.ok, I.os, I.bare, I.base, I.loc, I.cell, I.free, I.freeC, fun p hp => (List.mem_append.mp hp).elim (fun z => I.pin p (List.mem_append_left _ z)) (h p), I.hok, I.len⟩

theorem nodup_ix {N : List Str} (hN : N.Nodup) {i j : Nat} {x : Str} (a : N[i]? = some x) (b : N[j]? = some x) : i = j := by
  obtain ⟨h1, e1⟩ := List.getElem?_eq_some_iff.mp a
  obtain ⟨h2, e2⟩ := List.getElem?_eq_some_iff.mp b
  exact (List.getElem_inj hN).mp (e1.trans e2.symm)

/-- a name is stored; what changed -/
theorem store_ok2 {M : Model} {A : Around} {E : Value → Shared → Prop} {i : Nat} {x : Str} {v : V} {u : Value} {Q : Unit → Shared → Prop} (I : Inv X pins σ H s) (hN : X.N.Nodup) (hi : X.N[i]? = some x) (hx : Loc X.env.scope x) (r : RelV v u)
    (h : ∀ s', Inv X pins (σ.set i (some v)) H s' → (∃ a, Heap.SameBut a s.heap s'.heap ∧ (a = X.env.locals ∨ X.env.cells.lookup x = some a)) → Q () s') (hf : X.fn x = true ∨ X.env.scope.names.lookup x = some .local := by first | exact .inl rfl | exact .inr rfl | assumption) : wpAny M A (storeName X.env x u) Q E s := by
  obtain ⟨m, hn, hl⟩ := id I.loc
  have hcls : (X.env.scope.kind == .class || (X.env.scope.kind == .module && X.env.locals != X.env.globals)) = false := by rw [I.ok.kind]; rfl
  have hiσ : i < σ.length := by rw [I.len]; exact (List.getElem?_eq_some_iff.mp hi).1
  have cne := I.cne
  have tracked : ∀ {a : Addr} {h' : Heap}, (∃ o, s.heap.get? a = some o ∧ H a = none) → Heap.SameBut a s.heap h' → HOk X.prog X.w H h' := fun {a h'} ha hs b ob e => by
    obtain ⟨_, _, hfree⟩ := ha
    refine (I.hok b ob e).stay (fun c w' hc q => (hs.2 c ?_).trans q) (fun _ q => q) fun _ _ q => q
    rintro rfl
    rcases hc with rfl | hc
    · rw [hfree] at e; cases e
    · rw [hfree] at hc; cases hc
  rcases hx with hk | hk
  · refine wpAny_storeName_local hk hn (fun h' hn' hs => ?_) hcls
    obtain ⟨oL, _, _, hoL, _⟩ := id hn
    refine h _ ⟨I.ok, I.os, I.bare, ⟨fun b o e n hb hx => ?_, fun b o e n hb hx => ?_, I.base.free, fun b o e hx => ?_, I.base.tups, I.base.frzs, I.base.tbls⟩, ⟨_, hn', fun j y v' e1 e2 e3 => ?_⟩, fun y c e => ?_, I.free, I.freeC, fun p hp => ?_, tracked ⟨oL, hoL, I.free⟩ hs, by simpa using I.len⟩ ⟨_, hs, .inl rfl⟩
    · exact (hs.2 b (Nat.ne_of_lt (Nat.lt_of_lt_of_le (Heap.lt_size e) I.ok.above))).trans (I.base.keep b o e n hb hx)
    · obtain ⟨sl, e1⟩ := I.base.slot b o e n hb hx
      exact ⟨sl, (hs.2 b (Nat.ne_of_lt (Nat.lt_of_lt_of_le (Heap.lt_size e) I.ok.above))).trans e1⟩
    · obtain ⟨o', e1⟩ := I.base.there b o e hx
      exact ⟨o', (hs.2 b (Nat.ne_of_lt (Nat.lt_of_lt_of_le (Heap.lt_size e) I.ok.above))).trans e1⟩
    · by_cases hj : j = i
      · subst hj
        rw [hi] at e1; cases e1
        rw [List.getElem?_set_self hiσ] at e2
        cases e2
        exact ⟨u, r, .inl ⟨hk, by simp⟩⟩
      · rw [List.getElem?_set_ne (Ne.symm hj)] at e2
        obtain ⟨u', r', q⟩ := hl j y v' e1 e2 e3
        refine ⟨u', r', ?_⟩
        rcases q with ⟨k, e⟩ | ⟨k, c, e, z⟩
        · refine .inl ⟨k, ?_⟩
          have : y ≠ x := fun e => hj (nodup_ix hN e1 (e ▸ hi))
          simp [this, e]
        · exact .inr ⟨k, c, e, z.sameBut hs (cne y c e)⟩
    · obtain ⟨w', z⟩ := I.cell y c e
      exact ⟨w', z.sameBut hs (cne y c e)⟩
    · obtain ⟨e, n, ne, nf, d⟩ := I.pin p hp
      exact ⟨(hs.2 p.1 ne).trans e, n, ne, nf, d⟩
  · have hfn : X.fn x = true := by
      rcases hf with z | z
      · exact z
      · rw [z] at hk; cases hk
    obtain ⟨c, hc⟩ := I.ok.has x (.inl hk)
    obtain ⟨w', z⟩ := I.cell x c hc
    refine wpAny_storeName_cell I.ok.kind hk hc z (fun h' hc' hs => ?_)
    obtain ⟨oc, hoc, hocd⟩ := id z
    refine h { s with heap := h' } ⟨I.ok, I.os, I.bare, ⟨fun b o e n hb hx => ?_, fun b o e n hb hx => ?_, I.base.free, fun b o e hx => ?_, I.base.tups, I.base.frzs, I.base.tbls⟩, ⟨m, hn.sameBut hs (Ne.symm (cne x c hc)), fun j y v' e1 e2 e3 => ?_⟩, fun y c' e => ?_, I.free, I.freeC, fun p hp => ?_, tracked ⟨oc, hoc, I.freeC x c hc⟩ hs, by simpa using I.len⟩ ⟨c, hs, .inr hc⟩
    · exact (hs.2 b (Nat.ne_of_lt (Nat.lt_of_lt_of_le (Heap.lt_size e) (I.ok.cab x c hfn hc)))).trans (I.base.keep b o e n hb hx)
    · obtain ⟨sl, e1⟩ := I.base.slot b o e n hb hx
      exact ⟨sl, (hs.2 b (Nat.ne_of_lt (Nat.lt_of_lt_of_le (Heap.lt_size e) (I.ok.cab x c hfn hc)))).trans e1⟩
    · obtain ⟨o', e1⟩ := I.base.there b o e hx
      exact ⟨o', (hs.2 b (Nat.ne_of_lt (Nat.lt_of_lt_of_le (Heap.lt_size e) (I.ok.cab x c hfn hc)))).trans e1⟩
    · by_cases hj : j = i
      · subst hj
        rw [hi] at e1; cases e1
        rw [List.getElem?_set_self hiσ] at e2
        cases e2
        exact ⟨u, r, .inr ⟨.inl hk, c, hc, hc'⟩⟩
      · rw [List.getElem?_set_ne (Ne.symm hj)] at e2
        obtain ⟨u', r', q⟩ := hl j y v' e1 e2 e3
        refine ⟨u', r', ?_⟩
        rcases q with q | ⟨k, c', e, z'⟩
        · exact .inl q
        · refine .inr ⟨k, c', e, z'.sameBut hs ?_⟩
          rintro rfl
          exact hj (nodup_ix hN e1 (I.ok.inj _ _ _ e hc ▸ hi))
    · by_cases hcc : c' = c
      · subst hcc; exact ⟨_, hc'⟩
      · obtain ⟨w2, z2⟩ := I.cell y c' e
        exact ⟨w2, z2.sameBut hs hcc⟩
    · obtain ⟨e, n, ne, nf, d⟩ := I.pin p hp
      refine ⟨(hs.2 p.1 ?_).trans e, n, ne, nf, d⟩
      intro q
      rw [q, hoc] at e
      have q' : oc = p.2 := Option.some.inj e
      exact d w' (by rw [← q']; exact hocd)
theorem store_ok {M : Model} {A : Around} {E : Value → Shared → Prop} {i : Nat} {x : Str} {v : V} {u : Value} {Q : Unit → Shared → Prop} (I : Inv X pins σ H s) (hN : X.N.Nodup) (hi : X.N[i]? = some x) (hx : Loc X.env.scope x) (r : RelV v u)
    (h : ∀ s', Inv X pins (σ.set i (some v)) H s' → Q () s') (hf : X.fn x = true ∨ X.env.scope.names.lookup x = some .local := by first | exact .inl rfl | exact .inr rfl | assumption) : wpAny M A (storeName X.env x u) Q E s :=
  store_ok2 I hN hi hx r (fun s' I' _ => h s' I') hf
/-- behind a call or a block, the state as it is -/
theorem Inv.call' {s' : Shared} {ch : List Addr} (I : Inv X pins σ H s) (ho : s'.os = s.os) (u : Un (frs X.stack) ch H H' s.heap s'.heap) (hok : HOk X.prog X.w H' s'.heap) (hg : AllBare s'.gens)
    (hch : ∀ b ∈ ch, (b ∈ X.ex ∨ X.s₀.heap.objs.size ≤ b) ∧ b ≠ X.env.locals ∧ (∀ x c, X.env.cells.lookup x = some c → c ≠ b) ∧ ∀ p ∈ X.pn ++ pins, p.1 ≠ b) : Inv X pins σ H' s' := by
  obtain ⟨h', g', d', t', o'⟩ := s'
  have e : o' = s.os := ho
  subst e
  exact I.call (g' := g') (t' := t') (d' := d') u hok hg hch
end

/-! ### the judgements -/
/-- an exception: its class, its own dict's address (where it has one), the abstract heap behind it -/
noncomputable abbrev XK := Value → Option Addr → Hp → Prop
noncomputable abbrev St := List (Option V)
noncomputable abbrev VK := V → Hp → Prop
/-- an expression's reading; a test's; an argument list's -/
noncomputable abbrev TE := St → Hp → VK → Prop
noncomputable abbrev TT := St → Hp → (Bool → Hp → Prop) → Prop
noncomputable abbrev TA := St → Hp → (List V → Hp → Prop) → Prop
/-- what is wanted behind a statement -/
structure Ends where
  nx : St → Hp → Prop
  rt : VK
  bk : St → Hp → Prop := fun _ _ => False
  ct : St → Hp → Prop := fun _ _ => False
noncomputable abbrev TS := Ends → St → Hp → Prop

noncomputable def EP (X : Cx) (pins : List (Addr × Obj)) (σ : St) (Q : VK) (u : Value) (s' : Shared) : Prop := ∃ v H', Inv X pins σ H' s' ∧ RelV v u ∧ Q v H'
noncomputable def TP (X : Cx) (pins : List (Addr × Obj)) (σ : St) (Q : Bool → Hp → Prop) (b : Bool) (s' : Shared) : Prop := ∃ H', Inv X pins σ H' s' ∧ Q b H'
noncomputable def AP (X : Cx) (pins : List (Addr × Obj)) (σ : St) (Q : List V → Hp → Prop) (us : List Value) (s' : Shared) : Prop := ∃ vs H', Inv X pins σ H' s' ∧ Vals vs us ∧ Q vs H'
noncomputable def SP (X : Cx) (pins : List (Addr × Obj)) (D : Ends) (f : Flow) (s' : Shared) : Prop :=
  match f with
  | .next => ∃ σ' H', Inv X pins σ' H' s' ∧ D.nx σ' H'
  | .brk => ∃ σ' H', Inv X pins σ' H' s' ∧ D.bk σ' H'
  | .cont => ∃ σ' H', Inv X pins σ' H' s' ∧ D.ct σ' H'
  | .ret u => ∃ v σ' H', Inv X pins σ' H' s' ∧ RelV v u ∧ D.rt v H'

noncomputable def PE (X : Cx) (e : Expr) (t : TE) : Prop :=
  ∀ (pins : List (Addr × Obj)) (s : Shared) (σ : St) (H : Hp) (Q : VK), Inv X pins σ H s → t σ H Q → wpAny (model X.prog X.w) X.A (eval e X.env) (EP X pins σ Q) X.xe s
noncomputable def PT (X : Cx) (e : Expr) (t : TT) : Prop :=
  ∀ (pins : List (Addr × Obj)) (s : Shared) (σ : St) (H : Hp) (Q : Bool → Hp → Prop), Inv X pins σ H s → t σ H Q → wpAny (model X.prog X.w) X.A (isTrue e X.env (eval e X.env)) (TP X pins σ Q) X.xe s
/-- a test whatever its 'whole' is (and, or) -/
noncomputable def PW (X : Cx) (e : Expr) (t : TT) : Prop :=
  ∀ (whole : Sem Value) (pins : List (Addr × Obj)) (s : Shared) (σ : St) (H : Hp) (Q : Bool → Hp → Prop), Inv X pins σ H s → t σ H Q → wpAny (model X.prog X.w) X.A (isTrue e X.env whole) (TP X pins σ Q) X.xe s
theorem PW.pt {X : Cx} {e : Expr} {t : TT} (h : PW X e t) : PT X e t := h _
/-- an argument list (no star), from the left -/
noncomputable def PA (X : Cx) (es : List Expr) (t : TA) : Prop :=
  ∀ (pos : Pos) (pins : List (Addr × Obj)) (s : Shared) (σ : St) (H : Hp) (Q : List V → Hp → Prop), Inv X pins σ H s → t σ H Q → wpAny (model X.prog X.w) X.A (spliced (backTo pos (starEach es X.env))) (AP X pins σ Q) X.xe s
noncomputable def PS (X : Cx) (st : Stmt) (t : TS) : Prop :=
  ∀ (pins : List (Addr × Obj)) (s : Shared) (σ : St) (H : Hp) (D : Ends), Inv X pins σ H s → t D σ H → wpAny (model X.prog X.w) X.A (exec st X.env) (SP X pins D) X.xe s
noncomputable def PSs (X : Cx) (st : List Stmt) (t : TS) : Prop :=
  ∀ (pins : List (Addr × Obj)) (s : Shared) (σ : St) (H : Hp) (D : Ends), Inv X pins σ H s → t D σ H → wpAny (model X.prog X.w) X.A (execs st X.env) (SP X pins D) X.xe s
/-- weaken the end -/
theorem thn {α : Type} {t : Sem α} {Q Q' : α → Shared → Prop} {M : Model} {A : Around} {E : Value → Shared → Prop} {s : Shared} (h : wpAny M A t Q E s) (hQ : ∀ a s, Q a s → Q' a s) : wpAny M A t Q' E s := wpAny_mono h hQ fun _ _ x => x
end L2

namespace L2
open PySem PySem.Spec PyProof.Rows
section
variable {X : Cx}


/-! ### names and constants -/
noncomputable def tVar (i : Nat) : TE := fun σ H Q => ∃ v, σ[i]? = some (some v) ∧ Q v H
noncomputable def tC (v : V) : TE := fun _ H Q => Q v H
theorem pe_var {i : Nat} {x : Str} {pos : Pos} (hN : X.N[i]? = some x) (hv : Vis X.env.scope x) (hd : (x == ("__debug__" : Str)) = false := by decide) (hcd : (x == ("__classdict__" : Str)) = false := by decide) : PE X (.Name x pos) (tVar i) := by
  intro pins s σ H Q I h
  obtain ⟨v, e, h⟩ := h
  obtain ⟨m, hn, hl⟩ := I.loc
  obtain ⟨u, r, l⟩ := hl i x v hN e hv
  have fin : EP X pins σ Q u s := ⟨v, H, I, r, h⟩
  rcases l with ⟨hk, hm⟩ | ⟨hk, c, hc, hcell⟩
  · exact wpAny_Name (wpAny_loadName_local I.ok.kind hk hn hm fin) hd
  · rcases hk with hk | hk
    · exact wpAny_Name (wpAny_loadName_cell I.ok.kind hk hc hcell fin) hd
    · exact wpAny_Name (wpAny_loadName_free I.ok.kind hk hc hcell fin hcd) hd
theorem pe_int {i j pos} : PE X (.Constant (.int i) j pos) (tC (.int i)) := fun _ _ _ H _ I h => wpAny_Constant_int ⟨.int i, H, I.tok _, ⟨_, rfl⟩, h⟩
theorem pe_bl {b j pos} : PE X (.Constant (.bool b) j pos) (tC (.bl b)) := fun _ _ _ H _ I h => Constant_bool ⟨.bl b, H, I, rfl, h⟩

/-- a global name of the def -/
noncomputable def Gl (X : Cx) (x : Str) : Prop := X.env.kindOf x = some .globalImplicit
theorem ld_glob {E : Value → Shared → Prop} {pins : List (Addr × Obj)} {s : Shared} {σ : St} {H : Hp} {x : Str} {u : Value} {pos : Pos} {Q : Value → Shared → Prop} (I : Inv X pins σ H s) (hg : Gl X x) (hm : X.mg x = some u) (h : Q u s)
    (hd : (x == ("__debug__" : Str)) = false := by decide) : wpAny (model X.prog X.w) X.A (eval (.Name x pos) X.env) Q E s :=
  Calls.Name_function_global I.ok.kind hg (Calls.loadGlobal_global (by rw [I.ok.glob]; exact I.mod.glob.keeps I.bk) hm h) hd
theorem ld_blt {E : Value → Shared → Prop} {pins : List (Addr × Obj)} {s : Shared} {σ : St} {H : Hp} {x : Str} {u : Value} {pos : Pos} {Q : Value → Shared → Prop} (I : Inv X pins σ H s) (hg : Gl X x) (hm : X.mg x = none) (hv : bootBuiltins x = some u) (h : Q u s)
    (hn : x ≠ "__name__" := by decide) (hd : (x == ("__debug__" : Str)) = false := by decide) : wpAny (model X.prog X.w) X.A (eval (.Name x pos) X.env) Q E s := by
  obtain ⟨mb, h1, h2⟩ := I.mod.blt
  exact Calls.Name_function_global I.ok.kind hg (Calls.loadGlobal_builtin (by rw [I.ok.glob]; exact I.mod.glob.keeps I.bk) hm (by rw [I.ok.blt]; exact h1.keeps I.bk) ((h2 x hn).trans hv) h) hd
theorem pe_bltn {x : Str} {v : V} {u : Value} {pos : Pos} (hg : Gl X x) (hm : X.mg x = none) (hv : bootBuiltins x = some u) (r : RelV v u) (hn : x ≠ "__name__" := by decide) (hd : (x == ("__debug__" : Str)) = false := by decide) : PE X (.Name x pos) (tC v) :=
  fun _ _ _ H _ I h => ld_blt I hg hm hv ⟨v, H, I, r, h⟩ hn hd

/-! ### arithmetic -/
variable {a b : Expr} {ta tb : TE} {pos : Pos}

/-! ### comparisons -/
/-- a comparison as a value, as a test -/
noncomputable def tB (t : TE) : TT := fun σ H Q => t σ H fun x H1 => ∃ c, x = .bl c ∧ Q c H1
/-- an expression whose value is a bool, as a test -/
theorem pt_val {e : Expr} {t : TE} (h : PE X e t) (he : ∀ whole, isTrue e X.env whole = (do let v ← whole; standAt e.pos; holding [v] (truthy v)) := by intro _; rfl) : PT X e (tB t) := by
  intro pins s σ H Q I hw
  refine isTrue_plain (thn (h pins s σ H _ I hw) fun v s1 zz => ?_) (he _)
  obtain ⟨x, H1, I1, r1, q1⟩ := zz
  obtain ⟨d, rfl, q⟩ := q1
  cases r1
  exact wpAny_truthy_bool ⟨H1, I1, q⟩

/-! ### and, or, not -/
variable {tA tB' : TT} {rest : List Expr}
noncomputable def tOr (t u : TT) : TT := fun σ H Q => t σ H fun c H1 => if c = true then Q true H1 else u σ H1 Q
noncomputable def tNot (t : TT) : TT := fun σ H Q => t σ H fun c H1 => Q (!c) H1
theorem pw_or1 (ha : PT X a tA) : PW X (.BoolOp .Or [a] pos) tA := by
  intro wh pins s σ H Q I h
  refine isTrue_or (thn (ha pins s σ H Q I h) fun c s1 e => ?_)
  cases c with
  | false => exact isTrue_or_nil e
  | true => exact e
theorem pw_or (ha : PT X a tA) (hb : PW X (.BoolOp .Or (b :: rest) pos) tB') : PW X (.BoolOp .Or (a :: b :: rest) pos) (tOr tA tB') := by
  intro wh pins s σ H Q I h
  refine isTrue_or (thn (ha pins s σ H _ I h) fun c s1 zz => ?_)
  obtain ⟨H1, I1, q1⟩ := zz
  cases c with
  | true => exact ⟨H1, I1, q1⟩
  | false => exact hb wh pins s1 σ H1 Q I1 q1
theorem pt_not (ha : PT X a tA) : PT X (.UnaryOp .Not a pos) (tNot tA) := by
  intro pins s σ H Q I h
  exact isTrue_not (ha pins s σ H (fun c H1 => Q (!c) H1) I h)
/-- .. as values (bools) -/
noncomputable def tAndV (ta tb : TE) : TE := fun σ H Q => ta σ H fun x H1 => ∃ c, x = .bl c ∧ if c = true then tb σ H1 Q else Q (.bl false) H1
noncomputable def tNotV (ta : TE) : TE := fun σ H Q => ta σ H fun x H1 => ∃ c, x = .bl c ∧ Q (.bl (!c)) H1
theorem pe_one {op} {t : TE} (h : PE X a t) : PE X (.BoolOp op [a] pos) t := fun pins s σ H Q I hw => BoolOp_one (h pins s σ H Q I hw)
theorem pe_and (ha : PE X a ta) (hb : PE X (.BoolOp .And (b :: rest) pos) tb) : PE X (.BoolOp .And (a :: b :: rest) pos) (tAndV ta tb) := by
  intro pins s σ H Q I h
  refine BoolOp_and (thn (ha pins s σ H _ I h) fun v s1 zz => ?_)
  obtain ⟨x, H1, I1, r1, q1⟩ := zz
  obtain ⟨c, rfl, q1⟩ := q1
  cases r1
  refine wpAny_truthy_bool ?_
  cases c with
  | true => exact hb pins s1 σ H1 Q I1 q1
  | false => exact ⟨.bl false, H1, I1, rfl, q1⟩
theorem pe_not (ha : PE X a ta) : PE X (.UnaryOp .Not a pos) (tNotV ta) := by
  intro pins s σ H Q I h
  refine UnaryOp_ (thn (ha pins s σ H _ I h) fun v s1 zz => ?_)
  obtain ⟨x, H1, I1, r1, q1⟩ := zz
  obtain ⟨c, rfl, q1⟩ := q1
  cases r1
  exact not_of (wpAny_truthy_bool ⟨.bl (!c), H1, I1, rfl, q1⟩)
/-- a if t else b -/
noncomputable def tIf (t : TT) (ta tb : TE) : TE := fun σ H Q => t σ H fun c H1 => if c = true then ta σ H1 Q else tb σ H1 Q
theorem pe_ifExp {c : Expr} (hc : PT X c tA) (ha : PE X a ta) (hb : PE X b tb) : PE X (.IfExp c a b pos) (tIf tA ta tb) := by
  intro pins s σ H Q I h
  refine wpAny_IfExp (thn (hc pins s σ H _ I h) fun d s1 zz => ?_)
  obtain ⟨H1, I1, q1⟩ := zz
  cases d with
  | true => exact ha pins s1 σ H1 Q I1 q1
  | false => exact hb pins s1 σ H1 Q I1 q1
end
end L2

namespace L2
open PySem PySem.Spec PyProof.Rows

/-! ### a list, a tuple that is read: tracked, frozen, or an object of the module -/
noncomputable def SqL (K : PySem.W.Frag) (H : Hp) (a : Addr) (xs : List V) : Prop :=
  Rd H a (.lst xs) ∨
    ∃ (o : Obj) (its : Array Value) (n : Nat), K.lookup a = some o ∧ o.cls = .type "list" ∧ o.dict = none ∧ o.data = .seq its n ∧ its.size ≤ sizeLine ∧ Vals xs its.toList
noncomputable def SqT (K : PySem.W.Frag) (H : Hp) (a : Addr) (xs : List V) : Prop :=
  Rd H a (.tup xs) ∨
    ∃ (o : Obj) (its : Array Value) (n : Nat), K.lookup a = some o ∧ o.cls = .type "tuple" ∧ o.data = .seq its n ∧ its.size ≤ sizeLine ∧ Vals xs its.toList
noncomputable def absV : Value → Option V
  | .none => some .non
  | .bool b => some (.bl b)
  | .int i _ => some (.int i)
  | .str x _ => some (.str x)
  | .bytes b _ => some (.byt b)
  | .float b _ => some (.flt b)
  | .ref a => some (.ref a)
  | .type n => some (.ty n)
  | _ => none
theorem RelV.abs {x : V} {u : Value} (r : RelV x u) : absV u = some x := by
  cases x with
  | non => cases r; rfl
  | bl _ => cases r; rfl
  | int _ => obtain ⟨t, rfl⟩ := r; rfl
  | str _ => obtain ⟨t, rfl⟩ := r; rfl
  | byt _ => obtain ⟨t, rfl⟩ := r; rfl
  | flt _ => obtain ⟨t, rfl⟩ := r; rfl
  | ref _ => cases r; rfl
  | ty _ => cases r; rfl
theorem RelV.inj {x y : V} {u : Value} (r : RelV x u) (q : RelV y u) : x = y := Option.some.inj (r.abs.symm.trans q.abs)
theorem Vals.inj : ∀ {xs ys : List V} {us : List Value}, Vals xs us → Vals ys us → xs = ys
  | _, _, _, .nil, .nil => rfl
  | _, _, _, .cons r t, .cons r' t' => by rw [r.inj r', Vals.inj t t']
section
variable {X : Cx} {pins : List (Addr × Obj)} {σ : St} {H : Hp} {s : Shared} {a : Addr} {xs ys : List V}
theorem SqL.of {K : PySem.W.Frag} (h : H a = some (.lst xs)) : SqL K H a xs := .inl (.inl h)
theorem SqT.of {K : PySem.W.Frag} (h : H a = some (.tup xs)) : SqT K H a xs := .inl (.inl h)
theorem Inv.list (I : Inv X pins σ H s) (h : SqL X.K H a xs) : ∃ its : List Value, Vals xs its ∧ PlainL s.heap a its.toArray ∧ xs.length ≤ sizeLine := by
  rcases h with h | ⟨o, its, n, hk, hc, hd, hs, hz, r⟩
  · obtain ⟨z, its, n, r, e⟩ := h.ok I.hok
    exact ⟨its, r, ⟨_, n, e, rfl, rfl, rfl⟩, z⟩
  · refine ⟨its.toList, r, ⟨o, n, I.kIn a o hk, hc, hd, by simpa using hs⟩, ?_⟩
    have e := r.length
    simp only [Array.length_toList] at e
    omega
theorem Inv.tuple (I : Inv X pins σ H s) (h : SqT X.K H a xs) : ∃ its : List Value, Vals xs its ∧ IsTup s.heap a its.toArray ∧ xs.length ≤ sizeLine := by
  rcases h with h | ⟨o, its, n, hk, hc, hs, hz, r⟩
  · obtain ⟨z, its, r, p⟩ := h.ok I.hok
    exact ⟨its, r, p, z⟩
  · refine ⟨its.toList, r, ⟨o, I.kIn a o hk, hc, n, by simpa using hs⟩, ?_⟩
    have e := r.length
    simp only [Array.length_toList] at e
    omega
theorem Inv.list_inj (I : Inv X pins σ H s) (h : SqL X.K H a xs) (h' : SqL X.K H a ys) : xs = ys := by
  obtain ⟨its, r, ⟨o, n, e, _, _, d⟩, _⟩ := I.list h
  obtain ⟨its', r', ⟨o', n', e', _, _, d'⟩, _⟩ := I.list h'
  rw [e] at e'; cases e'
  rw [d] at d'
  injection d' with d1 _
  have : its = its' := by simpa using congrArg Array.toList d1
  subst this
  exact r.inj r'
end

/-! ### another wish about exceptions -/
noncomputable abbrev Cx.wish (X : Cx) (E : Value → Shared → Prop) : Cx := { X with xe := E }
/-- no exception leaves -/
noncomputable abbrev Cx.nox (X : Cx) : Cx := X.wish fun _ _ => False
theorem Cx.Ok.wish {X : Cx} (ok : X.Ok) (E : Value → Shared → Prop) : (X.wish E).Ok :=
  ⟨ok.mod, ok.kind, ok.glob, ok.blt, ok.above, ok.inj, ok.has, ok.cab, ok.hd, ok.frames, ok.stk, ok.exf, ok.bs, ok.bsz, ok.noex, ok.exfs, ok.funs, ok.frf⟩
theorem Cx.Ok.unwish {X : Cx} {E : Value → Shared → Prop} (ok : (X.wish E).Ok) : X.Ok :=
  ⟨ok.mod, ok.kind, ok.glob, ok.blt, ok.above, ok.inj, ok.has, ok.cab, ok.hd, ok.frames, ok.stk, ok.exf, ok.bs, ok.bsz, ok.noex, ok.exfs, ok.funs, ok.frf⟩
section
variable {X : Cx} {pins : List (Addr × Obj)} {σ : St} {H : Hp} {s : Shared} {E : Value → Shared → Prop}
theorem Inv.wish (I : Inv X pins σ H s) (E : Value → Shared → Prop) : Inv (X.wish E) pins σ H s := ⟨I.ok.wish E, I.os, I.bare, I.base, I.loc, I.cell, I.free, I.freeC, I.pin, I.hok, I.len⟩
theorem Inv.unwish (I : Inv (X.wish E) pins σ H s) : Inv X pins σ H s := ⟨I.ok.unwish, I.os, I.bare, I.base, I.loc, I.cell, I.free, I.freeC, I.pin, I.hok, I.len⟩
theorem SP.unwish {D : Ends} {f : Flow} {s' : Shared} (h : SP (X.wish E) pins D f s') : SP X pins D f s' := by
  cases f with
  | next => obtain ⟨σ', H', I, q⟩ := h; exact ⟨σ', H', I.unwish, q⟩
  | brk => obtain ⟨σ', H', I, q⟩ := h; exact ⟨σ', H', I.unwish, q⟩
  | cont => obtain ⟨σ', H', I, q⟩ := h; exact ⟨σ', H', I.unwish, q⟩
  | ret u => obtain ⟨v, σ', H', I, r, q⟩ := h; exact ⟨v, σ', H', I.unwish, r, q⟩
theorem PSs.nox {st : List Stmt} {t : TS} (h : PSs X.nox st t) : PSs X st t := fun pins s σ H D I hw =>
  wpAny_mono (h pins s σ H D (I.wish _) hw) (fun _ _ q => q.unwish) fun _ _ z => False.elim z
end

/-! ### blocks and small statements -/
section
variable {X : Cx} {st : Stmt} {rest : List Stmt} {t u : TS} {e : Expr} {te : TE} {pos : Pos}
noncomputable def tNext : TS := fun D σ H => D.nx σ H
noncomputable def tSeq (t u : TS) : TS := fun D σ H => t { D with nx := u D } σ H
theorem pss_nil : PSs X [] tNext := fun _ _ σ H _ I h => wpAny_execs_nil ⟨σ, H, I, h⟩
theorem pss_cons (h1 : PS X st t) (h2 : PSs X rest u) : PSs X (st :: rest) (tSeq t u) := by
  intro pins s σ H D I h
  refine wpAny_execs_cons (thn (h1 pins s σ H { D with nx := u D } I h) fun f s1 q => ?_)
  cases f with
  | next =>
    obtain ⟨σ', H', I', q⟩ := q
    exact h2 pins s1 σ' H' D I' q
  | ret v => exact q
  | brk => exact q
  | cont => exact q
theorem pss_one (h1 : PS X st t) : PSs X [st] t := by
  intro pins s σ H D I h
  refine wpAny_execs_cons (thn (h1 pins s σ H D I h) fun f s1 q => ?_)
  cases f with
  | next => exact wpAny_execs_nil q
  | ret v => exact q
  | brk => exact q
  | cont => exact q
/-- in a def's body nothing is shown -/
theorem Inv.quiet {pins : List (Addr × Obj)} {σ : St} {H : Hp} {s : Shared} (I : Inv X pins σ H s) : interactive X.env = false := by simp [interactive, I.ok.kind]
/-- an expression whose value is dropped -/
noncomputable def tDrop (te : TE) : TS := fun D σ H => te σ H fun _ H1 => D.nx σ H1
theorem ps_expr (he : PE X e te) (hs : swapsWith e none pos.line X.env = pure false := by rfl) : PS X (.Expr e pos) (tDrop te) := by
  intro pins s σ H D I h
  exact wpAny_Expr_any (thn (he pins s σ H _ I h) fun v s1 ⟨x, H1, I1, r1, q1⟩ => ⟨σ, H1, I1, q1⟩) I.quiet hs
noncomputable def tRet (te : TE) : TS := fun D σ H => te σ H D.rt
theorem ps_ret (he : PE X e te) : PS X (.Return (some e) pos) (tRet te) := by
  intro pins s σ H D I h
  exact wpAny_Return_some (thn (he pins s σ H _ I h) fun v s1 ⟨x, H1, I1, r1, q1⟩ => ⟨x, σ, H1, I1, r1, q1⟩)
noncomputable def tIfS (c : TT) (t u : TS) : TS := fun D σ H => c σ H fun b H1 => if b = true then t D σ H1 else u D σ H1
theorem ps_if {c : Expr} {a b : List Stmt} {tc : TT} (hc : PT X c tc) (ha : PSs X a t) (hb : PSs X b u) : PS X (.If c a b pos) (tIfS tc t u) := by
  intro pins s σ H D I h
  refine wpAny_If (thn (hc pins s σ H _ I h) fun d s1 zz => ?_)
  obtain ⟨H1, I1, q1⟩ := zz
  cases d with
  | true => exact ha pins s1 σ H1 D I1 q1
  | false => exact hb pins s1 σ H1 D I1 q1
end

/-! ### targets -/
noncomputable abbrev TG := V → St → Hp → (St → Hp → Prop) → Prop
noncomputable abbrev TGs := List V → St → Hp → (St → Hp → Prop) → Prop
noncomputable def PG (X : Cx) (target : Expr) (t : TG) : Prop :=
  ∀ (pins : List (Addr × Obj)) (s : Shared) (σ : St) (H : Hp) (v : V) (u : Value) (Q : St → Hp → Prop), Inv X pins σ H s → RelV v u → t v σ H Q →
    wpAny (model X.prog X.w) X.A (assign target X.env u) (fun _ s' => ∃ σ' H', Inv X pins σ' H' s' ∧ Q σ' H') X.xe s
/-- several targets, one after another -/
noncomputable def PGs (X : Cx) (ts : List Expr) (t : TGs) : Prop :=
  ∀ (pins : List (Addr × Obj)) (s : Shared) (σ : St) (H : Hp) (vs : List V) (us : List Value) (Q : St → Hp → Prop), Inv X pins σ H s → Vals vs us → t vs σ H Q →
    wpAny (model X.prog X.w) X.A (assignInOrder ((assignEach ts X.env).map (·.2)) us) (fun _ s' => ∃ σ' H', Inv X pins σ' H' s' ∧ Q σ' H') X.xe s
section
variable {X : Cx} {pos : Pos}
noncomputable def gName (i : Nat) : TG := fun v σ H Q => Q (σ.set i (some v)) H
theorem pg_name {i : Nat} {x : Str} (hN : X.N.Nodup) (hi : X.N[i]? = some x) (hx : Loc X.env.scope x) (hf : X.fn x = true ∨ X.env.scope.names.lookup x = some .local := by first | exact .inl rfl | exact .inr rfl | assumption) : PG X (.Name x pos) (gName i) := by
  intro pins s σ H v u Q I r h
  exact wpAny_assign_Name (store_ok I hN hi hx r (fun s' I' => ⟨_, H, I', h⟩) hf)
noncomputable def gNil : TGs := fun vs σ H Q => vs = [] ∧ Q σ H
noncomputable def gCons (t : TG) (u : TGs) : TGs := fun vs σ H Q => ∃ v r, vs = v :: r ∧ t v σ H fun σ' H' => u r σ' H' Q
theorem pgs_nil : PGs X [] gNil := by
  intro pins s σ H vs us Q I r h
  obtain ⟨e, h⟩ := h
  subst e
  cases r
  exact assignInOrder_nil ⟨σ, H, I, h⟩
theorem pgs_cons {e : Expr} {es : List Expr} {t : TG} {u : TGs} (h1 : PG X e t) (h2 : PGs X es u)
    (hs : (assignEach (e :: es) X.env).map (·.2) = assign e X.env :: (assignEach es X.env).map (·.2) := by rfl) : PGs X (e :: es) (gCons t u) := by
  intro pins s σ H vs us Q I r h
  obtain ⟨v, vr, e1, h⟩ := h
  subst e1
  cases r with
  | cons r rr =>
    rw [hs]
    refine assignInOrder_cons (thn (h1 pins s σ H _ _ _ I r h) fun _ s1 zz => ?_)
    obtain ⟨σ1, H1, I1, q1⟩ := zz
    exact h2 pins s1 σ1 H1 _ _ Q I1 rr q1
/-- (a, b, ..) = a tuple of that length -/
noncomputable def gTup (K : PySem.W.Frag) (n : Nat) (t : TGs) : TG := fun v σ H Q => ∃ a xs, v = .ref a ∧ SqT K H a xs ∧ xs.length = n ∧ t xs σ H Q
theorem pg_tup {es : List Expr} {k : Nat} {t : TGs} {n : Nat} (hc : X.calm = true) (h : PGs X es t)
    (hn : (assignEach es X.env).length = n := by rfl) (hst : (assignEach es X.env).findIdx? (·.1) = none := by rfl) : PG X (.Tuple es k pos) (gTup X.K n t) := by
  intro pins s σ H v u Q I r hw
  obtain ⟨a, xs, e1, hq, hl, hw⟩ := hw
  subst e1
  cases r
  obtain ⟨its, rv, ht, hz⟩ := I.tuple hq
  refine assign_Tuple_tuple (I.ok.hd hc) ht (by simp [hn, ← hl, rv.length]) hst fun h' hx => ?_
  have I1 : Inv X pins σ H { s with heap := h' } := I.kept (t' := s.toks) fun b o e => hx b o (Nat.ne_of_lt (Heap.lt_size e)) e
  exact h pins _ σ H xs _ Q I1 (by simpa using rv) hw
/-- target = value -/
noncomputable def tAsg (te : TE) (g : TG) : TS := fun D σ H => te σ H fun x H1 => g x σ H1 D.nx
/-- name = value -/
theorem ps_set {i : Nat} {x : Str} {e : Expr} {te : TE} {pos' : Pos} (hN : X.N.Nodup) (hi : X.N[i]? = some x) (hx : Loc X.env.scope x) (he : PE X e te) (hs : swapsWith e (some (.Name x pos')) pos.line X.env = pure false := by rfl) (hf : X.fn x = true ∨ X.env.scope.names.lookup x = some .local := by first | exact .inl rfl | exact .inr rfl | assumption) :
    PS X (.Assign [.Name x pos'] e pos) (tAsg te (gName i)) := by
  intro pins s σ H D I h
  refine wpAny_Assign_Name (thn (he pins s σ H _ I h) fun v s1 zz => ?_) hs
  obtain ⟨y, H1, I1, r1, q1⟩ := zz
  exact store_ok I1 hN hi hx r1 (fun s2 I2 => ⟨_, H1, I2, q1⟩) hf
end

/-! ### while -/
section
variable {X : Cx} {pos : Pos}
end

/-! ### what a loop or a comprehension walks -/
/-- at turn i: it yields x (the heap may grow), or it stops -/
structure It where
  go : Nat → Hp → Prop
  yld : Nat → Hp → V → Hp → Prop
  stop : Nat → Hp → Prop
/-- the iterator's own objects may turn: they are not the frame's, not pinned, younger than the entry (or a comprehension's own) -/
noncomputable def FpOk (X : Cx) (pins : List (Addr × Obj)) (H : Hp) (b : Addr) : Prop :=
  H b = none ∧ b ≠ X.env.locals ∧ b ∉ X.fs ∧ (b ∈ X.ex ∨ X.s₀.heap.objs.size ≤ b) ∧ (∀ x c, X.env.cells.lookup x = some c → c ≠ b) ∧ ∀ p ∈ X.pn ++ pins, p.1 ≠ b
theorem Inv.fpOk {X : Cx} {pins : List (Addr × Obj)} {σ : St} {H H' : Hp} {s : Shared} {b : Addr} (I : Inv X pins σ H s) (hb : s.heap.objs.size ≤ b) (hn : H' b = none) : FpOk X pins H' b := by
  refine ⟨hn, Nat.ne_of_gt (Nat.lt_of_lt_of_le I.lt hb), I.nofs hb, .inr (Nat.le_trans I.sz hb), fun x c e z => ?_, fun p hp z => ?_⟩
  · obtain ⟨v, q⟩ := I.cell x c e
    exact absurd (Nat.lt_of_lt_of_le q.lt (by rw [z]; exact hb)) (Nat.lt_irrefl _)
  · exact absurd (Nat.lt_of_lt_of_le (Heap.lt_size (I.pin p hp).1) (by rw [z]; exact hb)) (Nat.lt_irrefl _)
structure Turn (P : Program) (w : World) (K : PySem.W.Frag) (tg : Expr) (J : It) (fp : List Addr) (it : Addr) (tn : Nat → Heap → Prop) : Prop where
  mem : it ∈ fp
  obj : ∀ i h, tn i h → ∀ b ∈ fp, ∃ o, h.get? b = some o ∧ ∀ v, o.data ≠ .cell v
  keep : ∀ i h h', tn i h → (∀ b ∈ fp, ∀ o, h.get? b = some o → h'.get? b = some o) → tn i h'
  item : ∀ (X : Cx), X.prog = P → X.w = w → X.K = K → X.calm = true → ∀ (i : Nat) (pins : List (Addr × Obj)) (s : Shared) (σ : St) (H : Hp) (E : Value → Shared → Prop), Inv X pins σ H s → (∀ b ∈ fp, FpOk X pins H b) → tn i s.heap → J.go i H →
    wpAny (model P w) X.A (pyNext (.ref it)) (fun r s1 => ∃ u, r = some u ∧
      wpAny (model P w) X.A (letOwnedTupleGo tg (.ref it) u) (fun _ s2 => ∃ x H', Inv X pins σ H' s2 ∧ RelV x u ∧ J.yld i H x H' ∧ tn (i + 1) s2.heap ∧ ∀ b ∈ fp, H' b = none) E s1) E s
  done : ∀ (X : Cx), X.prog = P → X.w = w → X.K = K → X.calm = true → ∀ (i : Nat) (pins : List (Addr × Obj)) (s : Shared) (σ : St) (H : Hp) (E : Value → Shared → Prop), Inv X pins σ H s → (∀ b ∈ fp, FpOk X pins H b) → tn i s.heap → J.stop i H →
    wpAny (model P w) X.A (pyNext (.ref it)) (fun r s1 => r = none ∧ Inv X pins σ H s1) E s
  self : ∀ (A : Around) (i : Nat) (s : Shared) (Q : Value → Shared → Prop) (E : Value → Shared → Prop), tn i s.heap → Q (.ref it) s → wpAny (model P w) A (pyIter (.ref it)) Q E s
noncomputable abbrev TI := St → Hp → (It → Hp → Prop) → Prop
/-- an iterator has come -/
noncomputable def PIE (X : Cx) (pins : List (Addr × Obj)) (σ : St) (tg : Expr) (R : It → Hp → Prop) (itv : Value) (s2 : Shared) : Prop :=
  ∃ (it : Addr) (fp : List Addr) (tn : Nat → Heap → Prop) (J : It) (H' : Hp), itv = .ref it ∧ Inv X pins σ H' s2 ∧ Turn X.prog X.w X.K tg J fp it tn ∧ tn 0 s2.heap ∧ (∀ b ∈ fp, FpOk X pins H' b) ∧ R J H'
noncomputable def PI (X : Cx) (tg iter : Expr) (wi : TI) : Prop :=
  ∀ (pins : List (Addr × Obj)) (s : Shared) (σ : St) (H : Hp) (R : It → Hp → Prop), Inv X pins σ H s → wi σ H R →
    wpAny (model X.prog X.w) X.A (eval iter X.env) (fun v s1 => wpAny (model X.prog X.w) X.A (pyIter v) (PIE X pins σ tg R) X.xe s1) X.xe s

/-- the step ahead of the store is nothing for an iterator that keeps no tuple -/
theorem go_of {M : Model} {A : Around} {E : Value → Shared → Prop} {s : Shared} {tg : Expr} {it : Addr} {u : Value} {o : Obj} {n : String} {vs : Array Value} {Q : Unit → Shared → Prop} (ho : s.heap.get? it = some o) (hc : o.cls = .type n) (hd : o.data = .fields vs)
    (hn : ["enumerate", "zip", "dict_itemiterator", "dict_reverseitemiterator", "odict_iterator", "itertools.zip_longest", "itertools.pairwise"].contains n = false) (hQ : Q () s) : wpAny M A (letOwnedTupleGo tg (.ref it) u) Q E s := by
  unfold letOwnedTupleGo
  cases tg <;> first
    | exact wpAny_pure hQ
    | (cases u <;> first
        | exact wpAny_pure hQ
        | (refine wpAny_bind (wpAny_load ho ?_)
           rw [hc, hd]
           show wpAny M A (if (["enumerate", "zip", "dict_itemiterator", "dict_reverseitemiterator", "odict_iterator", "itertools.zip_longest", "itertools.pairwise"].contains n && vs[0]? == some (rawInt _)) = true then _ else _) Q E s
           rw [if_neg (by intro h; rw [hn, Bool.false_and] at h; cases h)]
           exact wpAny_pure hQ))

/-- the list at a, as it stands at each turn (a loop may append to it) -/
noncomputable def Itl (K : PySem.W.Frag) (a : Addr) : It :=
  ⟨fun i H => ∃ xs x, SqL K H a xs ∧ xs[i]? = some x, fun i H x H' => H' = H ∧ ∀ xs, SqL K H a xs → xs[i]? = some x, fun i H => ∃ xs, SqL K H a xs ∧ xs.length ≤ i⟩
/-- lo, lo + 1, .. (n of them) -/
noncomputable def Itr (lo : Int) (n : Nat) : It := ⟨fun i _ => i < n, fun i H x H' => H' = H ∧ x = .int (lo + i), fun i _ => n ≤ i⟩
theorem turn_list {P : Program} {w : World} {K : PySem.W.Frag} {tg : Expr} (a it : Addr) : Turn P w K tg (Itl K a) [it] it (fun i h => h.IsListIter it a i) where
  mem := by simp
  obj := fun i h st b hb => by
    have e : b = it := by simpa using hb
    subst e
    obtain ⟨o, e, c, d⟩ := st
    exact ⟨o, e, fun v z => by rw [d] at z; cases z⟩
  keep := fun i h h' st k => st.at fun o e => k it (by simp) o e
  item := by
    intro X hP hw hK hc i pins s σ H E I hf st hg
    subst hP hw hK
    obtain ⟨xs, x, hq, hx⟩ := hg
    obtain ⟨its, rv, p, hz⟩ := I.list hq
    obtain ⟨u, hu, ru⟩ := rv.get hx
    obtain ⟨f0, f1, f2, f3, f4, f5⟩ := hf it (by simp)
    refine wpAny_pyNext_list_item st p.isList (x := u) (by simpa using hu) fun h' st' sb => ?_
    have I1 : Inv X pins σ H { s with heap := h' } := I.turned (t' := s.toks) (fun b o hb e => (sb.2 b hb).trans e) f0 f1 f3 f4 f5
    obtain ⟨o, e, c, d⟩ := id st'
    exact ⟨u, rfl, go_of (s := { s with heap := h' }) e c d (by decide) ⟨x, H, I1, ru, ⟨rfl, fun ys hy => by rw [I.list_inj hy hq]; exact hx⟩, st', fun b hb => (hf b hb).1⟩⟩
  done := by
    intro X hP hw hK hc i pins s σ H E I hf st hg
    subst hP hw hK
    obtain ⟨xs, hq, hx⟩ := hg
    obtain ⟨its, rv, p, hz⟩ := I.list hq
    obtain ⟨f0, f1, f2, f3, f4, f5⟩ := hf it (by simp)
    have hl := rv.length
    exact wpAny_pyNext_list_end (I.ok.hd hc) st p.isList (by simp; omega) fun h' eb => ⟨rfl, I.turned (t' := s.toks) (fun b o hb e => eb b o hb e) f0 f1 f3 f4 f5⟩
  self := fun _ _ _ _ _ st h => wpAny_pyIter_listiter st h
theorem turn_range {P : Program} {w : World} {K : PySem.W.Frag} {tg : Expr} (it : Addr) (lo : Int) (n : Nat) : Turn P w K tg (Itr lo n) [it] it (fun i h => IsRangeIter h it (lo + (i : Nat) * 1) ((n : Int) - (i : Nat)) 1) where
  mem := by simp
  obj := fun i h st b hb => by
    have e : b = it := by simpa using hb
    subst e
    exact ⟨_, st, fun v z => by
      have z' : Data.fields _ = Data.cell v := z
      cases z'⟩
  keep := fun i h h' st k => k it (by simp) _ st
  item := by
    intro X hP hw hK hc i pins s σ H E I hf st hg
    subst hP hw hK
    obtain ⟨f0, f1, f2, f3, f4, f5⟩ := hf it (by simp)
    have W := Walks.range (prog := X.prog) (w := X.w) (I.ok.hd hc) it lo 1 n
    refine W.item i s _ _ hg st fun v h' tk hv st' kk => ?_
    obtain ⟨t, rfl⟩ := hv
    have I1 : Inv X pins σ H { s with heap := h', toks := tk } := I.turned (fun b o hb e => kk b o (by simpa using hb) e) f0 f1 f3 f4 f5
    refine ⟨_, rfl, go_of (s := { s with heap := h', toks := tk }) (n := "range_iterator") st' rfl rfl (by decide) ⟨.int (lo + i), H, I1, ⟨t, ?_⟩, ⟨rfl, rfl⟩, st', fun b hb => (hf b hb).1⟩⟩
    rw [Int.mul_one]
  done := by
    intro X hP hw hK hc i pins s σ H E I hf st hg
    subst hP hw hK
    obtain ⟨f0, f1, f2, f3, f4, f5⟩ := hf it (by simp)
    exact wpAny_pyNext_range_end (I.ok.hd hc) st (by have : n ≤ i := hg; omega) fun h' eb => ⟨rfl, I.turned (t' := s.toks) (fun b o hb e => eb b o hb e) f0 f1 f3 f4 f5⟩
  self := fun _ _ _ _ _ st h => wpAny_pyIter_rangeiter st h
end L2

namespace L2
open PySem PySem.Spec PyProof.Rows
section
variable {X : Cx} {tg : Expr}
noncomputable def iList (K : PySem.W.Frag) (tl : TE) : TI := fun σ H R => tl σ H fun x H1 => ∃ a, x = .ref a ∧ (∃ xs, SqL K H1 a xs) ∧ R (Itl K a) H1
theorem pi_list {l : Expr} {tl : TE} (hl : PE X l tl) : PI X tg l (iList X.K tl) := by
  intro pins s σ H R I h
  refine thn (hl pins s σ H _ I h) fun v s1 zz => ?_
  obtain ⟨x, H1, I1, r1, q1⟩ := zz
  obtain ⟨a, e, ⟨xs, hq⟩, q⟩ := q1
  subst e
  cases r1
  obtain ⟨its, rv, p, hz⟩ := I1.list hq
  refine wpAny_pyIter_list p.isList ?_
  refine ⟨s1.heap.objs.size, [s1.heap.objs.size], _, _, H1, rfl, I1.kept (t' := s1.toks) fun b o e => Heap.get?_push_of_some _ e, turn_list a _, ⟨_, Heap.get?_push_size _ rfl, rfl, rfl⟩, fun b hb => ?_, q⟩
  have e : b = s1.heap.objs.size := by simpa using hb
  subst e
  exact I1.fpOk (Nat.le_refl _) (I1.hok.fresh (Nat.le_refl _))
/-- a range object just made, walked -/
theorem range_it {pins : List (Addr × Obj)} {σ : St} {H : Hp} {s : Shared} {R : It → Hp → Prop} {E : Value → Shared → Prop} {lo hi : Int} {t u v : Tok} {tk : Nat} (I : Inv X pins σ H s) (h1 : -(2 ^ 62) ≤ lo) (h2 : lo < 2 ^ 62) (h3 : -(2 ^ 62) ≤ hi) (h4 : hi < 2 ^ 62)
    (q : R (Itr lo (hi - lo).toNat) H) : wpAny (model X.prog X.w) X.A (pyIter (.ref s.heap.objs.size)) (PIE X pins σ tg R) E { s with heap := s.heap.push { cls := .type "range", data := .fields #[.int lo t, .int hi u, .int 1 v] }, toks := tk } := by
  refine wpAny_pyIter_range (IsRange.new ..) (small_one h1 h2 h3 h4) ?_
  have I1 : Inv X pins σ H { s with heap := s.heap.push { cls := .type "range", data := .fields #[.int lo t, .int hi u, .int 1 v] }, toks := tk } := I.kept fun b o e => Heap.get?_push_of_some _ e
  refine ⟨(s.heap.push { cls := .type "range", data := .fields #[.int lo t, .int hi u, .int 1 v] }).objs.size, [(s.heap.push { cls := .type "range", data := .fields #[.int lo t, .int hi u, .int 1 v] }).objs.size], _, _, H, rfl,
    I1.kept (t' := tk) fun b o e => Heap.get?_push_of_some _ e, turn_range _ lo (hi - lo).toNat, ?_, fun b hb => ?_, q⟩
  · have e1 : lo + ((0 : Nat) : Int) * 1 = lo := by simp
    have e2 : (((hi - lo).toNat : Nat) : Int) - ((0 : Nat) : Int) = Builtin.Range.rangeSize lo hi 1 := by rw [rangeSize_one]; split <;> omega
    show IsRangeIter _ _ (lo + ((0 : Nat) : Int) * 1) ((((hi - lo).toNat : Nat) : Int) - ((0 : Nat) : Int)) 1
    rw [e1, e2]
    exact Heap.get?_push_size _ rfl
  · have e : b = (s.heap.push { cls := .type "range", data := .fields #[.int lo t, .int hi u, .int 1 v] }).objs.size := by simpa using hb
    subst e
    exact I1.fpOk (Nat.le_refl _) (I1.hok.fresh (Nat.le_refl _))
noncomputable def iRng1 (ta : TA) : TI := fun σ H R => ta σ H fun vs H1 => ∃ j : Int, vs = [.int j] ∧ -(2 ^ 62) ≤ j ∧ j < 2 ^ 62 ∧ R (Itr 0 j.toNat) H1
theorem pi_range1 {a : Expr} {ta : TA} {p pos : Pos} (hg : Gl X "range") (hm : X.mg "range" = none) (ha : PA X [a] ta) (hs : starEach [a] X.env = [(false, eval a X.env)] := by rfl) : PI X tg (.Call (.Name "range" p) [a] [] pos) (iRng1 ta) := by
  intro pins s σ H R I h
  refine Call_ (ld_blt I hg hm boot_range (PyProof.Rows.callWith_type1 (thn (ha pos pins s σ H _ I h) fun us s1 zz => ?_) hs rfl))
  obtain ⟨vs, H1, I1, r1, q1⟩ := zz
  obtain ⟨j, e, q1, q2, q⟩ := q1
  subst e
  cases r1 with
  | cons r rr =>
    cases rr
    obtain ⟨t, rfl⟩ := r
    exact call_range_1 (range_it I1 (by omega) (by omega) q1 q2 (by simpa using q))

/-! ### for -/
/-- W: the invariant by the turn and a measure; N: what the body is to reach -/
noncomputable def tFor (wi : TI) (g : TG) (tb : TS) : TS := fun D σ H => wi σ H fun J H1 => ∃ W : Nat → Nat → St → Hp → Prop, (∃ m, W 0 m σ H1) ∧ ∀ i m σ H, W i m σ H →
  (J.stop i H ∧ D.nx σ H) ∨ (J.go i H ∧ ∃ N : St → Hp → Prop, (∀ σ' H', N σ' H' → ∃ m', m' < m ∧ W (i + 1) m' σ' H') ∧ ∀ x H', J.yld i H x H' → g x σ H' fun σ2 H2 => tb { D with nx := N, ct := N, bk := D.nx } σ2 H2)
/-- the records at fp as they stand -/
noncomputable def pinsAt (fp : List Addr) (h : Heap) : List (Addr × Obj) := fp.filterMap fun b => (h.get? b).map fun o => (b, o)
theorem mem_pinsAt {fp : List Addr} {h : Heap} {b : Addr} {o : Obj} (hb : b ∈ fp) (e : h.get? b = some o) : (b, o) ∈ pinsAt fp h := List.mem_filterMap.mpr ⟨b, hb, by rw [e]; rfl⟩
theorem of_pinsAt {fp : List Addr} {h : Heap} {p : Addr × Obj} (hp : p ∈ pinsAt fp h) : p.1 ∈ fp ∧ h.get? p.1 = some p.2 := by
  obtain ⟨b, hb, e⟩ := List.mem_filterMap.mp hp
  cases q : h.get? b with
  | none => rw [q] at e; cases e
  | some o =>
    rw [q] at e
    have e' : (b, o) = p := Option.some.inj e
    subst e'
    exact ⟨hb, q⟩
theorem Inv.pinned {pins : List (Addr × Obj)} {σ : St} {H : Hp} {s : Shared} {fp : List Addr} (I : Inv X pins σ H s) (hf : ∀ b ∈ fp, FpOk X pins H b) (ho : ∀ b ∈ fp, ∃ o, s.heap.get? b = some o ∧ ∀ v, o.data ≠ .cell v) : Inv X (pins ++ pinsAt fp s.heap) σ H s :=
  I.pins_of fun p hp => (List.mem_append.mp hp).elim (fun z => I.pin p (List.mem_append_right _ z)) fun z => by
    obtain ⟨hb, e⟩ := of_pinsAt z
    obtain ⟨f0, f1, f2, _⟩ := hf p.1 hb
    obtain ⟨o, e', d⟩ := ho p.1 hb
    rw [e] at e'; cases e'
    exact ⟨e, f0, f1, f2, d⟩
theorem Inv.unpinned {pins pl : List (Addr × Obj)} {σ : St} {H : Hp} {s : Shared} (I : Inv X (pins ++ pl) σ H s) : Inv X pins σ H s := I.pins_of fun p hp => I.pin p (List.mem_append_right _ (List.mem_append_left _ hp))
theorem ps_for {iter : Expr} {body : List Stmt} {wi : TI} {g : TG} {tb : TS} {pos : Pos} (hp : PassesOwn (model X.prog X.w) X.A X.env X.xe) (hc : X.calm = true) (hi : PI X tg iter wi) (hg : PG X tg g) (hb : PSs X body tb)
    (hs : ∀ x, foldedSetIterable iter X.env x = pure x := by intro _; rfl) : PS X (.For tg iter body [] pos) (tFor wi g tb) := by
  intro pins s σ H D I h
  refine wpAny_For (thn (hi pins s σ H _ I h) fun v s1 h1 => thn h1 fun itv s2 h2 => ?_) hs
  obtain ⟨it, fp, tn, J, H2, e, I2, T, st2, f2, W, ⟨m0, w0⟩, turn⟩ := h2
  subst e
  -- what stays true of the iterator's objects through the loop
  have stat : ∀ {H' : Hp}, (∀ b ∈ fp, H' b = none) → ∀ b ∈ fp, FpOk X pins H' b := fun hn b hb => ⟨hn b hb, (f2 b hb).2⟩
  refine codeAny_forLoop_any (fun n s' => ∃ i σ' H', Inv X pins σ' H' s' ∧ tn i s'.heap ∧ (∀ b ∈ fp, H' b = none) ∧ W i n σ' H') ?_ m0 ⟨0, σ, H2, I2, st2, fun b hb => (f2 b hb).1, w0⟩
  rintro n s3 ⟨i, σ3, H3, I3, st3, fr3, w3⟩
  rcases turn i n σ3 H3 w3 with ⟨stop, qn⟩ | ⟨go, N, hN, step⟩
  · refine wpAny_passesOwn hp (thn (T.done X rfl rfl rfl hc i pins s3 σ3 H3 X.xe I3 (stat fr3) st3 stop) fun r s4 zz => ?_)
    obtain ⟨hr, I4⟩ := zz
    subst hr
    exact wpAny_execs_nil ⟨σ3, H3, I4, qn⟩
  · refine wpAny_passesOwn hp (thn (T.item X rfl rfl rfl hc i pins s3 σ3 H3 X.xe I3 (stat fr3) st3 go) fun r s4 zz => ?_)
    obtain ⟨u, hr, h4⟩ := zz
    subst hr
    refine wpAny_passesOwn hp (thn h4 fun _ s5 zz => ?_)
    obtain ⟨x, H5, I5, r5, y5, st5, fr5⟩ := zz
    have I5' := I5.pinned (stat fr5) (T.obj _ _ st5)
    refine wpAny_passesOwn hp (thn (hg _ s5 σ3 H5 x u _ I5' r5 (step x H5 y5)) fun _ s6 zz => ?_)
    obtain ⟨σ6, H6, I6, q6⟩ := zz
    refine wpAny_passesOwn hp (thn (hb _ s6 σ6 H6 _ I6 q6) fun f s7 q7 => ?_)
    have again : ∀ {σ7 : St} {H7 : Hp}, Inv X (pins ++ pinsAt fp s5.heap) σ7 H7 s7 → N σ7 H7 → ∃ m, m < n ∧ ∃ i σ' H', Inv X pins σ' H' s7 ∧ tn i s7.heap ∧ (∀ b ∈ fp, H' b = none) ∧ W i m σ' H' := fun {σ7 H7} I7 n7 => by
      obtain ⟨m', hm, w7⟩ := hN σ7 H7 n7
      refine ⟨m', hm, i + 1, σ7, H7, I7.unpinned, T.keep _ _ _ st5 fun b hb o e => (I7.pin (b, o) (List.mem_append_right _ (List.mem_append_right _ (mem_pinsAt hb e)))).1, fun b hb => ?_, w7⟩
      obtain ⟨o, e, d⟩ := T.obj _ _ st5 b hb
      exact (I7.pin (b, o) (List.mem_append_right _ (List.mem_append_right _ (mem_pinsAt hb e)))).2.1
    cases f with
    | next => obtain ⟨σ7, H7, I7, n7⟩ := q7; exact again I7 n7
    | cont => obtain ⟨σ7, H7, I7, n7⟩ := q7; exact again I7 n7
    | brk => obtain ⟨σ7, H7, I7, q7⟩ := q7; exact ⟨σ7, H7, I7.unpinned, q7⟩
    | ret v => obtain ⟨x7, σ7, H7, I7, r7, q7⟩ := q7; exact ⟨x7, σ7, H7, I7.unpinned, r7, q7⟩
end

/-! ### the forms one uses -/
/-- over a list that the body leaves as it is -/
theorem for_list {K : PySem.W.Frag} {a : Addr} {xs : List V} {g : TG} {tb : TS} {D : Ends} {σ : St} {H : Hp} (Pv : Nat → St → Hp → Prop) (h0 : Pv 0 σ H) (hl : ∀ i σ H, i ≤ xs.length → Pv i σ H → SqL K H a xs)
    (hs : ∀ i x σ H, xs[i]? = some x → Pv i σ H → g x σ H fun σ2 H2 => tb { D with nx := Pv (i + 1), ct := Pv (i + 1), bk := D.nx } σ2 H2) (hd : ∀ σ H, Pv xs.length σ H → D.nx σ H) :
    ∃ W : Nat → Nat → St → Hp → Prop, (∃ m, W 0 m σ H) ∧ ∀ i m σ H, W i m σ H →
      ((Itl K a).stop i H ∧ D.nx σ H) ∨ ((Itl K a).go i H ∧ ∃ N : St → Hp → Prop, (∀ σ' H', N σ' H' → ∃ m', m' < m ∧ W (i + 1) m' σ' H') ∧ ∀ x H', (Itl K a).yld i H x H' → g x σ H' fun σ2 H2 => tb { D with nx := N, ct := N, bk := D.nx } σ2 H2) := by
  refine ⟨fun i m σ H => m = xs.length - i ∧ i ≤ xs.length ∧ Pv i σ H, ⟨xs.length, by simp, Nat.zero_le _, h0⟩, ?_⟩
  rintro i m σ H ⟨rfl, hi, p⟩
  have q := hl i σ H hi p
  by_cases hlt : i < xs.length
  · refine .inr ⟨⟨xs, xs[i], q, by simp [hlt]⟩, Pv (i + 1), fun σ' H' p' => ⟨xs.length - (i + 1), by omega, rfl, hlt, p'⟩, fun x H' y => ?_⟩
    obtain ⟨e, y⟩ := y
    subst e
    exact hs i x σ _ (y xs q) p
  · have e : i = xs.length := by omega
    subst e
    exact .inl ⟨⟨xs, q, Nat.le_refl _⟩, hd σ H p⟩
theorem for_range {lo : Int} {n : Nat} {g : TG} {tb : TS} {D : Ends} {σ : St} {H : Hp} (Pv : Nat → St → Hp → Prop) (h0 : Pv 0 σ H)
    (hs : ∀ i σ H, i < n → Pv i σ H → g (.int (lo + i)) σ H fun σ2 H2 => tb { D with nx := Pv (i + 1), ct := Pv (i + 1), bk := D.nx } σ2 H2) (hd : ∀ σ H, Pv n σ H → D.nx σ H) :
    ∃ W : Nat → Nat → St → Hp → Prop, (∃ m, W 0 m σ H) ∧ ∀ i m σ H, W i m σ H →
      ((Itr lo n).stop i H ∧ D.nx σ H) ∨ ((Itr lo n).go i H ∧ ∃ N : St → Hp → Prop, (∀ σ' H', N σ' H' → ∃ m', m' < m ∧ W (i + 1) m' σ' H') ∧ ∀ x H', (Itr lo n).yld i H x H' → g x σ H' fun σ2 H2 => tb { D with nx := N, ct := N, bk := D.nx } σ2 H2) := by
  refine ⟨fun i m σ H => m = n - i ∧ i ≤ n ∧ Pv i σ H, ⟨n, by simp, Nat.zero_le _, h0⟩, ?_⟩
  rintro i m σ H ⟨rfl, hi, p⟩
  by_cases hlt : i < n
  · refine .inr ⟨hlt, Pv (i + 1), fun σ' H' p' => ⟨n - (i + 1), by omega, rfl, hlt, p'⟩, fun x H' y => ?_⟩
    obtain ⟨e, y⟩ := y
    subst e y
    exact hs i σ _ hlt p
  · have e : i = n := by omega
    subst e
    exact .inl ⟨Nat.le_refl _, hd σ H p⟩
end L2

namespace L2
open PySem PySem.Spec PyProof.Rows

noncomputable abbrev R2 := V → V → Hp → VK → Prop
/-- a two-place operation on values: f is binaryOp op, inplaceOp op or compareOp op -/
noncomputable def OpR (X : Cx) (f : Value → Value → Sem Value) (r : R2) : Prop :=
  ∀ (pins : List (Addr × Obj)) (s : Shared) (σ : St) (H : Hp) (x y : V) (v u : Value) (Q : VK), Inv X pins σ H s → RelV x v → RelV y u → r x y H Q →
    wpAny (model X.prog X.w) X.A (f v u) (EP X pins σ Q) X.xe s
/-- a one-place operation -/
noncomputable def UnR (X : Cx) (f : Value → Sem Value) (r : V → Hp → VK → Prop) : Prop :=
  ∀ (pins : List (Addr × Obj)) (s : Shared) (σ : St) (H : Hp) (x : V) (v : Value) (Q : VK), Inv X pins σ H s → RelV x v → r x H Q →
    wpAny (model X.prog X.w) X.A (f v) (EP X pins σ Q) X.xe s
/-- a call of a value that is known (a builtin, a type) with values -/
noncomputable def CallR (X : Cx) (f : Value) (r : List V → Hp → VK → Prop) : Prop :=
  ∀ (pins : List (Addr × Obj)) (s : Shared) (σ : St) (H : Hp) (xs : List V) (us : List Value) (Q : VK), Inv X pins σ H s → Vals xs us → r xs H Q →
    wpAny (model X.prog X.w) X.A (call f us) (EP X pins σ Q) X.xe s

noncomputable def tOp (r : R2) (ta tb : TE) : TE := fun σ H Q => ta σ H fun x H1 => tb σ H1 fun y H2 => r x y H2 Q
noncomputable def tUn (r : V → Hp → VK → Prop) (ta : TE) : TE := fun σ H Q => ta σ H fun x H1 => r x H1 Q
/-- ints in, under C, and a value out -/
noncomputable def rI (C : Int → Int → Prop) (g : Int → Int → V) : R2 := fun x y H Q => ∃ i j, x = .int i ∧ y = .int j ∧ C i j ∧ Q (g i j) H
noncomputable def rI0 (g : Int → Int → V) : R2 := fun x y H Q => ∃ i j, x = .int i ∧ y = .int j ∧ Q (g i j) H
noncomputable def rU (g : Int → V) : V → Hp → VK → Prop := fun x H Q => ∃ i, x = .int i ∧ Q (g i) H

section
variable {X : Cx} {a b c : Expr} {ta tb tc : TE} {pos : Pos}

theorem binT (ha : PE X a ta) (hb : PE X b tb) {pins : List (Addr × Obj)} {s : Shared} {σ : St} {H : Hp} {R : V → V → Hp → Prop} (I : Inv X pins σ H s)
    (h : ta σ H fun x H1 => tb σ H1 fun y H2 => R x y H2) {Q : Value → Shared → Prop} {f : Value → Value → Sem Value}
    (hf : ∀ v u s2 x y H2, Inv X pins σ H2 s2 → RelV x v → RelV y u → R x y H2 → wpAny (model X.prog X.w) X.A (f v u) Q X.xe s2) :
    wpAny (model X.prog X.w) X.A (eval a X.env) (fun v s₁ => wpAny (model X.prog X.w) X.A (eval b X.env) (fun u s₂ => wpAny (model X.prog X.w) X.A (f v u) Q X.xe s₂) X.xe s₁) X.xe s := by
  refine thn (ha pins s σ H _ I h) fun v s1 zz => ?_
  obtain ⟨x, H1, I1, r1, q1⟩ := zz
  refine thn (hb pins s1 σ H1 _ I1 q1) fun u s2 zz => ?_
  obtain ⟨y, H2, I2, r2, q2⟩ := zz
  exact hf v u s2 x y H2 I2 r1 r2 q2

theorem pe_op {op : Operator} {r : R2} (ho : OpR X (binaryOp op) r) (ha : PE X a ta) (hb : PE X b tb) : PE X (.BinOp a op b pos) (tOp r ta tb) := by
  intro pins s σ H Q I h
  exact wpAny_BinOp (binT ha hb I h fun v u s2 x y H2 I2 rx ry q => ho pins s2 σ H2 x y v u Q I2 rx ry q)
theorem pe_un {op : UnaryOp} {r : V → Hp → VK → Prop} (ho : UnR X (unaryOp op) r) (ha : PE X a ta) : PE X (.UnaryOp op a pos) (tUn r ta) := by
  intro pins s σ H Q I h
  exact UnaryOp_ (thn (ha pins s σ H _ I h) fun v s1 ⟨x, H1, I1, r1, q1⟩ => ho pins s1 σ H1 x v Q I1 r1 q1)

/-! ### ints -/
theorem opI {f : Value → Value → Sem Value} {C : Int → Int → Prop} {g : Int → Int → Int}
    (rule : ∀ (i j : Int) (t u : Tok) (s : Shared) (Q : Value → Shared → Prop) (E : Value → Shared → Prop), C i j → Q (.int (g i j) s.toks) { s with toks := s.toks + 1 } → wpAny (model X.prog X.w) X.A (f (.int i t) (.int j u)) Q E s) :
    OpR X f (rI C fun i j => .int (g i j)) := by
  intro pins s σ H x y v u Q I rx ry h
  obtain ⟨i, j, rfl, rfl, hc, q⟩ := h
  obtain ⟨t, rfl⟩ := rx
  obtain ⟨t', rfl⟩ := ry
  exact rule i j t t' s _ _ hc ⟨.int (g i j), H, I.tok _, ⟨_, rfl⟩, q⟩
theorem opI0 {f : Value → Value → Sem Value} {g : Int → Int → Int}
    (rule : ∀ (i j : Int) (t u : Tok) (s : Shared) (Q : Value → Shared → Prop) (E : Value → Shared → Prop), Q (.int (g i j) s.toks) { s with toks := s.toks + 1 } → wpAny (model X.prog X.w) X.A (f (.int i t) (.int j u)) Q E s) :
    OpR X f (rI0 fun i j => .int (g i j)) := by
  intro pins s σ H x y v u Q I rx ry h
  obtain ⟨i, j, rfl, rfl, q⟩ := h
  obtain ⟨t, rfl⟩ := rx
  obtain ⟨t', rfl⟩ := ry
  exact rule i j t t' s _ _ ⟨.int (g i j), H, I.tok _, ⟨_, rfl⟩, q⟩
theorem opB0 {f : Value → Value → Sem Value} {g : Int → Int → Bool}
    (rule : ∀ (i j : Int) (t u : Tok) (s : Shared) (Q : Value → Shared → Prop) (E : Value → Shared → Prop), Q (.bool (g i j)) s → wpAny (model X.prog X.w) X.A (f (.int i t) (.int j u)) Q E s) :
    OpR X f (rI0 fun i j => .bl (g i j)) := by
  intro pins s σ H x y v u Q I rx ry h
  obtain ⟨i, j, rfl, rfl, q⟩ := h
  obtain ⟨t, rfl⟩ := rx
  obtain ⟨t', rfl⟩ := ry
  exact rule i j t t' s _ _ ⟨.bl (g i j), H, I, rfl, q⟩

noncomputable def CDiv (i j : Int) : Prop := 0 < j ∧ j < 1073741824
noncomputable def CPow (i j : Int) : Prop := 0 ≤ j ∧ j ≤ 1000000 ∧ i.natAbs < 2 ^ 64
theorem two_pow_nn (k : Nat) : (0 : Int) ≤ 2 ^ k := by
  rw [two_pow_cast]
  exact Int.natCast_nonneg _

theorem op_add : OpR X (binaryOp .Add) (rI0 fun i j => .int (i + j)) := opI0 fun _ _ _ _ _ _ _ q => add_int q
theorem op_sub : OpR X (binaryOp .Sub) (rI0 fun i j => .int (i - j)) := opI0 fun _ _ _ _ _ _ _ q => sub_int q
/-- // by a positive divisor -/
theorem op_fdiv : OpR X (binaryOp .FloorDiv) (rI CDiv fun i j => .int (i / j)) := opI fun i j _ _ _ _ _ hc q => by
  have h1 : (0 : Int) < j := hc.1
  have h2 : j < 1073741824 := hc.2
  exact floordiv_int (by omega) (by rw [Int.fdiv_eq_ediv_of_nonneg i (by omega)]; exact q) (.inl (PyProof.noPylong_small (by omega)))
/-- % by a positive divisor of any size -/
theorem op_mod : OpR X (binaryOp .Mod) (rI (fun _ j => 0 < j) fun i j => .int (i % j)) := opI fun i j _ _ _ _ _ hc q => by
  have h1 : (0 : Int) < j := hc
  exact mod_int' (by omega) (by rw [Int.fmod_eq_emod_of_nonneg i (by omega)]; exact q)
theorem op_pow : OpR X (binaryOp .Pow) (rI CPow fun i j => .int (i ^ j.toNat)) := opI fun _ _ _ _ _ _ _ hc q => pow_int_small hc.1 hc.2.1 hc.2.2 q
theorem op_shl : OpR X (binaryOp .LShift) (rI CPow fun i j => .int (i * 2 ^ j.toNat)) := opI fun _ _ _ _ _ _ _ hc q => lshift_int_small hc.1 hc.2.1 hc.2.2 q
theorem op_shr : OpR X (binaryOp .RShift) (rI (fun _ j => 0 ≤ j) fun i j => .int (i / 2 ^ j.toNat)) := opI fun i j _ _ _ _ _ hc q =>
  rshift_int hc (by rw [Int.fdiv_eq_ediv_of_nonneg i (two_pow_nn _)]; exact q)
theorem op_and : OpR X (binaryOp .BitAnd) (rI0 fun i j => .int (Builtin.bitAnd i j)) := opI0 fun _ _ _ _ _ _ _ q => and_int q
theorem op_or : OpR X (binaryOp .BitOr) (rI0 fun i j => .int (Builtin.bitOr i j)) := opI0 fun _ _ _ _ _ _ _ q => or_int q


theorem unI {f : Value → Sem Value} {g : Int → Int}
    (rule : ∀ (i : Int) (t : Tok) (s : Shared) (Q : Value → Shared → Prop) (E : Value → Shared → Prop), Q (.int (g i) s.toks) { s with toks := s.toks + 1 } → wpAny (model X.prog X.w) X.A (f (.int i t)) Q E s) :
    UnR X f (rU fun i => .int (g i)) := by
  intro pins s σ H x v Q I rx h
  obtain ⟨i, rfl, q⟩ := h
  obtain ⟨t, rfl⟩ := rx
  exact rule i t s _ _ ⟨.int (g i), H, I.tok _, ⟨_, rfl⟩, q⟩
theorem un_neg : UnR X (unaryOp .USub) (rU fun i => .int (-i)) := unI fun _ _ _ _ _ q => neg_int q

/-! ### bools among ints: n += (a < b) -/
end

/-! ### comparisons -/
/-- the scalars that == tells apart as data does -/
noncomputable def scal : V → V → Bool
  | .non, .non => true | .non, .int _ => true | .int _, .non => true | .non, .bl _ => true | .bl _, .non => true | .non, .str _ => true | .str _, .non => true
  | .int _, .int _ => true | .bl _, .bl _ => true | .str _, .str _ => true | .byt _, .byt _ => true
  | .int _, .str _ => true | .str _, .int _ => true | .bl _, .str _ => true | .str _, .bl _ => true
  | _, _ => false
noncomputable def rEq : R2 := fun x y H Q => scal x y = true ∧ Q (.bl (decide (x = y))) H
noncomputable def rNe : R2 := fun x y H Q => scal x y = true ∧ Q (.bl (!decide (x = y))) H

theorem dec_int {i j : Int} : decide (V.int i = V.int j) = (i == j) := by
  rw [Bool.eq_iff_iff]
  simp
theorem dec_bl {i j : Bool} : decide (V.bl i = V.bl j) = (i == j) := by
  rw [Bool.eq_iff_iff]
  simp
theorem dec_str {i j : Str} : decide (V.str i = V.str j) = (i == j) := by
  rw [Bool.eq_iff_iff]
  simp
theorem dec_byt {i j : Array UInt8} : decide (V.byt i = V.byt j) = (i.toList == j.toList) := by
  rw [Bool.eq_iff_iff]
  cases i
  cases j
  simp

section
variable {X : Cx} {a b c : Expr} {ta tb tc : TE} {pos : Pos}
theorem fin_bl {pins : List (Addr × Obj)} {σ : St} {H : Hp} {s : Shared} {Q : VK} {k k' : Bool} (I : Inv X pins σ H s) (q : Q (.bl k) H) (e : k = k') : EP X pins σ Q (.bool k') s := by
  subst e
  exact ⟨.bl k, H, I, rfl, q⟩
theorem op_eq : OpR X (compareOp .Eq) rEq := by
  intro pins s σ H x y v u Q I rx ry h
  obtain ⟨hs, q⟩ := h
  cases x with
  | non =>
    cases rx
    cases y with
    | non => cases ry; exact PySem.EqNone.eq_none_none (fin_bl I q (by simp))
    | bl j => cases ry; exact PySem.EqNone.eq_none_bool (fin_bl I q (by simp))
    | int j => obtain ⟨t', rfl⟩ := ry; exact PySem.EqNone.eq_none_int (fin_bl I q (by simp))
    | str j => obtain ⟨t', rfl⟩ := ry; exact PySem.EqNone.eq_none_str (fin_bl I q (by simp))
    | _ => exact absurd (show false = true from hs) Bool.false_ne_true
  | bl i =>
    cases rx
    cases y with
    | non => cases ry; exact PySem.EqNone.eq_bool_none (fin_bl I q (by simp))
    | bl j => cases ry; exact eq_bool (fin_bl I q dec_bl)
    | str j => obtain ⟨t', rfl⟩ := ry; exact PySem.EqMixed.eq_bool_str (fin_bl I q (by simp))
    | _ => exact absurd (show false = true from hs) Bool.false_ne_true
  | int i =>
    obtain ⟨t, rfl⟩ := rx
    cases y with
    | non => cases ry; exact PySem.EqNone.eq_int_none (fin_bl I q (by simp))
    | int j => obtain ⟨t', rfl⟩ := ry; exact eq_int (fin_bl I q dec_int)
    | str j => obtain ⟨t', rfl⟩ := ry; exact PySem.EqMixed.eq_int_str (fin_bl I q (by simp))
    | _ => exact absurd (show false = true from hs) Bool.false_ne_true
  | str i =>
    obtain ⟨t, rfl⟩ := rx
    cases y with
    | non => cases ry; exact PySem.EqNone.eq_str_none (fin_bl I q (by simp))
    | bl j => cases ry; exact PySem.EqMixed.eq_str_bool (fin_bl I q (by simp))
    | int j => obtain ⟨t', rfl⟩ := ry; exact PySem.EqMixed.eq_str_int (fin_bl I q (by simp))
    | str j => obtain ⟨t', rfl⟩ := ry; exact eq_str (fin_bl I q dec_str)
    | _ => exact absurd (show false = true from hs) Bool.false_ne_true
  | byt i =>
    obtain ⟨t, rfl⟩ := rx
    cases y with
    | byt j => obtain ⟨t', rfl⟩ := ry; exact PySem.W.eq_bytes (fin_bl I q dec_byt)
    | _ => exact absurd (show false = true from hs) Bool.false_ne_true
  | _ => cases y <;> exact absurd (show false = true from hs) Bool.false_ne_true
theorem op_ne : OpR X (compareOp .NotEq) rNe := by
  intro pins s σ H x y v u Q I rx ry h
  obtain ⟨hs, q⟩ := h
  cases x with
  | non =>
    cases rx
    cases y with
    | non => cases ry; exact PySem.EqNone.ne_none_none (fin_bl I q (by simp))
    | bl j => cases ry; exact PySem.EqNone.ne_none_bool (fin_bl I q (by simp))
    | int j => obtain ⟨t', rfl⟩ := ry; exact PySem.EqNone.ne_none_int (fin_bl I q (by simp))
    | str j => obtain ⟨t', rfl⟩ := ry; exact PySem.EqNone.ne_none_str (fin_bl I q (by simp))
    | _ => exact absurd (show false = true from hs) Bool.false_ne_true
  | bl i =>
    cases rx
    cases y with
    | non => cases ry; exact PySem.EqNone.ne_bool_none (fin_bl I q (by simp))
    | bl j => cases ry; exact ne_bool (fin_bl I q (congrArg not dec_bl))
    | str j => obtain ⟨t', rfl⟩ := ry; exact PySem.EqMixed.ne_bool_str (fin_bl I q (by simp))
    | _ => exact absurd (show false = true from hs) Bool.false_ne_true
  | int i =>
    obtain ⟨t, rfl⟩ := rx
    cases y with
    | non => cases ry; exact PySem.EqNone.ne_int_none (fin_bl I q (by simp))
    | int j => obtain ⟨t', rfl⟩ := ry; exact ne_int (fin_bl I q (congrArg not dec_int))
    | str j => obtain ⟨t', rfl⟩ := ry; exact PySem.EqMixed.ne_int_str (fin_bl I q (by simp))
    | _ => exact absurd (show false = true from hs) Bool.false_ne_true
  | str i =>
    obtain ⟨t, rfl⟩ := rx
    cases y with
    | non => cases ry; exact PySem.EqNone.ne_str_none (fin_bl I q (by simp))
    | bl j => cases ry; exact PySem.EqMixed.ne_str_bool (fin_bl I q (by simp))
    | int j => obtain ⟨t', rfl⟩ := ry; exact PySem.EqMixed.ne_str_int (fin_bl I q (by simp))
    | str j => obtain ⟨t', rfl⟩ := ry; exact ne_str (fin_bl I q (congrArg not dec_str))
    | _ => exact absurd (show false = true from hs) Bool.false_ne_true
  | byt i =>
    obtain ⟨t, rfl⟩ := rx
    cases y with
    | byt j => obtain ⟨t', rfl⟩ := ry; exact PySem.W.ne_bytes (fin_bl I q (congrArg not dec_byt))
    | _ => exact absurd (show false = true from hs) Bool.false_ne_true
  | _ => cases y <;> exact absurd (show false = true from hs) Bool.false_ne_true

theorem op_lt : OpR X (compareOp .Lt) (rI0 fun i j => .bl (decide (i < j))) := opB0 fun _ _ _ _ _ _ _ q => lt_int q




theorem nomark (b : Expr) {op : CmpOp} (h : op ≠ .In := by decide) (h2 : op ≠ .NotIn := by decide) : behindInMarks op b = false := by
  have e1 : (op == CmpOp.In) = false := by cases op <;> first | rfl | exact absurd rfl h
  have e2 : (op == CmpOp.NotIn) = false := by cases op <;> first | rfl | exact absurd rfl h2
  cases b <;> simp [behindInMarks, e1, e2]
/-- a comparison as a value; hm: nomark b, or (for in, not in) by with_unfolding_all rfl -/
theorem pe_cmpR {op : CmpOp} {r : R2} (ho : OpR X (compareOp op) r) (ha : PE X a ta) (hb : PE X b tb) (hm : behindInMarks op b = false) : PE X (.Compare a [op] [b] pos) (tOp r ta tb) := by
  intro pins s σ H Q I h
  exact wpAny_Compare1 (binT ha hb I h fun v u s2 x y H2 I2 rx ry q => ho pins s2 σ H2 x y v u Q I2 rx ry q) hm
/-- a reading of a value as a test -/
noncomputable def tTest (t : TE) : TT := fun σ H Q => t σ H fun x H' => ∃ k, x = .bl k ∧ Q k H'
theorem pt_cmpR {op : CmpOp} {r : R2} (ho : OpR X (compareOp op) r) (ha : PE X a ta) (hb : PE X b tb) (hm : behindInMarks op b = false) : PT X (.Compare a [op] [b] pos) (tTest (tOp r ta tb)) := by
  intro pins s σ H Q I h
  refine wpAny_isTrue_Compare1 (thn (ha pins s σ H _ I h) fun v s1 ⟨x, H1, I1, r1, q1⟩ => thn (hb pins s1 σ H1 _ I1 q1) fun u s2 ⟨y, H2, I2, r2, q2⟩ =>
    thn (ho pins s2 σ H2 x y v u _ I2 r1 r2 q2) fun c s3 zz => ?_) hm
  obtain ⟨z, H3, I3, r3, k, e, q3⟩ := zz
  subst e
  cases r3
  exact wpAny_truthy_bool ⟨H3, I3, q3⟩

/-! ### truth -/
theorem line63 : (sizeLine : Nat) < 2 ^ 63 := by rw [sizeLine_eq]; decide

/-! ### strs and bytes -/


/-! ### scalar builtins, by CallR -/
theorem vals1 {x : V} {us : List Value} (r : Vals [x] us) : ∃ u, us = [u] ∧ RelV x u := by
  cases r with
  | cons r1 r2 => cases r2; exact ⟨_, rfl, r1⟩
theorem vals2 {x y : V} {us : List Value} (r : Vals [x, y] us) : ∃ u w', us = [u, w'] ∧ RelV x u ∧ RelV y w' := by
  cases r with
  | cons r1 r2 =>
    cases r2 with
    | cons r3 r4 => cases r4; exact ⟨_, _, rfl, r1, r3⟩
end
end L2

namespace L2
open PySem PySem.Spec PyProof.Rows

/-! ### an instance, its attributes a map -/
structure ObjM (h : Heap) (x dx C : Addr) (mA : Str → Option Value) : Prop where
  obj : h.get? x = some (PySem.W.instObj C dx)
  ns : h.Ns1 dx mA
  ne : dx ≠ x

theorem lookIn_ns {h : Heap} {dx : Addr} {mA : Str → Option Value} (n : h.Ns1 dx mA) : ∃ od, h.get? dx = some od ∧ ∀ name, PySem.W.lookIn name od = some (mA name) := by
  obtain ⟨o, es, ep, ho, hd, hk, _, hm⟩ := n
  refine ⟨o, ho, fun name => ?_⟩
  have e := hm name
  unfold nsFind findBy at e
  rw [← Array.find?_toList] at e
  unfold PySem.W.lookIn
  rw [hd]
  dsimp only
  split
  · rename_i y q
    rw [q] at e
    exact congrArg some e
  · rename_i q
    rw [q] at e
    have a : es.toList.any (·.refKey) = false := by
      rw [List.any_eq_false]
      intro y hy
      obtain ⟨z, t, hkey⟩ := hk y (Array.mem_toList_iff.mp hy)
      simp [DictEntry.refKey, hkey]
    have a' : ¬ es.toList.any (·.refKey) = true := by rw [a]; exact Bool.false_ne_true
    rw [if_neg a']
    exact congrArg some e

theorem ObjM.look {h : Heap} {x dx C : Addr} {mA : Str → Option Value} (I : ObjM h x dx C mA) : ∃ od, PySem.W.InstAt h x (PySem.W.instObj C dx) C (some od) ∧ ∀ name, PySem.W.lookIn name od = some (mA name) :=
  let ⟨od, ho, hl⟩ := lookIn_ns I.ns
  ⟨od, ⟨I.obj, rfl, rfl, ho⟩, hl⟩

section
variable {prog : Program} {w : World} {A : Around} {E : Value → Shared → Prop} {s : Shared} {K : PySem.W.Frag} {x dx C f : Addr} {mA : Str → Option Value} {name : Str} {v : Value}





end

/-! ### the attributes as a list of pairs -/


section
variable {P : Program} {w : World} {H H' : Hp} {h h' : Heap} {a C dx : Addr} {fs fs' : List (Str × V)}
theorem ins_get (hok : HOk P w H h) (e : H a = some (.ins C dx fs)) : ∃ mA, ObjM h a dx C mA ∧ (∀ f, RelO (fs.lookup f) (mA f)) ∧ PySem.Within mA (fs.map (·.1)) ∧ fs.length ≤ 1000 ∧ H dx = some (.own a) := by
  obtain ⟨d, z, ne, ob, mA, n, r, q⟩ := (show ObjOk P w H h a (.ins C dx fs) from hok a _ e)
  exact ⟨mA, ⟨ob, n, ne⟩, r, q, z, d⟩
end

/-! ### what of the text a class must have -/
structure Cls (K : PySem.W.Frag) (C : Addr) : Prop where
  pg : PySem.W.plainGet K C Str.empty = true
  hd : PySem.W.hasDictIn K C = true
  po : PySem.W.plainOver K C = true
  sa : PySem.W.findIn K (.ref C) "__setattr__" = some (some (.builtin "object.__setattr__"))
theorem Cls.get {K : PySem.W.Frag} {C : Addr} (c : Cls K C) (f : Str) : PySem.W.plainGet K C f = true := c.pg

section
variable {X : Cx} {pins : List (Addr × Obj)} {σ : St} {H : Hp} {s : Shared} {a C dx : Addr} {fs : List (Str × V)} {f : Str} {v : V} {A : Around} {E : Value → Shared → Prop}






end

/-! ### readings and rules -/

section
variable {X : Cx} {o e value : Expr} {f : Str} {pos pos' tpos : Pos} {ta tv : TE}

end

/-! ### isinstance -/
section
variable {X : Cx} {pins : List (Addr × Obj)} {σ : St} {H : Hp} {s : Shared} {A : Around} {E : Value → Shared → Prop} {Q : Value → Shared → Prop} {c : Value} {b : Bool}
/-- the type of a value, as the fragment's deciders take it; for an instance its class -/
inductive TyOf (K : PySem.W.Frag) (H : Hp) : V → Value → Prop where
  | non : TyOf K H .non (.type "NoneType")
  | bl (x : Bool) : TyOf K H (.bl x) (.type "bool")
  | int (i : Int) : TyOf K H (.int i) (.type "int")
  | str (x : Str) : TyOf K H (.str x) (.type "str")
  | flt (x : UInt64) : TyOf K H (.flt x) (.type "float")
  | lst {a : Addr} {xs : List V} (e : H a = some (.lst xs)) : TyOf K H (.ref a) (.type "list")
  | frz {a : Addr} {o : Obj} {xs : List V} (e : H a = some (.frz o (.lst xs))) : TyOf K H (.ref a) (.type "list")
  | tup {a : Addr} {xs : List V} (e : H a = some (.tup xs)) : TyOf K H (.ref a) (.type "tuple")
  | dK {a : Addr} {kvs : List (Key × V)} (e : H a = some (.dK kvs)) : TyOf K H (.ref a) (.type "dict")
  | dT {a : Addr} {kvs : List (List Key × V)} (e : H a = some (.dT kvs)) : TyOf K H (.ref a) (.type "dict")
  | ins {a C dx : Addr} {fs : List (Str × V)} (e : H a = some (.ins C dx fs)) (cl : Cls K C) (ha : PySem.W.findIn K (.ref C) "__class__" = some (some (.builtin "object.__class__")))
      (hn : PySem.W.specialIn K (.builtin "object.__class__") "__get__" = some (some (.builtin "getset_descriptor.__get__"))) (htk : PySem.W.takesIn K (.builtin "object.__class__") = some true)
      (hm : PySem.W.mroIn K C (.type "object") = some true) : TyOf K H (.ref a) (.ref C)
/-- isinstance(x, c) for one class c, a built-in or an own one: kitOne's answer -/
theorem isinst_ok {x : V} {u t : Value} (I : Inv X pins σ H s) (rx : RelV x u) (ty : TyOf X.K H x t) (e : PySem.W.kitOne X.K t c = some b) (h : ∀ tk, Q (.bool b) { s with toks := tk }) :
    wpAny (model X.prog X.w) A (call (.builtin "isinstance") [u, c]) Q E s := by
  cases ty with
  | non => cases (show u = Value.none from rx); exact PySem.W.kia_one PySem.W.kitx_none I.kIn True.intro e (fun z => nomatch z) h
  | bl y => cases (show u = Value.bool y from rx); exact PySem.W.kia_one PySem.W.kitx_bool I.kIn True.intro e (fun z => nomatch z) h
  | int i => obtain ⟨t, q⟩ := (show ∃ t, u = Value.int i t from rx); cases q; exact PySem.W.kia_one PySem.W.kitx_int I.kIn True.intro e (fun z => nomatch z) h
  | str y => obtain ⟨t, q⟩ := (show ∃ t, u = Value.str y t from rx); cases q; exact PySem.W.kia_one PySem.W.kitx_str I.kIn True.intro e (fun z => nomatch z) h
  | flt y => obtain ⟨t, q⟩ := (show ∃ t, u = Value.float y t from rx); cases q; exact PySem.W.kia_one PySem.W.kitx_float I.kIn True.intro e (fun z => nomatch z) h
  | @lst a xs ea =>
    cases (show u = Value.ref a from rx)
    obtain ⟨_, _, n, _, h1⟩ := (show ObjOk X.prog X.w H s.heap a (.lst xs) from I.hok a _ ea)
    exact PySem.W.kia_one PySem.W.kitx_list I.kIn ⟨_, h1, rfl⟩ e (fun z => nomatch z) h
  | @frz a ob xs ea =>
    cases (show u = Value.ref a from rx)
    obtain ⟨_, _, _, n, _, h1⟩ := (show ObjOk X.prog X.w H s.heap a (.frz ob (.lst xs)) from I.hok a _ ea)
    exact PySem.W.kia_one PySem.W.kitx_list I.kIn ⟨_, h1, rfl⟩ e (fun z => nomatch z) h
  | @tup a xs ea =>
    cases (show u = Value.ref a from rx)
    obtain ⟨_, _, _, p⟩ := (show ObjOk X.prog X.w H s.heap a (.tup xs) from I.hok a _ ea)
    obtain ⟨o, h1, h2, _⟩ := p
    exact PySem.W.kia_one PySem.W.kitx_tuple I.kIn ⟨o, h1, h2⟩ e (fun z => nomatch z) h
  | @dK a kvs ea =>
    cases (show u = Value.ref a from rx)
    obtain ⟨_, _, vs, _, p⟩ := (show ObjOk X.prog X.w H s.heap a (.dK kvs) from I.hok a _ ea)
    obtain ⟨o, es, ep, h1, h2, _⟩ := p
    exact PySem.W.kia_one PySem.W.kitx_dict I.kIn ⟨o, h1, h2.1⟩ e (fun z => nomatch z) h
  | @dT a kvs ea =>
    cases (show u = Value.ref a from rx)
    obtain ⟨_, _, xs, _, o, es, ep, h1, h2, _⟩ := (show ObjOk X.prog X.w H s.heap a (.dT kvs) from I.hok a _ ea)
    exact PySem.W.kia_one PySem.W.kitx_dict I.kIn ⟨o, h1, h2.1⟩ e (fun z => nomatch z) h
  | @ins a C dx fs ea cl ha hn htk hm =>
    cases (show u = Value.ref a from rx)
    obtain ⟨mA, O, _⟩ := ins_get I.hok ea
    obtain ⟨od, J, _⟩ := O.look
    exact PySem.W.kia_one (PySem.W.kitx_own (cl.get _) cl.hd ha hn htk hm) I.kIn J e (fun z => nomatch z) h
end
end L2

namespace L2
open PySem PySem.Spec PyProof.Rows

/-! ### room -/
structure Room (k : Nat) (A : Around) : Prop where
  hd : A.handled = none
  dp : A.depth + 3 * k + 5 < recursionLimit
  un : A.units + 16 * k + 200 < cLine
theorem Room.mono {j k : Nat} {A : Around} (r : Room k A) (h : j ≤ k) : Room j A := ⟨r.hd, by have := r.dp; omega, by have := r.un; omega⟩
theorem Room.deeper {k : Nat} {A : Around} (r : Room (k + 1) A) (env : Env) : Room k (A.deeper env) :=
  ⟨r.hd, by have := r.dp; show A.depth + 1 + 3 * k + 5 < _; omega, by have := r.un; show A.units + 3 + 16 * k + 200 < _; omega⟩
theorem Room.depth {k : Nat} {A : Around} (r : Room k A) : A.depth < recursionLimit := by have := r.dp; omega
theorem Room.units {k : Nat} {A : Around} (r : Room k A) : A.units + 64 < cLine := by have := r.un; omega

/-! ### argument lists and displays -/
noncomputable def tNil : TA := fun _ H Q => Q [] H
noncomputable def tCons (ta : TE) (tr : TA) : TA := fun σ H Q => ta σ H fun x H1 => tr σ H1 fun xs H2 => Q (x :: xs) H2
section
variable {X : Cx} {e : Expr} {es : List Expr} {te : TE} {t : TA} {pos : Pos}
theorem pa_nil : PA X [] tNil := fun _ _ _ _ H Q I h => Calls.spliced_nil ⟨[], H, I, .nil, h⟩
theorem pa_cons (ha : PE X e te) (hr : PA X es t) (hs : starEach (e :: es) X.env = (false, eval e X.env) :: starEach es X.env := by rfl) : PA X (e :: es) (tCons te t) := by
  intro pos pins s σ H Q I h
  rw [hs]
  show wpAny _ _ (spliced ((false, eval e X.env) :: backTo pos (starEach es X.env))) _ _ s
  refine Calls.spliced_cons (thn (ha pins s σ H _ I h) fun u s1 zz => ?_)
  obtain ⟨x, H1, I1, r1, q1⟩ := zz
  exact thn (hr pos pins s1 σ H1 _ I1 q1) fun us s2 ⟨xs, H2, I2, r2, q2⟩ => ⟨x :: xs, H2, I2, .cons r1 r2, q2⟩

/-- a tuple, a list of written items -/
noncomputable def tTup (t : TA) : TE := fun σ H Q => t σ H fun xs H1 => xs.length ≤ sizeLine ∧ ∀ p, H1 p = none → Q (.ref p) (upd H1 p (.tup xs))
noncomputable def tLst (t : TA) : TE := fun σ H Q => t σ H fun xs H1 => xs.length ≤ sizeLine ∧ ∀ p, H1 p = none → Q (.ref p) (upd H1 p (.lst xs))
theorem pe_tup {x1} (h : PA X es t) : PE X (.Tuple es x1 pos) (tTup t) := by
  intro pins s σ H Q I hq
  refine wpAny_Tuple_spliced (thn (h pos pins s σ H _ I hq) fun us s1 ⟨xs, H1, I1, r, z, q⟩ => ⟨by rw [← r.length]; exact z, ?_⟩)
  have hf : H1 s1.heap.objs.size = none := I1.hok.fresh (Nat.le_refl _)
  refine ⟨.ref s1.heap.objs.size, upd H1 s1.heap.objs.size (.tup xs), I1.laid (t' := s1.toks) (fun b u e => Heap.get?_push_of_some _ e) (Nat.le_refl _) ?_, rfl, q _ hf⟩
  exact ⟨z, us, r, ⟨_, Heap.get?_push_size _ rfl, rfl, _, rfl⟩⟩
theorem pe_lst (h : PA X es t) : PE X (.List es pos) (tLst t) := by
  intro pins s σ H Q I hq
  refine wpAny_List_spliced (thn (h pos pins s σ H _ I hq) fun us s1 ⟨xs, H1, I1, r, z, q⟩ => ⟨by rw [← r.length]; exact z, ?_⟩)
  have hf : H1 s1.heap.objs.size = none := I1.hok.fresh (Nat.le_refl _)
  refine ⟨.ref s1.heap.objs.size, upd H1 s1.heap.objs.size (.lst xs), I1.laid (t' := s1.toks) (fun b u e => Heap.get?_push_of_some _ e) (Nat.le_refl _) ?_, rfl, q _ hf⟩
  exact ⟨z, us, 0, r, Heap.get?_push_size _ rfl⟩
end

/-! ### what a def promises -/
/-- a def's promise: the bound arguments in the parameters' order, the heap, the wanted end, the wanted exception -/
noncomputable abbrev Sp := List V → Hp → VK → XK → Prop
/-- how an exception lies behind a call (file 08 gives it): the callers' frames, abstract heap and state ahead of the call, the wish, the exception, the state -/
noncomputable abbrev CXT := List Env → Hp → Shared → XK → Value → Shared → Prop

/-- the state at a call -/
structure Env0 (P : Program) (w : World) (K : PySem.W.Frag) (mg : Str → Option Value) (base : Heap) (A : Around) (outer : List Env) (s : Shared) (H : Hp) : Prop where
  frames : A.frames = some outer
  mod : Mod K mg base
  bs : ∀ b o, base.get? b = some o → s.heap.get? b = some o ∧ H b = none
  bsz : base.objs.size ≤ s.heap.objs.size
  funs : s.heap.FunFrames base outer
  frf : ∀ b ∈ frs outer, H b = none
  hok : HOk P w H s.heap
  bare : AllBare s.gens
/-- a call's end -/
noncomputable def CE (outer : List Env) (P : Program) (w : World) (H : Hp) (s : Shared) (Q : VK) (u : Value) (s' : Shared) : Prop :=
  ∃ v H', s'.os = s.os ∧ AllBare s'.gens ∧ Un (frs outer) [] H H' s.heap s'.heap ∧ HOk P w H' s'.heap ∧ RelV v u ∧ Q v H'
noncomputable def CR (CX : CXT) (outer : List Env) (P : Program) (w : World) (H : Hp) (s : Shared) (Q : VK) (E : XK) (r : Result) (s' : Shared) : Prop :=
  match r with
  | .ok (.ret u) => CE outer P w H s Q u s'
  | .ok _ => False
  | .error e => CX outer H s E e s'
structure FnOk (P : Program) (w : World) (K : PySem.W.Frag) (mg : Str → Option Value) (base : Heap) (CX : CXT) (k : Nat) (f : Addr) (fd : FuncData) (ps : List Str) (sp : Sp) : Prop where
  len : ∀ vs H Q E, sp vs H Q E → vs.length = ps.length
  run : ∀ (A : Around) (outer : List Env) (s : Shared) (H : Hp) (args : Args) (us : List Value) (vs : List V) (Q : VK) (E : XK), Room k A → Env0 P w K mg base A outer s H → BindsTo s fd args (ps.zip us) → Vals vs us → sp vs H Q E →
    codeAny (model P w) A (.call (.ref f) args) (CR CX outer P w H s Q E) s


section
variable {X : Cx} {pins : List (Addr × Obj)} {σ : St} {H : Hp} {s s' : Shared}
/-- from a body: what a callee wants -/
theorem Inv.env0 (I : Inv X pins σ H s) : Env0 X.prog X.w X.K X.mg X.base X.A X.stack s H :=
  ⟨I.ok.frames, I.ok.mod, I.bs, Nat.le_trans I.ok.bsz I.sz, I.stack, I.stkFree, I.hok, I.bare⟩
/-- behind a call -/
theorem Inv.after {Q : VK} {u : Value} (I : Inv X pins σ H s) (h : CE X.stack X.prog X.w H s Q u s') : EP X pins σ Q u s' := by
  obtain ⟨v, H', os, bare, un, hok, r, q⟩ := h
  obtain ⟨hh, g, d, t, os'⟩ := s'
  obtain rfl : os' = s.os := os
  exact ⟨v, H', I.call (h' := hh) (g' := g) (d' := d) (t' := t) (ch := []) un hok bare (fun b z => absurd z (by simp)), r, q⟩
end

/-! ### calls -/
/-- f(..): the written arguments, then the defaults dvs; E: what is wanted of an exception -/
noncomputable def tCall (sp : Sp) (dvs : List V) (E : XK) (t : TA) : TE := fun σ H Q => t σ H fun vs H1 => sp (vs ++ dvs) H1 Q E

/-- how the parameters are bound: us the positional arguments, kw the keywords' values by name, ds the defaults that fill up -/
noncomputable def Binds (K : PySem.W.Frag) (fd : FuncData) (ps : List Str) (ds : List Value) : Prop :=
  ∀ (s : Shared) (us : List Value), K.In s.heap → (us ++ ds).length = ps.length → BindsTo s fd ⟨us, []⟩ (ps.zip (us ++ ds))
/-- every parameter is given -/
theorem Binds.all {K : PySem.W.Frag} {fd : FuncData} {ps : List Str} (h : ∀ us : List Value, us.length = ps.length → bindArgs fd ⟨us, []⟩ = pure (ps.zip us)) : Binds K fd ps [] := fun s us _ hl => by
  rw [List.append_nil] at hl ⊢
  exact .of_eq (h us hl)

/-- an exception of a callee reaches what this body wants of exceptions -/
noncomputable def Passes (CX : CXT) (X : Cx) (E : XK) : Prop := ∀ (pins : List (Addr × Obj)) (σ : St) (H : Hp) (s : Shared) (e : Value) (s' : Shared), Inv X pins σ H s → CX X.stack H s E e s' → X.xe e s'

section
variable {X : Cx} {CX : CXT} {k : Nat} {f C : Addr} {fd : FuncData} {ps : List Str} {sp : Sp} {dvs : List V} {ds : List Value} {E : XK} {x m : Str} {p pos apos : Pos} {e o : Expr} {es : List Expr} {ta : TE} {t : TA}

/-- the callee runs -/
theorem run_fn {pins : List (Addr × Obj)} {σ : St} {H : Hp} {s : Shared} {Q : VK} {us : List Value} {vs : List V} (F : FnOk X.prog X.w X.K X.mg X.base CX k f fd ps sp) (hr : Room k X.A) (hb : Binds X.K fd ps ds) (hd : Vals dvs ds) (hx : Passes CX X E)
    (I : Inv X pins σ H s) (r : Vals vs us) (h : sp (vs ++ dvs) H Q E) : wpAny (model X.prog X.w) X.A (call (.ref f) us) (EP X pins σ Q) X.xe s := by
  have r2 : Vals (vs ++ dvs) (us ++ ds) := r.append hd
  have hl : (us ++ ds).length = ps.length := by rw [← r2.length]; exact F.len _ _ _ _ h
  refine wpAny_call (codeAny_mono (F.run X.A X.stack s H ⟨us, []⟩ (us ++ ds) (vs ++ dvs) Q E hr I.env0 (hb s us I.kIn hl) r2 h) fun r s' hq => ?_)
  cases r with
  | error e => exact hx pins σ H s e s' I hq
  | ok fl =>
    cases fl with
    | ret u => exact I.after hq
    | next => exact False.elim hq
    | brk => exact False.elim hq
    | cont => exact False.elim hq

theorem pe_call (F : FnOk X.prog X.w X.K X.mg X.base CX k f fd ps sp) (hr : Room k X.A) (hg : Gl X x) (hm : X.mg x = some (.ref f)) (hk : PySem.W.keepIn X.K (.ref f) = true) (hb : Binds X.K fd ps ds) (hd : Vals dvs ds) (hx : Passes CX X E)
    (ha : PA X (e :: es) t) (hdb : (x == ("__debug__" : Str)) = false := by decide) (he : starEach (e :: es) X.env = (false, eval e X.env) :: starEach es X.env := by rfl) (hpl : (backTo pos (starEach es X.env)).any (·.1) = false := by rfl) :
    PE X (.Call (.Name x p) (e :: es) [] pos) (tCall sp dvs E t) := by
  intro pins s σ H Q I h
  refine wpAny_Call_Name_kw (ld_glob I hg hm ?_ hdb)
  refine PySem.W.callWith_K (h₀ := X.base) I.ok.mod.kin hk (thn (ha pos pins s σ H _ I h) fun us s1 ⟨vs, H1, I1, r, q⟩ => ⟨I1.kIn, ?_⟩) he hpl
  exact run_fn F hr hb hd hx I1 r q



end

/-! ### keywords -/
section
variable {X : Cx} {CX : CXT} {k : Nat} {f C : Addr} {fd : FuncData} {ps ks : List Str} {sp : Sp} {E : XK} {x m : Str} {p pos apos kpos : Pos} {e o : Expr} {es : List Expr} {kws : List Keyword} {te ta : TE} {t tk : TA} {nm : Option Str}

variable {g : List Value → List Value → List Value} {gV : List V → List V → List V}
end

/-! ### a def's body keeps its promise -/
/-- names: the parameters first -/
structure FnScope (N P : List Str) (sc : Scope) : Prop where
  kind : sc.kind = .function
  co : sc.isCoroutine = false
  gen : sc.isGenerator = false
  nd : N.Nodup
  pre : N.take P.length = P
  par : ∀ x ∈ P, sc.names.lookup x = some .local ∨ sc.names.lookup x = some .cell
  nofree : ∀ y ∈ sc.names, y.2 ≠ .free

theorem bindL_out {kindOf : Str → Option NameKind} {x : Str} : ∀ {binds : List (Str × Value)} {m : Str → Option Value}, (∀ v, (x, v) ∉ binds) → bindL kindOf binds m x = m x
  | [], _, _ => rfl
  | (n, v) :: r, m, h => by
    unfold bindL
    rw [bindL_out fun w hw => h w (List.mem_cons_of_mem _ hw)]
    split
    · have : x ≠ n := by rintro rfl; exact h v List.mem_cons_self
      simp [this]
    · rfl
theorem bindC_out {kindOf : Str → Option NameKind} {x : Str} : ∀ {binds : List (Str × Value)} {m : Str → Option Value}, (∀ v, (x, v) ∉ binds) → bindC kindOf binds m x = m x
  | [], _, _ => rfl
  | (n, v) :: r, m, h => by
    unfold bindC
    rw [bindC_out fun w hw => h w (List.mem_cons_of_mem _ hw)]
    split
    · rfl
    · have : x ≠ n := by rintro rfl; exact h v List.mem_cons_self
      simp [this]
theorem bindL_get {kindOf : Str → Option NameKind} {x : Str} {v : Value} : ∀ {P : List Str} {vs : List Value} {i : Nat} {m : Str → Option Value}, P.Nodup → P[i]? = some x → vs[i]? = some v → kindOf x = some .local →
    bindL kindOf (P.zip vs) m x = some v
  | [], _, _, _, _, h, _, _ => by simp at h
  | _ :: _, [], _, _, _, _, h, _ => by simp at h
  | p :: P, w :: vs, 0, m, nd, h1, h2, hk => by
    simp at h1 h2; subst h1; subst h2
    show bindL kindOf ((p, w) :: P.zip vs) m p = _
    unfold bindL
    rw [bindL_out fun v hv => (List.nodup_cons.mp nd).1 (List.of_mem_zip hv).1, if_pos hk]
    simp
  | p :: P, w :: vs, i + 1, m, nd, h1, h2, hk => by
    show bindL kindOf ((p, w) :: P.zip vs) m x = _
    unfold bindL
    exact bindL_get (i := i) (List.nodup_cons.mp nd).2 (by simpa using h1) (by simpa using h2) hk
theorem bindC_get {kindOf : Str → Option NameKind} {x : Str} {v : Value} : ∀ {P : List Str} {vs : List Value} {i : Nat} {m : Str → Option Value}, P.Nodup → P[i]? = some x → vs[i]? = some v → kindOf x ≠ some .local →
    bindC kindOf (P.zip vs) m x = some v
  | [], _, _, _, _, h, _, _ => by simp at h
  | _ :: _, [], _, _, _, _, h, _ => by simp at h
  | p :: P, w :: vs, 0, m, nd, h1, h2, hk => by
    simp at h1 h2; subst h1; subst h2
    show bindC kindOf ((p, w) :: P.zip vs) m p = _
    unfold bindC
    rw [bindC_out fun v hv => (List.nodup_cons.mp nd).1 (List.of_mem_zip hv).1, if_neg hk]
    simp
  | p :: P, w :: vs, i + 1, m, nd, h1, h2, hk => by
    show bindC kindOf ((p, w) :: P.zip vs) m x = _
    unfold bindC
    exact bindC_get (i := i) (List.nodup_cons.mp nd).2 (by simpa using h1) (by simpa using h2) hk

/-- the names' values at the entry -/
noncomputable def start (N : List Str) (vs : List V) : St := vs.map some ++ List.replicate (N.length - vs.length) none

/-- the context of a def's body, at its entry; an exception leaves the frame, then lies as CX says -/
noncomputable def cxOf (CX : CXT) (P : Program) (w : World) (K : PySem.W.Frag) (mg : Str → Option Value) (base : Heap) (N : List Str) (qual : Str) (scope : Scope) (f : Addr) (cd : Value) (A : Around) (outer : List Env) (s : Shared) (H : Hp) (E : XK) : Cx where
  prog := P
  w := w
  K := K
  mg := mg
  base := base
  A := A.deeper (envOfC qual scope s.heap.objs.size f cd)
  N := N
  s₀ := s
  H₀ := H
  env := envOfC qual scope s.heap.objs.size f cd
  outer := outer
  stack := envOfC qual scope s.heap.objs.size f cd :: outer
  ex := []
  calm := true
  fn := fun _ => true
  pn := []
  xe := fun e s' => wpAny (model P w) (A.deeper (envOfC qual scope s.heap.objs.size f cd)) (leaving (envOfC qual scope s.heap.objs.size f cd) e) (fun _ s'' => CX outer H s E e s'') (fun e' s'' => CX outer H s E e' s'') s'

theorem cell_has {sc : Scope} {n : Nat} {x : Str} (h : sc.names.lookup x = some .cell) : ∃ c, (cellsFrom n sc.names []).lookup x = some c := by
  have q := PySem.W.cellsFrom_some sc.names n [] (.inl h)
  exact Option.isSome_iff_exists.mp q

theorem inv_start {CX : CXT} {P : Program} {w : World} {K : PySem.W.Frag} {mg : Str → Option Value} {base : Heap} {N ps : List Str} {qual : Str} {scope : Scope} {f : Addr} {cd : Value} {A : Around} {outer : List Env} {s s1 : Shared} {H : Hp} {E : XK} {us : List Value} {vs : List V}
    (S : FnScope N ps scope) (hd : A.handled = none) (e0 : Env0 P w K mg base A outer s H) (hl : vs.length = ps.length) (r : Vals vs us)
    (x : InCallC s s.heap.objs.size (bindL (envOfC qual scope s.heap.objs.size f cd).kindOf (ps.zip us) fun _ => none) (cellsFrom (s.heap.objs.size + 1) scope.names []) (bindC (envOfC qual scope s.heap.objs.size f cd).kindOf (ps.zip us) fun _ => none) s1) :
    Inv (cxOf CX P w K mg base N qual scope f cd A outer s H E) [] (start N vs) H s1 := by
  have hpl : ps.length ≤ N.length := by have := congrArg List.length S.pre; rw [List.length_take] at this; omega
  obtain ⟨h1, tk, rfl, hk⟩ := x.done
  have noA : ∀ b : Addr, b ∉ (cxOf CX P w K mg base N qual scope f cd A outer s H E).ex := fun b z => absurd (show b ∈ ([] : List Addr) from z) (by simp)
  refine ⟨⟨e0.mod, S.kind, rfl, rfl, Nat.le_refl _, fun y z c h1 h2 => ?_, fun y hy => ?_, fun y c _ h => ?_, fun _ => hd, Around.frames_deeper e0.frames, .inr ⟨rfl, rfl⟩, fun b z => absurd z (noA b), e0.bs, e0.bsz, fun b _ _ => noA b, fun b z => absurd z (noA b), e0.funs, e0.frf⟩,
    rfl, e0.bare, Un.kept hk, ⟨_, x.toInCall.ns, fun i y v h1 h2 h3 => ?_⟩, fun y c h => ⟨_, x.cell y c h⟩, e0.hok.fresh (Nat.le_refl _), fun y c h => ?_, fun p hp => absurd (show p ∈ ([] : List (Addr × Obj)) from hp) (by simp), e0.hok.kept hk, ?_⟩
  · exact name_of_addr x.apart (PySem.mem_of_lookup h1) (PySem.mem_of_lookup h2)
  · have hy : scope.names.lookup y = some .cell ∨ scope.names.lookup y = some .free := hy
    rcases hy with hy | hy
    · exact cell_has hy
    · exact absurd rfl (S.nofree _ (PySem.mem_of_lookup hy))
  · exact Nat.le_of_lt (x.above y c (PySem.mem_of_lookup h))
  · have hi : i < vs.length := by
      unfold start at h2
      by_cases hi : i < vs.length
      · exact hi
      · rw [List.getElem?_append_right (by simpa using hi)] at h2
        rw [List.getElem?_replicate] at h2
        split at h2 <;> cases h2
    have ha : vs[i]? = some v := by
      unfold start at h2
      rw [List.getElem?_append_left (by simpa using hi), List.getElem?_map] at h2
      cases e : vs[i]? with
      | none => rw [e] at h2; cases h2
      | some a => rw [e] at h2; cases h2; rfl
    obtain ⟨u, hu, rv⟩ := r.get ha
    have hp : ps[i]? = some y := by
      rw [← S.pre, List.getElem?_take_of_lt (by omega)]; exact h1
    have ndP : ps.Nodup := by rw [← S.pre]; exact S.nd.sublist (List.take_sublist _ _)
    refine ⟨u, rv, ?_⟩
    rcases S.par y (List.mem_of_getElem? hp) with k | k
    · exact .inl ⟨k, bindL_get ndP hp hu k⟩
    · obtain ⟨c, e⟩ := cell_has (n := s.heap.objs.size + 1) k
      refine .inr ⟨.inl k, c, e, ?_⟩
      have q := x.cell y c e
      rw [bindC_get ndP hp hu (by show scope.names.lookup y ≠ _; rw [k]; decide)] at q
      exact q
  · exact e0.hok.fresh (Nat.le_of_lt (x.above y c (PySem.mem_of_lookup h)))
  · unfold start
    show _ = N.length
    rw [List.length_append, List.length_map, List.length_replicate]
    omega

/-- THE RULE: a def (or a method) of the text, by its body. The body's reading t is chosen for each entry; it is run at the parameters' values -/
theorem fn_of {CX : CXT} {P : Program} {w : World} {K : PySem.W.Frag} {mg : Str → Option Value} {base : Heap} {k : Nat} {f : Addr} {name qual : Str} {params : Arguments} {body : List Stmt} {scope : Scope} {dV kV doc pm cdv ct oc : Value} {an od : Option Addr}
    {osl : Array (Option Value)} {N ps : List Str} {sp : Sp} (lk : K.lookup f = some ⟨oc, od, .func (PySem.W.fnOf name qual params body scope dV kV doc pm an cdv ct), osl⟩) (hcd : PySem.W.codeIn K cdv qual = true) (S : FnScope N ps scope)
    (len : ∀ vs H Q E, sp vs H Q E → vs.length = ps.length)
    (hbody : ∀ (A : Around) (outer : List Env) (s : Shared) (H : Hp) (vs : List V) (Q : VK) (E : XK), Room k (A.deeper (envOfC qual scope s.heap.objs.size f cdv)) → sp vs H Q E →
      ∃ t, PSs (cxOf CX P w K mg base N qual scope f cdv A outer s H E) body t ∧ t { nx := fun _ H' => Q .non H', rt := Q } (start N vs) H) :
    FnOk P w K mg base CX (k + 1) f (PySem.W.fnOf name qual params body scope dV kV doc pm an cdv ct) ps sp := by
  refine ⟨len, fun A outer s H args us vs Q E hr e0 hb r hsp => ?_⟩
  have hl := len _ _ _ _ hsp
  have KX : K.In s.heap := e0.mod.kin.keeps fun b o e => (e0.bs b o e).1
  have lim : s.heap.NoLimit := e0.mod.nolimit.keeps fun b o e => (e0.bs b o e).1
  have hkind : ∀ y ∈ ps.zip us, scope.names.lookup y.1 = some .local ∨ (scope.names.lookup y.1 = some .cell ∧ ((cellsFrom (s.heap.objs.size + 1) scope.names []).lookup y.1).isSome = true) := fun ⟨n, v⟩ hy => by
    rcases S.par n (List.of_mem_zip hy).1 with q | q
    · exact .inl q
    · exact .inr ⟨q, PySem.W.cellsFrom_some _ _ _ (.inl q)⟩
  refine codeAny_call_function hr.depth (KX _ _ lk) rfl S.co S.gen rfl (PySem.W.codeRec_of KX hcd) (hb _ _ _ _ ?_)
  refine wpAny_newFunctionEnv_cells S.kind hkind fun env he s1 x => ?_
  subst he
  refine ⟨lim.keeps x.toInCall.keep, codeAny_func ?_⟩
  obtain ⟨t, ht, hq⟩ := hbody A outer s H vs Q E (hr.deeper _) hsp
  have I : Inv (cxOf CX P w K mg base N qual scope f cdv A outer s H E) [] (start N vs) H s1 := inv_start S hr.hd e0 hl r x
  refine wpAny_mono (ht [] s1 (start N vs) H _ I hq) (fun fl s' hs => ?_) fun e s' hs => hs
  have fin : ∀ {σ' : St} {H' : Hp} {v : V} {u : Value}, Inv (cxOf CX P w K mg base N qual scope f cdv A outer s H E) [] σ' H' s' → RelV v u → Q v H' → CE outer P w H s Q u s' :=
    fun {σ' H' v u} J rv q => ⟨v, H', J.os, J.bare, J.base, J.hok, rv, q⟩
  cases fl with
  | ret u =>
    obtain ⟨v, σ', H', J, rv, q⟩ := hs
    exact fin J rv q
  | next =>
    obtain ⟨σ', H', J, q⟩ := hs
    exact fin (v := V.non) (u := Value.none) J rfl q
  | brk =>
    obtain ⟨_, _, _, q⟩ := hs
    exact False.elim q
  | cont =>
    obtain ⟨_, _, _, q⟩ := hs
    exact False.elim q
end L2

namespace L2
open PySem PySem.Spec PyProof.Rows
section
variable {X : Cx} {x : Str} {p pos : Pos} {e : Expr} {es : List Expr} {t : TA} {id T : String} {r : List V → Hp → VK → Prop}

noncomputable def tCB (r : List V → Hp → VK → Prop) (t : TA) : TE := fun σ H Q => t σ H fun vs H1 => r vs H1 Q
/-- f(e, ..), f a built-in function -/
theorem pe_callB (hc : CallR X (.builtin id) r) (hg : Gl X x) (hm : X.mg x = none) (hv : bootBuiltins x = some (.builtin id)) (ha : PA X (e :: es) t) (hn : x ≠ "__name__" := by decide) (hdb : (x == ("__debug__" : Str)) = false := by decide)
    (he : starEach (e :: es) X.env = (false, eval e X.env) :: starEach es X.env := by rfl) (hpl : (backTo pos (starEach es X.env)).any (·.1) = false := by rfl) : PE X (.Call (.Name x p) (e :: es) [] pos) (tCB r t) := by
  intro pins s σ H Q I h
  refine wpAny_Call_Name_kw (ld_blt I hg hm hv ?_ hn hdb)
  exact PyProof.Rows.callWith_builtin1 (thn (ha pos pins s σ H _ I h) fun us s1 ⟨vs, H1, I1, r1, q1⟩ => hc pins s1 σ H1 vs us Q I1 r1 q1) he hpl
/-- T(e, ..), T a built-in type -/
theorem pe_callTy (hc : CallR X (.type T) r) (hg : Gl X x) (hm : X.mg x = none) (hv : bootBuiltins x = some (.type T)) (ha : PA X (e :: es) t) (hn : x ≠ "__name__" := by decide) (hdb : (x == ("__debug__" : Str)) = false := by decide)
    (he : starEach (e :: es) X.env = (false, eval e X.env) :: starEach es X.env := by rfl) (hpl : (backTo pos (starEach es X.env)).any (·.1) = false := by rfl) : PE X (.Call (.Name x p) (e :: es) [] pos) (tCB r t) := by
  intro pins s σ H Q I h
  refine wpAny_Call_Name_kw (ld_blt I hg hm hv ?_ hn hdb)
  exact PyProof.Rows.callWith_type1 (thn (ha pos pins s σ H _ I h) fun us s1 ⟨vs, H1, I1, r1, q1⟩ => hc pins s1 σ H1 vs us Q I1 r1 q1) he hpl
end
end L2

namespace HT
open PySem PyProof.Rows



section
open PySem.SeqAt
open PySem.AutoSeq1 (wpAny_loadPart')
open PySem.MeetsSeq PySem.MeetsSeq2 PySem.MeetsSeq3

end

section
variable {prog : Program} {w : World} {A : Around} {E : Value → Shared → Prop} {s : Shared}



/-! ### t[a:b], not the whole -/

end
end HT

namespace L2
open PySem PySem.Spec PyProof.Rows

/-! ### the parts of a slice -/


section
variable {X : Cx} {e : Expr} {te : TE} {lo hi : Option Expr} {tl th : TO} {pos p2 : Pos}




/-! ### t < u, t + u -/
end
end L2

namespace L2
open PySem PySem.Spec PyProof.Rows

/-! ### places -/
/-- the place that an index of any sign means -/
noncomputable def ixN (n : Nat) (i : Int) : Option Nat := if 0 ≤ i then (if i < n then some i.toNat else none) else if -(n : Int) ≤ i then some (i + n).toNat else none
noncomputable def atI {α : Type} (xs : List α) (i : Int) : Option α := (ixN xs.length i).bind fun j => xs[j]?
theorem ixN_seq {n : Nat} {i : Int} {j : Nat} (h : ixN n i = some j) : seqIndex? i n = some j ∧ j < n ∧ -(n : Int) ≤ i ∧ i < n := by
  unfold ixN at h
  by_cases h0 : 0 ≤ i
  · rw [if_pos h0] at h
    by_cases h1 : i < n
    · rw [if_pos h1] at h
      have e : i.toNat = j := Option.some.inj h
      exact ⟨by rw [seqIndex_of h0 h1, e], by omega, by omega, h1⟩
    · rw [if_neg h1] at h; cases h
  · rw [if_neg h0] at h
    by_cases h1 : -(n : Int) ≤ i
    · rw [if_pos h1] at h
      have e : (i + n).toNat = j := Option.some.inj h
      exact ⟨by rw [seqIndex_neg (by omega) h1, e], by omega, h1, by omega⟩
    · rw [if_neg h1] at h; cases h
theorem atI_get {α : Type} {xs : List α} {i : Int} {v : α} (h : atI xs i = some v) : ∃ j, seqIndex? i xs.length = some j ∧ xs[j]? = some v ∧ j < xs.length ∧ -(xs.length : Int) ≤ i ∧ i < xs.length := by
  unfold atI at h
  cases e : ixN xs.length i with
  | none => rw [e] at h; cases h
  | some j =>
    rw [e] at h
    obtain ⟨h1, h2, h3, h4⟩ := ixN_seq e
    exact ⟨j, h1, h, h2, h3, h4⟩
theorem atI_nat {α : Type} {xs : List α} {j : Nat} {v : α} (h : xs[j]? = some v) : atI xs (j : Int) = some v := by
  have hj : j < xs.length := (List.getElem?_eq_some_iff.mp h).1
  have e : ixN xs.length (j : Int) = some j := by
    unfold ixN
    rw [if_pos (by omega), if_pos (by omega)]; simp
  unfold atI; rw [e]; exact h
theorem atI_last {α : Type} (xs : List α) (v : α) : atI (xs ++ [v]) (-1) = some v := by
  have hl : (xs ++ [v]).length = xs.length + 1 := by simp
  have e : ixN (xs ++ [v]).length (-1) = some xs.length := by
    unfold ixN
    rw [hl, if_neg (by decide), if_pos (by omega)]
    congr 1
    omega
  unfold atI
  rw [e]
  show (xs ++ [v])[xs.length]? = some v
  simp

/-! ### what may be subscripted -/
/-- what stands as an index of a plain subscript -/
noncomputable def PlainIx (b : Expr) : Prop := ∀ o i, subscripted b false o i = operate [o, i] (getItem o i)
/-- a subscript by values -/
noncomputable def IxR (X : Cx) (r : R2) : Prop :=
  ∀ (value slice : Expr) (pins : List (Addr × Obj)) (s : Shared) (σ : St) (H : Hp) (x y : V) (v u : Value) (Q : VK), Inv X pins σ H s → RelV x v → RelV y u → r x y H Q →
    subscripted slice false v u = operate [v, u] (getItem v u) → wpAny (model X.prog X.w) X.A (subscriptTail value slice v u) (EP X pins σ Q) X.xe s
/-- a call of a builtin's method by values: the receiver, the arguments -/
noncomputable def MtR (X : Cx) (id : String) (r : V → List V → Hp → VK → Prop) : Prop :=
  ∀ (pins : List (Addr × Obj)) (s : Shared) (σ : St) (H : Hp) (x : V) (xs : List V) (v : Value) (us : List Value) (Q : VK), Inv X pins σ H s → RelV x v → Vals xs us → r x xs H Q →
    wpAny (model X.prog X.w) X.A (call (.builtin id) (v :: us)) (EP X pins σ Q) X.xe s
section
variable {X : Cx} {a b : Expr} {ta tb : TE} {pos : Pos}
/-- a[b] -/
theorem pe_ix {r : R2} (hr : IxR X r) (ha : PE X a ta) (hb : PE X b tb) (hs : PlainIx b) : PE X (.Subscript a b pos) (tOp r ta tb) := by
  intro pins s σ H Q I h
  exact Subscript_ (binT ha hb I h fun v u s2 x y H2 I2 rx ry q => hr a b pins s2 σ H2 x y v u Q I2 rx ry q (hs _ _))

noncomputable def rIxL (K : PySem.W.Frag) : R2 := fun x y H Q => ∃ p xs i v, x = .ref p ∧ y = .int i ∧ SqL K H p xs ∧ atI xs i = some v ∧ Q v H
noncomputable def rIxT (K : PySem.W.Frag) : R2 := fun x y H Q => ∃ p xs i v, x = .ref p ∧ y = .int i ∧ SqT K H p xs ∧ atI xs i = some v ∧ Q v H
theorem ix_list : IxR X (rIxL X.K) := by
  intro value slice pins s σ H x y v u Q I rx ry h hs
  obtain ⟨p, xs, i, z, rfl, rfl, hq, he, q⟩ := h
  cases rx
  obtain ⟨t, rfl⟩ := ry
  obtain ⟨its, r, pl, hz⟩ := I.list hq
  obtain ⟨j, h1, h2, h3, h4, h5⟩ := atI_get he
  obtain ⟨w, ew, rw'⟩ := r.get h2
  have hl := r.length
  have hn := line63
  have fin : EP X pins σ Q w s := ⟨z, H, I, rw', q⟩
  by_cases h0 : 0 ≤ i
  · have hj : i.toNat = j := by
      rw [seqIndex_of h0 h5] at h1
      exact Option.some.inj h1
    exact item_listR pl.isList h0 (by omega) (by rw [hj]; simpa using ew) fin hs
  · have hj : (i + (its.toArray.size : Int)).toNat = j := by
      rw [seqIndex_neg (by omega) h4] at h1
      rw [List.size_toArray, ← hl]
      exact Option.some.inj h1
    exact subscriptTail_builtinR (x := w) pl.isList.typeIs slot_list_getitem.lookup
      (wpAny_getItem_list_neg (Q := fun r s' => r = w ∧ EP X pins σ Q r s') pl.isList (by omega) (by rw [List.size_toArray] <;> omega) (by omega) (by rw [hj]; simpa using ew) ⟨rfl, fin⟩) hs
theorem ix_tup : IxR X (rIxT X.K) := by
  intro value slice pins s σ H x y v u Q I rx ry h hs
  obtain ⟨p, xs, i, z, rfl, rfl, hq, he, q⟩ := h
  cases rx
  obtain ⟨t, rfl⟩ := ry
  obtain ⟨its, r, pl, hz⟩ := I.tuple hq
  obtain ⟨j, h1, h2, h3, h4, h5⟩ := atI_get he
  obtain ⟨w, ew, rw'⟩ := r.get h2
  have hl := r.length
  have hn := line63
  have fin : EP X pins σ Q w s := ⟨z, H, I, rw', q⟩
  exact subscriptTail_builtinR (x := w) pl.typeIs slot_tuple_getitem.lookup
    (getItem_tuple (j := j) (Q := fun r s' => r = w ∧ EP X pins σ Q r s') pl (by omega) (by omega) (by rw [List.size_toArray, ← hl]; exact h1) (by simpa using ew) ⟨rfl, fin⟩) hs

/-! ### xs[i] = v, any sign -/

/-! ### slices -/

/-! ### in, not in: flat items -/
noncomputable def flatV : V → Bool
  | .non => true
  | .bl _ => true
  | .int _ => true
  | .str _ => true
  | _ => false
/-- == of flat values -/
noncomputable def eqV : V → V → Bool
  | .non, .non => true
  | .bl a, .bl b => a == b
  | .bl a, .int b => (if a then 1 else 0) == b
  | .int a, .bl b => a == (if b then 1 else 0)
  | .int a, .int b => a == b
  | .str a, .str b => a == b
  | _, _ => false
theorem eqAt_V {A : Around} {s : Shared} {y x : V} {u v : Value} (ry : RelV y u) (rx : RelV x v) (fy : flatV y = true) (fx : flatV x = true) : SeqAt.EqAt A s u v (eqV y x) := by
  cases y with
  | non =>
    cases ry
    cases x with
    | non => cases rx; exact SeqAt.EqAt.same _
    | bl b => cases rx; exact SeqAt.EqAt.none_bool b
    | int b => obtain ⟨t, rfl⟩ := rx; exact SeqAt.EqAt.none_int b t
    | str b => obtain ⟨t, rfl⟩ := rx; exact SeqAt.EqAt.none_str b t
    | _ => exact absurd (show false = true from fx) Bool.false_ne_true
  | bl a =>
    cases ry
    cases x with
    | non => cases rx; exact SeqAt.EqAt.bool_none a
    | bl b => cases rx; exact SeqAt.EqAt.bool_bool a b
    | int b => obtain ⟨t, rfl⟩ := rx; exact SeqAt.EqAt.bool_int a b t
    | str b => obtain ⟨t, rfl⟩ := rx; exact SeqAt.EqAt.bool_str a b t
    | _ => exact absurd (show false = true from fx) Bool.false_ne_true
  | int a =>
    obtain ⟨t', rfl⟩ := ry
    cases x with
    | non => cases rx; exact SeqAt.EqAt.int_none a t'
    | bl b => cases rx; exact SeqAt.EqAt.int_bool a t' b
    | int b => obtain ⟨t, rfl⟩ := rx; exact SeqAt.EqAt.int_int a t' b t
    | str b => obtain ⟨t, rfl⟩ := rx; exact SeqAt.EqAt.int_str a t' b t
    | _ => exact absurd (show false = true from fx) Bool.false_ne_true
  | str a =>
    obtain ⟨t', rfl⟩ := ry
    cases x with
    | non => cases rx; exact SeqAt.EqAt.str_none a t'
    | bl b => cases rx; exact SeqAt.EqAt.str_bool a t' b
    | int b => obtain ⟨t, rfl⟩ := rx; exact SeqAt.EqAt.str_int a t' b t
    | str b => obtain ⟨t, rfl⟩ := rx; exact SeqAt.EqAt.str_str a t' b t
    | _ => exact absurd (show false = true from fx) Bool.false_ne_true
  | _ => exact absurd (show false = true from fy) Bool.false_ne_true
/-- the items' answers, read off the values (a value's own answer does not lean on its token) -/
noncomputable def eqU (x : V) (u : Value) : Bool := match u with
  | .none => eqV .non x
  | .bool b => eqV (.bl b) x
  | .int i _ => eqV (.int i) x
  | .str z _ => eqV (.str z) x
  | _ => false
theorem eqU_of {x y : V} {u : Value} (r : RelV y u) (f : flatV y = true) : eqU x u = eqV y x := by
  cases y with
  | non => cases r; rfl
  | bl b => cases r; rfl
  | int i => obtain ⟨t, rfl⟩ := r; rfl
  | str z => obtain ⟨t, rfl⟩ := r; rfl
  | _ => exact absurd (show false = true from f) Bool.false_ne_true
theorem any_eqU {x : V} : ∀ {xs : List V} {us : List Value}, Vals xs us → xs.all flatV = true → us.any (eqU x) = xs.any fun y => eqV y x
  | _, _, .nil, _ => rfl
  | y :: xs, u :: us, .cons r t, f => by
    rw [List.all_cons, Bool.and_eq_true] at f
    rw [List.any_cons, List.any_cons, eqU_of r f.1, any_eqU t f.2]
theorem mem_eqAt {A : Around} {s : Shared} {x : V} {v : Value} (rx : RelV x v) (fx : flatV x = true) : ∀ {xs : List V} {us : List Value}, Vals xs us → xs.all flatV = true → ∀ u ∈ us, SeqAt.EqAt A s u v (eqU x u)
  | _, _, .nil, _ => fun u hu => by cases hu
  | y :: xs, u :: us, .cons r t, f => fun u' hu => by
    rw [List.all_cons, Bool.and_eq_true] at f
    rcases List.mem_cons.mp hu with rfl | hu
    · rw [eqU_of r f.1]; exact eqAt_V r rx f.1 fx
    · exact mem_eqAt rx fx t f.2 u' hu
noncomputable def inV (x : V) (xs : List V) : Bool := xs.any fun y => eqV y x
/-- x in a list or tuple of flat items -/
noncomputable def rIn (K : PySem.W.Frag) (neg : Bool) : R2 := fun x y H Q => ∃ p xs, y = .ref p ∧ (SqL K H p xs ∨ SqT K H p xs) ∧ flatV x = true ∧ xs.all flatV = true ∧ Q (.bl (if neg then !inV x xs else inV x xs)) H
theorem op_notIn_seq : OpR X (compareOp .NotIn) (rIn X.K true) := by
  intro pins s σ H x y v u Q I rx ry h
  obtain ⟨p, xs, rfl, hq, fx, fs, q⟩ := h
  cases ry
  rcases hq with hq | hq
  · obtain ⟨its, r, pl, hz⟩ := I.list hq
    refine SeqAt.notIn_listAt (eqU x) pl.isList (fun w hw => mem_eqAt rx fx r fs w (by simpa using hw)) ⟨.bl _, H, I, rfl, ?_⟩
    rw [show its.toArray.any (eqU x) = its.any (eqU x) by simp, any_eqU r fs]
    exact q
  · obtain ⟨its, r, pl, hz⟩ := I.tuple hq
    refine SeqAt.notIn_tupleAt (eqU x) pl (fun w hw => mem_eqAt rx fx r fs w (by simpa using hw)) ⟨.bl _, H, I, rfl, ?_⟩
    rw [show its.toArray.any (eqU x) = its.any (eqU x) by simp, any_eqU r fs]
    exact q

/-! ### len, list(x), tuple(x) of any list or tuple that is read -/
theorem call_len_seq : CallR X (.builtin "len") (fun xs H Q => ∃ p ys, xs = [.ref p] ∧ (SqL X.K H p ys ∨ SqT X.K H p ys) ∧ Q (.int ys.length) H) := by
  intro pins s σ H xs us Q I r h
  obtain ⟨p, ys, rfl, hq, q⟩ := h
  obtain ⟨u, rfl, rx⟩ := vals1 r
  cases rx
  have hn := line63
  rcases hq with hq | hq
  · obtain ⟨its, r', pl, hz⟩ := I.list hq
    have hlen := r'.length
    exact Calls.call_len_list pl.isList (by simp only [List.size_toArray] <;> omega) ⟨.int ys.length, H, I.tok _, ⟨s.toks + 1, by rw [List.size_toArray, hlen]⟩, q⟩
  · obtain ⟨its, r', pl, hz⟩ := I.tuple hq
    have hlen := r'.length
    exact len_tuple pl (by simp only [List.size_toArray] <;> omega) ⟨.int ys.length, H, I.tok _, ⟨s.toks + 1, by rw [List.size_toArray, hlen]⟩, q⟩
theorem call_list_of : CallR X (.type "list") (fun xs H Q => ∃ p ys, xs = [.ref p] ∧ (SqL X.K H p ys ∨ SqT X.K H p ys) ∧ ∀ l, H l = none → Q (.ref l) (upd H l (.lst ys))) := by
  intro pins s σ H xs us Q I r h
  obtain ⟨p, ys, rfl, hq, q⟩ := h
  obtain ⟨u, rfl, rx⟩ := vals1 r
  cases rx
  have fin : ∀ (its : List Value), Vals ys its → ys.length ≤ sizeLine → ∀ (h' : Heap) (c' : Nat), (∀ b o', s.heap.get? b = some o' → h'.get? b = some o') →
      h'.get? s.heap.objs.size = some { cls := .type "list", dict := none, data := .seq its.toArray c', slots := #[] } → EP X pins σ Q (.ref s.heap.objs.size) { s with heap := h' } := fun its r' hz h' c' kp e =>
    ⟨.ref s.heap.objs.size, _, I.laid (t' := s.toks) kp (Nat.le_refl _) (show ObjOk X.prog X.w _ h' _ (.lst ys) from ⟨hz, its, c', r', e⟩), rfl, q _ (I.hok.fresh (Nat.le_refl _))⟩
  rcases hq with hq | hq
  · obtain ⟨its, r', pl, hz⟩ := I.list hq
    have hlen := r'.length
    obtain ⟨o, ho, hc, n, hd⟩ := pl.isList
    exact call_list_seq p (.inl rfl) ho hc hd (fun h' c' kp e => fin its r' hz h' c' kp e) (by simp only [List.size_toArray] <;> omega)
  · obtain ⟨its, r', pl, hz⟩ := I.tuple hq
    have hlen := r'.length
    obtain ⟨o, ho, hc, n, hd⟩ := pl
    exact call_list_seq p (.inr rfl) ho hc hd (fun h' c' kp e => fin its r' hz h' c' kp e) (by simp only [List.size_toArray] <;> omega)

/-! ### the call of a builtin's method: o.m(..) -/
/-- the value is of that builtin type -/
noncomputable def tyV (K : PySem.W.Frag) (T : String) (x : V) (H : Hp) : Prop := match x with
  | .str _ => T = "str"
  | .int _ => T = "int"
  | .ref p => (T = "list" ∧ ∃ xs, SqL K H p xs) ∨ (T = "tuple" ∧ ∃ o, K.lookup p = some o ∧ o.cls = .type "tuple" ∧ o.dict = none) ∨
      (T = "dict" ∧ ((∃ kvs, H p = some (.dK kvs)) ∨ ∃ kvs, H p = some (.dT kvs))) ∨ (T = "set" ∧ ∃ S n, H p = some (.set S n))
  | _ => False
theorem tyV_is {pins : List (Addr × Obj)} {σ : St} {H : Hp} {s : Shared} {T : String} {x : V} {v : Value} (I : Inv X pins σ H s) (r : RelV x v) (ty : tyV X.K T x H) :
    s.TypeIs v T ∧ ∀ a, v = .ref a → ∃ ob, s.heap.get? a = some ob ∧ ob.dict = none := by
  cases x with
  | str z =>
    obtain ⟨t, rfl⟩ := r
    cases (show T = "str" from ty)
    exact ⟨typeIs_str s z t, fun _ e => nomatch e⟩
  | int i =>
    obtain ⟨t, rfl⟩ := r
    cases (show T = "int" from ty)
    exact ⟨typeIs_int s i t, fun _ e => nomatch e⟩
  | ref p =>
    cases r
    rcases ty with ⟨rfl, xs, hq⟩ | ⟨rfl, o, hk, hc, hd⟩ | ⟨rfl, hk⟩ | ⟨rfl, S, n, hk⟩
    · obtain ⟨its, _, pl, _⟩ := I.list hq
      refine ⟨pl.isList.typeIs, fun a e => ?_⟩
      cases e
      obtain ⟨o, n, e, c, hd, _⟩ := pl
      exact ⟨o, e, hd⟩
    · refine ⟨⟨o, I.kIn p o hk, hc⟩, fun a e => ?_⟩
      cases e
      exact ⟨o, I.kIn _ o hk, hd⟩
    · have z : ∃ o, s.heap.get? p = some o ∧ o.ExactDict := by
        rcases hk with ⟨kvs, hk⟩ | ⟨kvs, hk⟩
        · obtain ⟨_, _, _, _, o, _, _, e, ex, _⟩ := I.hok p _ hk
          exact ⟨o, e, ex⟩
        · obtain ⟨_, _, _, _, o, _, _, e, ex, _⟩ := I.hok p _ hk
          exact ⟨o, e, ex⟩
      obtain ⟨o, e, ex⟩ := z
      refine ⟨⟨o, e, ex.1⟩, fun a e2 => ?_⟩
      cases e2
      exact ⟨o, e, ex.2.1⟩
    · obtain ⟨o, _, _, _, e, ex, _⟩ := I.hok p _ hk
      refine ⟨⟨o, e, ex.1⟩, fun a e2 => ?_⟩
      cases e2
      exact ⟨o, e, ex.2.1⟩
  | _ => exact False.elim ty
noncomputable def tBM (K : PySem.W.Frag) (T : String) (r : V → List V → Hp → VK → Prop) (to : TE) (t : TA) : TE := fun σ H Q => to σ H fun x H1 => tyV K T x H1 ∧ t σ H1 fun xs H2 => r x xs H2 Q
variable {o e : Expr} {es : List Expr} {to : TE} {t : TA} {name : Str} {apos cpos : Pos} {T id : String} {r : V → List V → Hp → VK → Prop}
theorem pe_bm (pa : PlainAttrs T) (slot : Slot T name id) (hty : typeOf (.builtin id) = pure (.type "method_descriptor")) (hm : MtR X id r) (ho : PE X o to) (ha : PA X (e :: es) t)
    (hbase : attributeBase o name X.env (eval o X.env) = eval o X.env := by rfl)
    (hfew : ((backTo cpos (starEach (e :: es) X.env)).all (fun x => !x.1) && (backToKw cpos (keywordEach [] X.env)).all (fun x => x.1.isSome)
      && decide ((e :: es).length + ([] : List Keyword).length + (if ([] : List Keyword).isEmpty then 0 else 1) < 30)) = true := by rfl)
    (hline : (apos.endLine == cpos.line) = true := by rfl) (hs : starEach (e :: es) X.env = (false, eval e X.env) :: starEach es X.env := by rfl) (hplain : (backTo cpos (starEach es X.env)).any (·.1) = false := by rfl) :
    PE X (.Call (.Attribute o name apos) (e :: es) [] cpos) (tBM X.K T r to t) := by
  intro pins s σ H Q I h
  refine wpAny_Call_method_late hbase hfew hline rfl (thn (ho pins s σ H _ I h) fun v s1 zz => ?_)
  obtain ⟨x, H1, I1, r1, ty, q1⟩ := zz
  obtain ⟨h1, h2⟩ := tyV_is I1 r1 ty
  refine ⟨T, id, pa, slot, hty, h1, h2, ?_⟩
  have hA := ha cpos pins s1 σ H1 _ I1 q1
  rw [hs] at hA ⊢
  refine Calls.callWith_builtin (by show (false || (backTo cpos (starEach es X.env)).any (·.1)) = false; rw [hplain] <;> rfl) (Calls.evalArgs_plain ?_)
  exact thn hA fun us s2 ⟨vs, H2, I2, r2, q2⟩ => hm pins s2 σ H2 x vs v us Q I2 r1 r2 q2
/- xs.append(e), list.index on a module's tuple .. are MtR facts of 06m -/
end
end L2

namespace L2
open PySem PySem.Spec PyProof.Rows

noncomputable def MtM (X : Cx) (id : String) (r : V → List V → Hp → VK → Prop) : Prop :=
  ∀ (pins : List (Addr × Obj)) (s : Shared) (σ : St) (H : Hp) (x : V) (xs : List V) (v : Value) (us : List Value) (Q : VK), Inv X pins σ H s → RelV x v → Vals xs us → r x xs H Q →
    wpAny (model X.prog X.w) X.A (call (.builtin id) (v :: us)) (EP X pins σ Q) X.xe s

/-! ### lists of values -/
theorem Vals.one {x : V} {us : List Value} (h : Vals [x] us) : ∃ u, us = [u] ∧ RelV x u := by
  cases h with | cons r h => cases h with | nil => exact ⟨_, rfl, r⟩
theorem Vals.two {x y : V} {us : List Value} (h : Vals [x, y] us) : ∃ u v, us = [u, v] ∧ RelV x u ∧ RelV y v := by
  cases h with | cons r h => cases h with | cons q h => cases h with | nil => exact ⟨_, _, rfl, r, q⟩
theorem Vals.reverse {xs : List V} {us : List Value} (h : Vals xs us) : Vals xs.reverse us.reverse := by
  induction h with
  | nil => exact .nil
  | cons r t ih => rw [List.reverse_cons, List.reverse_cons]; exact Vals.append ih (.cons r .nil)
theorem Vals.rep {xs : List V} {us : List Value} (h : Vals xs us) : ∀ k : Nat, Vals (List.replicate k xs).flatten (List.replicate k us).flatten
  | 0 => .nil
  | k + 1 => by
    rw [List.replicate_succ, List.replicate_succ, List.flatten_cons, List.flatten_cons]
    exact Vals.append h (Vals.rep h k)
theorem foldl_rep (its : List Value) : ∀ (k : Nat) (acc : List Value),
    List.foldl (fun x1 x2 => x1 ++ x2) acc.toArray (List.replicate k its.toArray) = (acc ++ (List.replicate k its).flatten).toArray
  | 0, acc => by simp
  | k + 1, acc => by
    have e : acc.toArray ++ its.toArray = (acc ++ its).toArray := by simp
    have e2 : (acc ++ its) ++ (List.replicate k its).flatten = acc ++ (List.replicate (k + 1) its).flatten := by
      rw [List.replicate_succ, List.flatten_cons, List.append_assoc]
    rw [← e2, ← foldl_rep its k (acc ++ its), ← e, List.replicate_succ, List.foldl_cons]

section
variable {X : Cx} {pins : List (Addr × Obj)} {σ : St} {H : Hp} {s : Shared} {l b : Addr} {xs ys zs : List V}

/-! ### the two steps: a tracked list is rewritten, a new list is laid -/
theorem Inv.lset {its its' : List Value} {n : Nat} {f : Array Value → Array Value} {t' : Nat} (I : Inv X pins σ H s) (hH : H l = some (.lst xs))
    (e : s.heap.get? l = some { cls := .type "list", data := .seq its.toArray n }) (hf : f its.toArray = its'.toArray) (hv : Vals ys its') (hz : ys.length ≤ sizeLine) :
    Inv X pins σ (upd H l (.lst ys)) { s with heap := s.heap.update l (Obj.mapSeq f), toks := t' } := by
  have q := PySem.IsL.update e f
  rw [hf] at q
  refine I.write (x := l) (e := l) (by rw [hH]; exact trivial) (.inl rfl) (fun b' u hb hu => (Heap.get?_update_other s.heap (Obj.mapSeq f) (Ne.symm hb)).trans hu) ⟨_, q⟩ ?_
  exact ⟨hz, its', _, hv, q⟩
theorem Inv.lnew {its : List Value} {t' : Nat} (I : Inv X pins σ H s) (hv : Vals ys its) (hz : ys.length ≤ sizeLine) :
    Inv X pins σ (upd H s.heap.objs.size (.lst ys)) { s with heap := s.heap.push { cls := .type "list", data := .seq its.toArray }, toks := t' } :=
  I.laid (fun _ _ q => Heap.get?_push_of_some _ q) (Nat.le_refl _) ⟨hz, its, 0, hv, Heap.get?_push_size _ rfl⟩
theorem Inv.fresh (I : Inv X pins σ H s) : H s.heap.objs.size = none := I.hok.fresh (Nat.le_refl _)
theorem Inv.lstM (I : Inv X pins σ H s) (hH : H l = some (.lst xs)) : xs.length ≤ sizeLine ∧ ∃ (its : List Value) (n : Nat), Vals xs its ∧ xs.length = its.length ∧ s.heap.get? l = some { cls := .type "list", data := .seq its.toArray n } := by
  obtain ⟨z, its, n, r, e⟩ := I.hok l _ hH
  exact ⟨z, its, n, r, r.length, e⟩

theorem notLongL {n : Nat} (h : n ≤ sizeLine) : Builtin.List.listTooLong n = false := by
  unfold Builtin.List.listTooLong
  exact decide_eq_false (by omega)
end

section
variable {X : Cx}

/-! ### methods -/
noncomputable def rAppend : V → List V → Hp → VK → Prop := fun x vs H Q => ∃ l xs y, x = .ref l ∧ vs = [y] ∧ H l = some (.lst xs) ∧ xs.length < sizeLine ∧ Q .non (upd H l (.lst (xs ++ [y])))
theorem mt_append : MtM X "list.append" rAppend := by
  intro pins s σ H x vs v us Q I rx rv h
  obtain ⟨l, xs, y, rfl, rfl, hH, hz, q⟩ := h
  cases rx
  obtain ⟨u, rfl, ru⟩ := rv.one
  obtain ⟨z, its, n, r, hl, e⟩ := I.lstM hH
  refine call_meets F.slot_list_append ⟨_, e, rfl⟩ F.entry_list_append (F.args_list_append_2 _ _) (PySem.list_append l its.toArray n u (by rw [List.size_toArray]; omega)) ⟨e, ?_⟩
  refine ⟨.non, _, I.lset (its' := its ++ [u]) hH e (by simp) (r.append (.cons ru .nil)) ?_, rfl, q⟩
  rw [List.length_append, List.length_singleton]
  omega






/-! ### list + list, list += list, list * int -/
noncomputable def rCat : R2 := fun x y H Q => ∃ l b xs zs, x = .ref l ∧ y = .ref b ∧ H l = some (.lst xs) ∧ H b = some (.lst zs) ∧ xs.length + zs.length ≤ sizeLine ∧ ∀ p, H p = none → Q (.ref p) (upd H p (.lst (xs ++ zs)))
theorem op_cat : OpR X (binaryOp .Add) rCat := by
  intro pins s σ H x y v u Q I rx ry h
  obtain ⟨l, b, xs, zs, rfl, rfl, hH, hB, hz, q⟩ := h
  cases rx
  cases ry
  obtain ⟨z, its, n, r, hl, e⟩ := I.lstM hH
  obtain ⟨z2, its2, n2, r2, hl2, e2⟩ := I.lstM hB
  refine PySem.P.add_list e e2 ?_ (by rw [List.size_toArray, List.size_toArray]; omega)
  have ea : its.toArray ++ its2.toArray = (its ++ its2).toArray := by simp
  rw [ea]
  exact ⟨.ref _, _, I.lnew (t' := s.toks) (r.append r2) (by rw [List.length_append]; omega), rfl, q _ I.fresh⟩
/-- a list times an int (a negative one is nothing) -/
noncomputable def rRep : R2 := fun x y H Q => ∃ l k xs, x = .ref l ∧ y = .int k ∧ H l = some (.lst xs) ∧ -(2 ^ 63) ≤ k ∧ k < 2 ^ 63 ∧ xs.length * k.toNat ≤ sizeLine ∧
  ∀ p, H p = none → Q (.ref p) (upd H p (.lst (List.replicate k.toNat xs).flatten))
theorem len_rep {α : Type} (xs : List α) (k : Nat) : (List.replicate k xs).flatten.length = k * xs.length := by
  induction k with
  | zero => simp
  | succ k ih => rw [List.replicate_succ, List.flatten_cons, List.length_append, ih, Nat.succ_mul, Nat.add_comm]
theorem op_rep : OpR X (binaryOp .Mult) rRep := by
  intro pins s σ H x y v u Q I rx ry h
  obtain ⟨l, k, xs, rfl, rfl, hH, h1, h2, hz, q⟩ := h
  cases rx
  obtain ⟨t, rfl⟩ := ry
  obtain ⟨z, its, n, r, hl, e⟩ := I.lstM hH
  have hlen : its.toArray.size * k.toNat ≤ sizeLine := by rw [List.size_toArray, ← hl]; exact hz
  have hcap : ¬ its.toArray.size * k.toNat > (2 ^ 63 - 1) / 8 := by
    have : (sizeLine : Nat) ≤ (2 ^ 63 - 1) / 8 := by decide
    omega
  have hfit : ¬ (!Builtin.List.listFitsIndex k) = true := by
    rw [fitsIndex_both h1 h2]
    exact Bool.false_ne_true
  have hlong : ¬ Builtin.List.listTooLong (its.toArray.size * k.toNat) = true := by
    rw [notLongL hlen]
    exact Bool.false_ne_true
  have hnew : List.foldl (fun x1 x2 => x1 ++ x2) #[] (List.replicate (if its.toArray.isEmpty = true then 0 else k.toNat) its.toArray) = (List.replicate k.toNat its).flatten.toArray := by
    have f0 : ∀ m : Nat, List.foldl (fun x1 x2 => x1 ++ x2) #[] (List.replicate m its.toArray) = (List.replicate m its).flatten.toArray := fun m => by
      have := foldl_rep its m []
      rw [List.nil_append] at this
      exact this
    rw [f0]
    cases its with
    | nil => simp
    | cons a r' => rw [if_neg (by simp)]
  refine wpAny_binaryOp_repeat_ref (T := "list") (U := "int") (by decide) ⟨_, e, rfl⟩ (fun s' => typeIs_int s' k t) noFill_list_mul F.fills_int_mul F.slot_int_rmul repeat_list F.slot_int_index.lookup
    (call_meets F.slot_int_rmul (typeIs_int s k t) F.entry_int_rmul (F.args_int_rmul_2 _ _) (int___rmul___int_list k t l its.toArray n)
      ⟨e, rfl, ⟨_, e, rfl⟩, call_meets F.slot_list_mul ⟨_, e, rfl⟩ F.entry_list_mul (F.args_list_mul_2 _ _) (AutoListH.list___mul___list_int_3 l its.toArray n k t hfit hcap hlong) ⟨e, ?_⟩⟩)
  rw [hnew]
  exact ⟨.ref _, _, I.lnew (t' := s.toks) (r.rep k.toNat) (by rw [len_rep, Nat.mul_comm]; exact hz), rfl, q _ I.fresh⟩

/-! ### del xs[i] -/
end

/-! ### xs[a:b] = ys -/
section
variable {prog : Program} {w : World} {A : Around} {E : Value → Shared → Prop} {s : Shared}
set_option maxRecDepth 100000 in
end

section
variable {X : Cx}
end
end L2


namespace L2
open PySem PySem.Spec PyProof.Rows

/-! ### lists of pairs as tables -/
section
variable {κ : Type} [DecidableEq κ]
noncomputable def valV (kvs : List (κ × V)) (k : κ) : Option V := (kvs.find? fun kv => decide (kv.1 = k)).map (·.2)

theorem valV_pos {p : κ × V} {r : List (κ × V)} {k : κ} (e : p.1 = k) : valV (p :: r) k = some p.2 := by simp [valV, List.find?_cons, e]
theorem valV_neg {p : κ × V} {r : List (κ × V)} {k : κ} (e : ¬ p.1 = k) : valV (p :: r) k = valV r k := by simp [valV, List.find?_cons, e]

theorem RelO.getD {o : Option V} {u : Option Value} {d : V} {d' : Value} (r : RelO o u) (rd : RelV d d') : RelV (o.getD d) (u.getD d') := by
  cases o with
  | none => cases u with
    | none => exact rd
    | some _ => exact (show False from r).elim
  | some _ => cases u with
    | none => exact (show False from r).elim
    | some _ => exact r

/-- raw tables of the same keys -/
theorem KV.val {kvs : List (κ × V)} {vs : List (κ × Value)} (r : KV kvs vs) (k : κ) : RelO (valV kvs k) (valueAt vs k) := by
  unfold KV at r
  induction r with
  | nil => exact True.intro
  | @cons p q ps qs h t ih =>
    obtain ⟨h1, h2⟩ := h
    by_cases e : p.1 = k
    · have e' : q.1 = k := h1.symm.trans e
      have b : valueAt (q :: qs) k = some q.2 := by simp [valueAt, List.find?_cons, e']
      rw [valV_pos e, b]; exact h2
    · have e' : ¬ q.1 = k := fun z => e (h1.trans z)
      have b : valueAt (q :: qs) k = valueAt qs k := by simp [valueAt, List.find?_cons, e']
      rw [valV_neg e, b]; exact ih
end


/-! ### a tracked dict, its keys ints and texts or tuples of these -/
theorem kV_is {P : Program} {w : World} {k : Key} {u : Value} (r : RelV (kV k) u) : (mixKind P w).is k u = true := by
  cases k with
  | inl i => obtain ⟨t, e⟩ := (show ∃ t, u = Value.int i t from r); subst e; exact mixKind_int P w i t
  | inr x => obtain ⟨t, e⟩ := (show ∃ t, u = Value.str x t from r); subst e; exact mixKind_str P w x t
theorem items_are {P : Program} {w : World} : ∀ {ks : List Key} {us : List Value}, Vals (ks.map kV) us → ItemsAre (mixKind P w) ks us
  | [], _, r => by rw [List.map_nil] at r; cases r; exact .nil
  | k :: ks, _, r => by
    rw [List.map_cons] at r
    cases r with
    | cons h t => exact .cons (kV_is h) (items_are t)

/-- raw entries of a dict with tuple keys -/
noncomputable abbrev KT (H : Hp) : List (List Key × V) → List (List Key × Addr × Value) → Prop := Paired fun p q => p.1 = q.1 ∧ H q.2.1 = some (.tup (p.1.map kV)) ∧ RelV p.2 q.2.2
theorem KT.val {H : Hp} {kvs : List (List Key × V)} {xs : List (List Key × Addr × Value)} (r : KT H kvs xs) (k : List Key) : RelO (valV kvs k) ((atKey xs k).map (·.2)) := by
  induction r with
  | nil => exact True.intro
  | @cons p q ps qs h t ih =>
    obtain ⟨h1, _, h2⟩ := h
    by_cases e : p.1 = k
    · have e' : q.1 = k := h1.symm.trans e
      have b : atKey (q :: qs) k = some q.2 := by simp [atKey, List.find?_cons, e']
      rw [valV_pos e, b]; exact h2
    · have e' : ¬ q.1 = k := fun z => e (h1.trans z)
      have b : atKey (q :: qs) k = atKey qs k := by simp [atKey, List.find?_cons, e']
      rw [valV_neg e, b]; exact ih

section
variable {P : Program} {w : World} {H : Hp} {h : Heap} {a : Addr}
theorem rd_of {u : HO} (ok : HOk P w H h) (e : Rd H a u) : ObjOk P w H h a u := e.ok ok
theorem dk_rd {kvs : List (Key × V)} (ok : HOk P w H h) (e : Rd H a (.dK kvs)) : kvs.length ≤ sizeLine ∧ (a == sysModules) = false ∧ ∃ vs, KV kvs vs ∧ h.DictOf (mixKind P w) a vs :=
  show ObjOk P w H h a (.dK kvs) from rd_of ok e
/-- a tracked tuple of ints and texts is a key -/
theorem key_of {ks : List Key} (ok : HOk P w H h) (e : H a = some (.tup (ks.map kV))) : (tupleKind (mixKind P w)).is h ks a := by
  obtain ⟨_, its, r, o, h1, h2, n, h3⟩ := (show ObjOk P w H h a (.tup (ks.map kV)) from ok a _ e)
  exact ⟨o, its.toArray, n, h1, h2, h3, by simpa using items_are r⟩
theorem dt_rd {kvs : List (List Key × V)} (ok : HOk P w H h) (e : Rd H a (.dT kvs)) : kvs.length ≤ sizeLine ∧ (a == sysModules) = false ∧
    ∃ xs, KT H kvs xs ∧ h.DictOfH (tupleKind (mixKind P w)) a xs := by
  obtain ⟨z, y, xs, r, o, es, ep, h1, h2, h3, h4, h5⟩ := (show ObjOk P w H h a (.dT kvs) from rd_of ok e)
  refine ⟨z, y, xs, r, o, es, ep, h1, h2, h3, h4, fun x hx => ?_, h5⟩
  have all : ∀ {l : List (List Key × V)} {m : List (List Key × Addr × Value)}, KT H l m → ∀ x ∈ m, (tupleKind (mixKind P w)).is h x.1 x.2.1 := by
    intro l m q
    induction q with
    | nil => intro x hx; exact nomatch hx
    | @cons p q ps qs hq t ih =>
      intro x hx
      rcases List.mem_cons.mp hx with e | hx
      · subst e
        exact key_of ok (by rw [← hq.1]; exact hq.2.1)
      · exact ih x hx
  exact all r x hx
end

/-- what the dict at a holds at the key y -/
noncomputable def DGet (H : Hp) (a : Addr) (y : V) (r : Option V) : Prop :=
  (∃ kvs k, Rd H a (.dK kvs) ∧ y = kV k ∧ r = valV kvs k) ∨ ∃ kvs k b, Rd H a (.dT kvs) ∧ y = .ref b ∧ H b = some (.tup (k.map kV)) ∧ r = valV kvs k
theorem DGet.k {H : Hp} {a : Addr} {kvs : List (Key × V)} {k : Key} (e : H a = some (.dK kvs)) : DGet H a (kV k) (valV kvs k) := .inl ⟨kvs, k, .inl e, rfl, rfl⟩


section
variable {X : Cx} {pins : List (Addr × Obj)} {σ : St} {H : Hp} {s : Shared} {a : Addr} {y v : V} {u r : Value} {o : Option V} {A : Around} {E : Value → Shared → Prop}

theorem Inv.big (I : Inv X pins σ H s) : sysModules < s.heap.objs.size := by
  have h : mainGlobals < s.heap.objs.size := (I.mod.glob.keeps I.bk).lt
  exact Nat.lt_trans (by decide) h

theorem dk_new {P : Program} {w : World} {H' : Hp} {h' : Heap} {kvs : List (Key × V)} {vs : List (Key × Value)} (z : kvs.length ≤ sizeLine) (hd : (a == sysModules) = false) (rel : KV kvs vs) (dd : h'.DictOf (mixKind P w) a vs) :
    ObjOk P w H' h' a (.dK kvs) := ⟨z, hd, vs, rel, dd⟩
end

section
variable {X : Cx} {pins : List (Addr × Obj)} {σ : St} {H : Hp} {s : Shared} {a : Addr} {kvs : List (Key × V)} {k : Key} {u : Value} {A : Around} {E : Value → Shared → Prop}
end


/-! ### readings and rules -/



section
variable {X : Cx} {o i e value : Expr} {pos pos' tpos : Pos} {td ty tv : TE}
end


/-! ### displays -/
section
variable {X : Cx} {pos : Pos}
end




/-! ### methods -/
structure M2 (X : Cx) (o : Expr) (m : Str) (apos : Pos) (e f : Expr) (cpos : Pos) : Prop where
  base : attributeBase o m X.env (eval o X.env) = eval o X.env
  few : ((backTo cpos (starEach [e, f] X.env)).all (fun x => !x.1) && (backToKw cpos (keywordEach [] X.env)).all (fun x => x.1.isSome)
    && decide (([e, f] : List Expr).length + ([] : List Keyword).length + (if ([] : List Keyword).isEmpty then 0 else 1) < 30)) = true
  line : (apos.endLine == cpos.line) = true
  trees : backTo cpos (starEach [e, f] X.env) = [(false, eval e X.env), (false, eval f X.env)]

/-- a is a dict, whatever its keys -/
noncomputable def IsD (H : Hp) (a : Addr) : Prop := (∃ kvs, Rd H a (.dK kvs)) ∨ ∃ kvs, Rd H a (.dT kvs)
theorem isD_at {X : Cx} {pins : List (Addr × Obj)} {σ : St} {H : Hp} {s : Shared} {a : Addr} (I : Inv X pins σ H s) (d : IsD H a) :
    s.TypeIs (.ref a) "dict" ∧ (∀ b, Value.ref a = .ref b → ∃ ob, s.heap.get? b = some ob ∧ ob.dict = none) ∧ (a == sysModules) = false := by
  rcases d with ⟨kvs, e⟩ | ⟨kvs, e⟩
  · obtain ⟨_, hd, vs, _, dd⟩ := dk_rd I.hok e
    refine ⟨dd.typeIs, fun b q => ?_, hd⟩
    cases q
    obtain ⟨ob, _, _, h1, h2, _⟩ := dd
    exact ⟨ob, h1, h2.2.1⟩
  · obtain ⟨_, hd, xs, _, dd⟩ := dt_rd I.hok e
    refine ⟨dd.typeIs, fun b q => ?_, hd⟩
    cases q
    obtain ⟨ob, _, _, h1, h2, _⟩ := dd
    exact ⟨ob, h1, h2.2.1⟩

section
variable {X : Cx} {pins : List (Addr × Obj)} {σ : St} {H : Hp} {s : Shared} {a : Addr} {y d : V} {u r : Value} {o : Option V} {A : Around} {E : Value → Shared → Prop}
/-- d.get(y, x) -/
theorem d_get2 {Q : Value → Shared → Prop} (hu : A.units + 1 < cLine) (I : Inv X pins σ H s) (g : DGet H a y o) (ry : RelV y u) (rd : RelV d r) (h : ∀ w' s', Inv X pins σ H s' → RelV (o.getD d) w' → Q w' s') :
    wpAny (model X.prog X.w) A (call (.builtin "dict.get") [.ref a, u, r]) Q E s := by
  rcases g with ⟨kvs, k, e, ey, l⟩ | ⟨kvs, k, b, e, ey, eb, l⟩
  · subst ey
    obtain ⟨z, hd, vs, rel, dd⟩ := dk_rd I.hok e
    refine call_meetsIn PySem.F.slot_dict_get dd.typeIs PySem.F.entry_dict_get (PySem.F.args_dict_get_3 _ _ _) (meets_dict_get_default (mixKind X.prog X.w) a (kV_is ry) hd r) ⟨_, dd.mapOf, h _ _ (I.tok _) ?_⟩
    rw [l]
    exact (rel.val k).getD rd
  · subst ey
    cases (show u = Value.ref b from ry)
    obtain ⟨z, hd, xs, rel, dd⟩ := dt_rd I.hok e
    refine call_meetsIn PySem.F.slot_dict_get dd.typeIs PySem.F.entry_dict_get (PySem.F.args_dict_get_3 _ _ _) (meetsH_dict_get_default (tupleKind (mixKind X.prog X.w)) a b hd r) ⟨tupleKind_room_in1 hu, k, xs, key_of I.hok eb, dd, h _ _ (I.tok _) ?_⟩
    rw [l]
    exact (rel.val k).getD rd
end

noncomputable def tDGet2 (td ty tx : TE) : TE := fun σ H Q => td σ H fun x H1 => ∃ a, x = .ref a ∧ IsD H1 a ∧ ty σ H1 fun y H2 => tx σ H2 fun z H3 => ∃ o, DGet H3 a y o ∧ Q (o.getD z) H3
section
variable {X : Cx} {o e f : Expr} {apos cpos : Pos} {td ty tx : TE}
theorem pe_dget2 (hu : X.A.units + 1 < cLine) (ho : PE X o td) (he : PE X e ty) (hf : PE X f tx) (m : M2 X o "get" apos e f cpos) : PE X (.Call (.Attribute o "get" apos) [e, f] [] cpos) (tDGet2 td ty tx) := by
  intro pins s σ H Q I h
  refine wpAny_Call_method m.base m.few m.line PySem.F.plainAttrs_dict PySem.F.slot_dict_get PySem.F.type_dict_get (thn (ho pins s σ H _ I h) fun u s1 zz => ?_)
  obtain ⟨x, H1, I1, rx, a, ex, d, q1⟩ := zz
  subst ex
  obtain rfl : u = Value.ref a := rx
  obtain ⟨t1, t2, _⟩ := isD_at I1 d
  refine ⟨t1, t2, ?_⟩
  rw [m.trees]
  refine Calls.callWith_builtin rfl (Calls.evalArgs_plain (Calls.spliced_cons (thn (he pins s1 σ H1 _ I1 q1) fun iv s2 ⟨y, H2, I2, ry, q2⟩ =>
    Calls.spliced_cons (thn (hf pins s2 σ H2 _ I2 q2) fun fv s3 ⟨z, H3, I3, rz, ov, g, q3⟩ => Calls.spliced_nil ?_))))
  exact d_get2 hu I3 g ry rz fun w' s4 I4 rw' => ⟨_, H3, I4, rw', q3⟩
end

/-! ### dict(d): a copy -/
section
variable {X : Cx} {pins : List (Addr × Obj)} {σ : St} {H : Hp} {s : Shared} {a : Addr} {kvs : List (Key × V)} {A : Around} {E : Value → Shared → Prop}
end


section
variable {X : Cx} {pins : List (Addr × Obj)} {σ : St} {H : Hp} {s : Shared} {a : Addr} {y : V} {u : Value} {A : Around} {E : Value → Shared → Prop}
end
end L2

namespace Att
open PySem PySem.W PySem.Calls PyProof.Rows

/-! ### the script -/
theorem ints_of_wellAll {P : Params} {h : Heap} : ∀ (ns : List Int) (vs : List Value), WellAll P h vs (ns.map WData.int) → IntsAre vs ns := by
  intro ns
  induction ns with
  | nil =>
    intro vs w
    rw [List.map_nil] at w
    cases w
    exact .nil
  | cons n ns ih =>
    intro vs w
    rw [List.map_cons] at w
    cases w with
    | cons a b =>
      cases a
      exact .cons _ _ (ih _ b)

theorem script_of {l : OpenLaw} {n : Nat} (hn : l.most = some n) {P : Params} {h : Heap} {args : List WData} {vals : List Value}
    (hpre : l.row.toRowW.claim.pre args = true) (hwl : WellAll P h vals args) :
    ∃ a vs ns, vals = [Value.ref a] ∧ args = [WData.list (ns.map WData.int)] ∧ h.get? a = some { cls := .type "list", data := .seq vs.toArray } ∧ IntsAre vs ns ∧ ns.length ≤ n := by
  have hsh : WShape.hasAll [] args [.list .int] = true := (pre_splitW hpre).1
  have hc : l.pre.holds [] { args := args } = true := (pre_splitW hpre).2
  obtain ⟨d, r, rfl, h1, h2⟩ := hasAllW_cons hsh
  obtain rfl := hasAllW_nil h2
  obtain ⟨xs, rfl, h3⟩ := hasW_list h1
  obtain ⟨ns, rfl⟩ := items_int h3
  have hlen : ns.length ≤ n := by
    unfold OpenLaw.pre at hc
    have h4 : (WTm.not (.lt (.lit (.int (n : Int))) (.len (.arg 0)))).holds [] { args := [.list (ns.map .int)] } = true := by
      have h4 := (holds_andW hc).1
      rw [hn] at h4
      exact h4
    have h5 := condW_of h4 (w_not (w_lt w_lit (w_len_list (w_arg rfl))))
    rw [List.length_map] at h5
    refine Nat.le_of_not_lt fun q => ?_
    have q' : (n : Int) < ((ns.length : Nat) : Int) := by omega
    first
      | (rw [decide_eq_true q'] at h5; exact absurd h5 (by decide))
      | (simp at h5; omega)
  cases hwl with
  | cons w1 w2 =>
    cases w2
    cases w1 with
    | list ho hall => exact ⟨_, _, ns, rfl, rfl, ho, ints_of_wellAll ns _ hall, hlen⟩

theorem post_true (l : OpenLaw) (args : List WData) : l.row.toRowW.claim.post args (.bool true) args = true :=
  postW_of (r := l.row.toRowW) (X := (true == true))
    (show WShape.has [] (.bool true) .bool = true by first | rfl | decide | simp [WShape.has, WShape.arms, WShape.armsAll])
    (show (WTm.eq .res (.lit (.bool true))).value [] { args := args, res := some (.bool true), after := args } = some (.bool (true == true)) from w_eq_bool (w_res rfl) w_lit) rfl

/-! ### the attachment: holds_open's last premise (the goal 'hc' behind k_head) from a wpAny of the law's body -/

/-- the same from a codeAny of the CALL (for a layer whose function contracts speak of calls) -/
theorem attach_call {l : OpenLaw} {n : Nat} {q : Program} {loose : List Str} {XP : (Str → Option Value) → Heap → Prop} {YP : World → Heap → Prop} {d : DefRec}
    (hn : l.most = some n) (hdf : d.params.defaults = [])
    (call : ∀ (w : World) (s₀ s₁ : Shared) (mg mb : Str → Option Value) (fa : Addr) (o : Obj) (pm cd doc : Value) (a : Addr) (vs : List Value) (ns : List Int),
      Ground q loose [] XP w s₀ mg mb s₁.heap → YP w s₁.heap →
      s₁.heap.get? fa = some o → o.data = .func (docDef d.name d.params d.body d.scope pm cd doc) → s₁.heap.CodeRec cd d.name → mg d.name = some (.ref fa) →
      s₁.heap.get? a = some { cls := .type "list", data := .seq vs.toArray } → IntsAre vs ns → ns.length ≤ n → s₁.gens = #[] →
      codeAny (model l.prog w) callerA (.call (.ref fa) ⟨[.ref a], []⟩) (fun r s' => r = .ok (.ret (.bool true)) ∧ OldK s₁.heap s'.heap ∧ s'.os = s₁.os ∧ AllBare s'.gens) s₁) :
    WalkO q loose XP YP l.row.toRowW d [] (fun f vs => PySem.call f vs) := by
  intro w s₀ s₁ mg mb G Y fa o pm cd doc dV kV ho hd hcd hD hmg hg args vals as hpre hlay hrd hwl hlo
  obtain rfl : dV = .none := Dflts.none hD hdf
  obtain rfl : kV = .none := Dflts.noKw hD
  obtain ⟨a, vs, ns, rfl, rfl, hobj, hints, hlen⟩ := script_of hn hpre hwl
  refine enter_call (codeAny_mono (call w s₀ s₁ mg mb fa o pm cd doc a vs ns G Y ho (fd_plain hd) hcd hmg hobj hints hlen hg) fun r s' hq => ?_)
  obtain ⟨rfl, h2, h3, h4⟩ := hq
  exact ⟨.inl ⟨.bool true, .bool true, [], rfl, fun _ => rfl, .bool true, post_true l _, fun _ => ⟨List.Pairwise.nil, fun _ hm => (nomatch hm)⟩⟩, h2, h3, h4⟩


/-! ### rules over ANY heap (no ledger) from facts about the written part K: the library's own take a ledger (News) for what they write -/
section
variable {prog : Program} {w : World} {A : Around} {E : Value → Shared → Prop} {s : Shared} {K : Frag}





/-! the whole heap as the ledger: makes every rule that writes through a ledger a rule over any heap -/

end
end Att

namespace L2
open PySem PySem.Spec PyProof.Rows

theorem vals_ints : ∀ {vs : List Value} {ns : List Int}, IntsAre vs ns → Vals (ns.map V.int) vs
  | _, _, .nil => .nil
  | _, _, .cons n t h => .cons ⟨t, rfl⟩ (vals_ints h)

/-- nothing is tracked but the script, known to the object (or it is an object of the module) -/
noncomputable def Only (H : Hp) : Prop := ∀ b, H b = none ∨ ∃ o xs, H b = some (.frz o (.lst xs))

/-- THE HEAD: the law's promise, at the heap behind the top. F, the promise of the law's def, may use that base is part of the heap (so K.In base, base.Ns mainGlobals mg stand in Mod) -/
theorem law_call {P : Program} {w : World} {K : PySem.W.Frag} {mg mb : Str → Option Value} {CX : CXT} {k : Nat} {fa a : Addr} {fd : FuncData} {x : Str} {sp : Sp} {s₁ : Shared} {vs : List Value} {ns : List Int}
    (KX : K.In s₁.heap) (hns : s₁.heap.Ns mainGlobals mg) (hb : s₁.heap.Ns builtinsNs mb) (hbb : ∀ x : Str, x ≠ "__name__" → mb x = bootBuiltins x) (hlim : s₁.heap.NoLimit) (hg : s₁.gens = #[])
    (ha : s₁.heap.get? a = some { cls := .type "list", data := .seq vs.toArray }) (hi : IntsAre vs ns) (hl : ns.length ≤ sizeLine) (hr : Room k callerA)
    (F : ∀ base : Heap, K.In base → base.Ns mainGlobals mg → FnOk P w K mg base CX k fa fd [x] sp) (hbind : ∀ (s : Shared) (u : Value), BindsTo s fd ⟨[u], []⟩ [(x, u)])
    (hsp : ∀ H : Hp, Only H → SqL K H a (ns.map V.int) → sp [.ref a] H (fun v _ => v = .bl true) fun _ _ _ => False)
    (hCX : ∀ H e s', CX [] H s₁ (fun _ _ _ => False) e s' → False) :
    codeAny (model P w) callerA (.call (.ref fa) ⟨[.ref a], []⟩) (fun r s' => r = .ok (.ret (.bool true)) ∧ OldK s₁.heap s'.heap ∧ s'.os = s₁.os ∧ AllBare s'.gens) s₁ := by
  have rv := vals_ints hi
  have lenV := hi.length
  -- from an abstract heap in which nothing but the script may be tracked
  have core : ∀ H : Hp, Only H → SqL K H a (ns.map V.int) → HOk P w H s₁.heap → (∀ b, H b ≠ none → b = a) → (H a ≠ none → K.lookup a = none) →
      codeAny (model P w) callerA (.call (.ref fa) ⟨[.ref a], []⟩) (fun r s' => r = .ok (.ret (.bool true)) ∧ OldK s₁.heap s'.heap ∧ s'.os = s₁.os ∧ AllBare s'.gens) s₁ := by
    intro H hO hS hok hA hK
    have base_of : ∀ {b : Addr} {o : Obj}, s₁.heap.get? b = some o → H b = none → (hidT s₁.heap H).get? b = some o := fun e n => hidT_get e n
    have noA : ∀ {b : Addr} {o : Obj} {es : Array DictEntry} {ep : Nat}, s₁.heap.get? b = some o → o.data = .dict es ep → H b = none := fun {b o es ep} e d => by
      cases q : H b with
      | none => rfl
      | some u =>
        have e' : b = a := hA b (by rw [q]; simp)
        subst e'
        rw [ha] at e; cases e
        have d' : Data.seq vs.toArray _ = Data.dict es ep := d
        cases d'
    have nsK : ∀ {b : Addr} {m : Str → Option Value}, s₁.heap.Ns b m → (hidT s₁.heap H).Ns b m := fun {b m} ⟨o, es, ep, e, d, r⟩ => ⟨o, es, ep, base_of e (noA e d), d, r⟩
    have hKb : K.In (hidT s₁.heap H) := fun b o e => base_of (KX b o e) (by
      cases q : H b with
      | none => rfl
      | some u =>
        have e' : b = a := hA b (by rw [q]; simp)
        subst e'
        rw [hK (by rw [q]; simp)] at e; cases e)
    have hM : Mod K mg (hidT s₁.heap H) := ⟨hKb, nsK hns, ⟨mb, nsK hb, hbb⟩, let ⟨mc, h1, h2⟩ := hlim; ⟨mc, nsK h1, h2⟩⟩
    have e0 : Env0 P w K mg (hidT s₁.heap H) callerA [] s₁ H := ⟨rfl, hM, fun b o e => of_hidT e, Nat.le_of_eq (hidT_size _ _), trivial, fun b hb => absurd (show b ∈ ([] : List Addr) from hb) (by simp), hok, .of_eq hg⟩
    refine codeAny_mono ((F _ hKb (nsK hns)).run callerA [] s₁ H ⟨[.ref a], []⟩ [.ref a] [.ref a] _ _ hr e0 (hbind s₁ (.ref a)) (.cons rfl .nil) (hsp H hO hS)) fun r s' h => ?_
    cases r with
    | error e => exact (hCX H e s' h).elim
    | ok fl =>
      cases fl with
      | next => exact False.elim h
      | brk => exact False.elim h
      | cont => exact False.elim h
      | ret u =>
        obtain ⟨v, H', os, bare, un, hok', r', q⟩ := h
        have q' : v = .bl true := q
        subst q'
        obtain rfl : u = Value.bool true := r'
        refine ⟨rfl, OldK.of_keep fun b o e => ?_, os, bare⟩
        cases q : H b with
        | none => exact un.keep b o e q (by intro z; exact absurd (show b ∈ ([] : List Addr) from z) (by simp)) (by simp)
        | some u =>
          rcases hO b with z | ⟨ob, xs, z⟩
          · rw [q] at z; cases z
          · have z2 := un.frzs b ob _ z
            obtain ⟨e1, _⟩ := hok b _ z
            obtain ⟨e2, _⟩ := hok' b _ z2
            rw [e] at e1; cases e1
            exact e2
  cases hk : K.lookup a with
  | some o =>
    -- the script is one of the module's own objects
    have e := KX a o hk
    rw [ha] at e
    cases e
    refine core (fun _ => none) (fun _ => .inl rfl) (.inr ⟨_, vs.toArray, _, hk, rfl, rfl, rfl, by rw [List.size_toArray, lenV]; exact hl, by simpa using rv⟩) (fun b u z => by have z' : (none : Option HO) = some u := z; cases z') (fun b z => absurd rfl z) fun z => absurd rfl z
  | none =>
    refine core (fun b => if b = a then some (.frz { cls := .type "list", data := .seq vs.toArray } (.lst (ns.map V.int))) else none) (fun b => ?_) (.inl (.inr ⟨{ cls := .type "list", data := .seq vs.toArray }, if_pos rfl⟩)) (fun b u z => ?_) (fun b z => ?_) fun _ => hk
    · by_cases hb : b = a
      · exact .inr ⟨_, _, if_pos hb⟩
      · exact .inl (if_neg hb)
    · by_cases hb : b = a
      · have z' := (if_pos hb).symm.trans z
        cases z'
        subst hb
        exact ⟨ha, by rw [List.length_map]; exact hl, vs, _, rv, ha⟩
      · have z' := (if_neg hb).symm.trans z
        cases z'
    · by_cases hb : b = a
      · exact hb
      · exact absurd (if_neg hb) z
end L2

namespace L2
open PySem PySem.Spec PyProof.Rows


/-- the goal that k_head leaves (case hc), from the law's promise. F gives the function object fd (K's own) once, then the promise over every base -/
theorem walk_of {l : PySem.W.OpenLaw} {n k : Nat} {q : Program} {loose : List Str} {XP : (Str → Option Value) → Heap → Prop} {YP : World → Heap → Prop} {d : DefRec} {K : Params → PySem.W.Frag} {CX : World → CXT} {sp : World → Sp} {x : Str}
    (hn : l.most = some n) (hn2 : n ≤ sizeLine) (hdf : d.params.defaults = []) (hr : Room k callerA)
    (hY : ∀ (w : World) (h : Heap), YP w h → (K w.params).In h)
    (F : ∀ (w : World) (mg : Str → Option Value) (fa : Addr) (h : Heap), (K w.params).In h → h.Ns mainGlobals mg → mg d.name = some (.ref fa) →
      ∃ fd : FuncData, (∀ (s : Shared) (u : Value), BindsTo s fd ⟨[u], []⟩ [(x, u)]) ∧
        ∀ base : Heap, (K w.params).In base → base.Ns mainGlobals mg → FnOk l.prog w (K w.params) mg base (CX w) k fa fd [x] (sp w))
    (hsp : ∀ (w : World) (H : Hp) (a : Addr) (ns : List Int), ns.length ≤ n → Only H → SqL (K w.params) H a (ns.map V.int) → sp w [.ref a] H (fun v _ => v = .bl true) fun _ _ _ => False)
    (hCX : ∀ (w : World) (H : Hp) (s : Shared) (e : Value) (s' : Shared), CX w [] H s (fun _ _ _ => False) e s' → False) :
    PySem.W.WalkO q loose XP YP l.row.toRowW d [] (fun f vs => PySem.call f vs) := by
  refine Att.attach_call hn hdf fun w s₀ s₁ mg mb fa o pm cd doc a vs ns G Y ho hd hcd hmg hobj hints hlen hg => ?_
  have KX := hY w _ Y
  obtain ⟨fd, hb, hF⟩ := F w mg fa _ KX G.T.g hmg
  exact law_call KX G.T.g G.T.b G.T.builtins G.T.nolimit hg hobj hints (Nat.le_trans hlen hn2) hr hF hb (fun H hO hS => hsp w H a ns hlen hO hS) fun H e s' => hCX w H s₁ e s'
end L2

/- THE LAST THEOREM (shape; LID, My.* are yours):
   My.Adr: a structure of the addresses that your layer names (classes, functions); My.Txt K t: a structure (Prop) of the equations over K;
   My.txt_mk : {K} {implicit addresses ..} (e1 : nsIn K mainGlobals "law" = some (some (.ref f))) (e2 : K.lookup f = some ⟨oc, od, .func (fnOf "law" "law" params body scope dV kV doc pm an cdv ct), sl⟩) (e3 : codeIn K cdv "law" = true) .. : ∃ t, My.Txt K t

set_option maxRecDepth 100000 in
set_option maxHeartbeats 0 in
theorem PySem.Challenge.cw_LID_holds : PySem.Challenge.rw_LID.Holds := by
  w_on; o_law; k_head; (case hw => w_witness2)
  k_fill
  refine L2.walk_of (l := PySem.Challenge.rw_LID) (n := 63) (k := 40) (x := "script") (CX := fun w => ..) (sp := fun _ => My.sp_law) rfl (by decide) rfl ⟨rfl, by decide, by decide⟩ (fun w h Y => PySem.W.kIn_of Y) ?F ?S ?C
  case F =>
    intro w mg fa h KX G hmg
    have T : ∃ t, My.Txt (L2.KOf KX) t := by
      dsimp only [L2.KOf]                          -- K must stand as «<heap const> w.params» for k_is
      refine' My.txt_mk ?e1 ?e2 ?e3 ..
      (case e1 => PySem.W.k_is)                    -- in the order: a name -> its address -> its object -> its parts
      (case e2 => PySem.W.k_is)
      ..
    obtain ⟨t, T⟩ := T
    have e0 := hmg.symm.trans (PySem.W.mg_of KX G T.law)
    cases e0                                       -- fa is the law's own address
    exact ⟨_, fun s u => .of_eq rfl, fun base kb nb => My.law_fn T kb nb⟩     -- if «.of_eq rfl» comes too early: refine' ⟨_, ?b, fun base kb nb => My.law_fn T kb nb⟩; exact fun s u => .of_eq rfl
  case S => exact fun w H a ns hl hO hS => ..
  case C => exact ..
(the tactic k_is has no namespace: write k_is) -/

/-! SHORT WORDS over the layer: a def of the text, its body, what a loop and a test want. -/
namespace L2
open PySem PySem.Spec PyProof.Rows

/-! ### the text by places -/
noncomputable def defArgs (s : Stmt) : Arguments := match s with
  | .FunctionDef _ a _ _ _ _ _ _ _ _ => a
  | _ => { posonlyargs := [], args := [], vararg := none, kwonlyargs := [], kw_defaults := [], kwarg := none, defaults := [] }
noncomputable def defBody (s : Stmt) : List Stmt := match s with
  | .FunctionDef _ _ b _ _ _ _ _ _ _ => b
  | _ => []
noncomputable def defScope (s : Stmt) : Scope := match s with
  | .FunctionDef _ _ _ _ _ _ sc _ _ _ => sc
  | _ => { kind := .function, names := [], isGenerator := false, isCoroutine := false }

/-! ### no exception leaves a def -/
noncomputable abbrev CX0 : CXT := fun _ _ _ _ _ _ => False
noncomputable abbrev E0 : XK := fun _ _ _ => False
theorem pass0 {X : Cx} : Passes CX0 X E0 := fun _ _ _ _ _ _ _ h => h.elim

/-! ### a def (or method) of the text as it stands behind the top -/
structure Fun (K : PySem.W.Frag) (x qual : Str) (st : Stmt) (f : Addr) (fd : FuncData) : Prop where
  ex : ∃ (oc : Value) (od : Option Addr) (kV doc pm : Value) (an : Option Addr) (cdv ct : Value) (osl : Array (Option Value)),
    fd = PySem.W.fnOf x qual (defArgs st) (defBody st) (defScope st) .none kV doc pm an cdv ct ∧ K.lookup f = some ⟨oc, od, .func fd, osl⟩ ∧ PySem.W.codeIn K cdv qual = true
  kp : PySem.W.keepIn K (.ref f) = true
section
variable {P : Program} {w : World} {K : PySem.W.Frag} {mg : Str → Option Value} {base : Heap}
/-- THE RULE for a def: its body as a term of rules, and the reading of that term -/
theorem Fun.ok {x qual : Str} {st : Stmt} {f : Addr} {fd : FuncData} {N ps : List Str} {k : Nat} {sp : Sp} (F : Fun K x qual st f fd) (S : FnScope N ps (defScope st)) (len : ∀ vs H Q E, sp vs H Q E → vs.length = ps.length)
    (hbody : ∀ (cdv : Value) (A : Around) (outer : List Env) (s : Shared) (H : Hp) (vs : List V) (Q : VK) (E : XK), Room k (A.deeper (envOfC qual (defScope st) s.heap.objs.size f cdv)) → sp vs H Q E →
      ∃ t, PSs (cxOf CX0 P w K mg base N qual (defScope st) f cdv A outer s H E).nox (defBody st) t ∧ t { nx := fun _ H' => Q .non H', rt := Q } (start N vs) H) : FnOk P w K mg base CX0 (k + 1) f fd ps sp := by
  obtain ⟨oc, od, kV, doc, pm, an, cdv, ct, osl, rfl, lk, hcd⟩ := F.ex
  refine fn_of lk hcd S len fun A outer s H vs Q E hr hsp => ?_
  obtain ⟨t, h, q⟩ := hbody cdv A outer s H vs Q E hr hsp
  exact ⟨t, h.nox, q⟩
/-- how its arguments bind (no defaults): h is «fun _ _ _ _ _ _ us hl => match us, hl with | [_, _], _ => rfl», one _ a parameter -/
theorem Fun.binds {x qual : Str} {st : Stmt} {f : Addr} {fd : FuncData} {ps : List Str} (F : Fun K x qual st f fd)
    (h : ∀ (kV doc pm : Value) (an : Option Addr) (cdv ct : Value) (us : List Value), us.length = ps.length → bindArgs (PySem.W.fnOf x qual (defArgs st) (defBody st) (defScope st) .none kV doc pm an cdv ct) ⟨us, []⟩ = pure (ps.zip us)) : Binds K fd ps [] := by
  obtain ⟨oc, od, kV, doc, pm, an, cdv, ct, osl, rfl, lk, hcd⟩ := F.ex
  exact .all (h kV doc pm an cdv ct)
theorem fun_mk {x qual : Str} {st : Stmt} {f : Addr} {oc : Value} {od an : Option Addr} {osl : Array (Option Value)} {kV doc pm cdv ct : Value} (l : K.lookup f = some ⟨oc, od, .func (PySem.W.fnOf x qual (defArgs st) (defBody st) (defScope st) .none kV doc pm an cdv ct), osl⟩)
    (c : PySem.W.codeIn K cdv qual = true) (k : PySem.W.keepIn K (.ref f) = true) : Fun K x qual st f (PySem.W.fnOf x qual (defArgs st) (defBody st) (defScope st) .none kV doc pm an cdv ct) := ⟨⟨oc, od, kV, doc, pm, an, cdv, ct, osl, rfl, l, c⟩, k⟩
end
theorem small1000 {n : Nat} (h : n ≤ 1000) : n < sizeLine := Nat.lt_of_le_of_lt h (by decide)

/-! ### expressions in short: the name that stands in the i-th slot -/
section
variable {X : Cx}
end

/-! ### tests -/
theorem iteF {A B : Prop} (h : B) : if false = true then A else B := by
  rw [if_neg Bool.false_ne_true]
  exact h
theorem iteT {A B : Prop} (h : A) : if true = true then A else B := by
  rw [if_pos rfl]
  exact h
theorem ite2 {c A B : Prop} [Decidable c] (h1 : c → A) (h2 : ¬ c → B) : if c then A else B := by
  by_cases h : c
  · rw [if_pos h]
    exact h1 h
  · rw [if_neg h]
    exact h2 h

/-! ### heaps -/
/-- all that was tracked is as it was -/
noncomputable def Same (H H' : Hp) : Prop := ∀ b o, H b = some o → H' b = some o
theorem Same.refl (H : Hp) : Same H H := fun _ _ h => h
theorem Same.trans {H H1 H2 : Hp} (a : Same H H1) (b : Same H1 H2) : Same H H2 := fun c o h => b c o (a c o h)
theorem Same.free {H H' : Hp} (e : Same H H') {l : Addr} (h : H' l = Option.none) : H l = Option.none := by
  cases q : H l with
  | none => rfl
  | some o =>
    rw [e l o q] at h
    cases h
theorem Same.seq {K : PySem.W.Frag} {H H' : Hp} {a : Addr} {xs : List V} (e : Same H H') (h : SqL K H a xs) : SqL K H' a xs := by
  rcases h with (h | ⟨o, h⟩) | h
  · exact .inl (.inl (e _ _ h))
  · exact .inl (.inr ⟨o, e _ _ h⟩)
  · exact .inr h

/-! ### a dict's pairs: keys that differ -/
section
variable {κ : Type} [DecidableEq κ]
end
end L2


namespace GM
/-! Whole numbers: divisors, lowest ratios, sizes. -/



end GM


set_option Elab.async false
set_option linter.all false
set_option maxRecDepth 100000
/-! MY RULES over the hand layer -/
namespace L2
open PySem PySem.Spec PyProof.Rows

/-! ### argument lists without stars: by a look at each item's head alone -/
noncomputable def noStar : Expr → Bool
  | .Starred _ _ => false
  | _ => true
theorem star_cons {e : Expr} {es : List Expr} {env : Env} (h : noStar e = true) : starEach (e :: es) env = (false, eval e env) :: starEach es env := by
  cases e <;> first | rfl | cases h
theorem star_any {pos : Pos} {env : Env} : ∀ {es : List Expr}, es.all noStar = true → (backTo pos (starEach es env)).any (·.1) = false
  | [], _ => rfl
  | e :: es, h => by
    rw [List.all_cons, Bool.and_eq_true] at h
    rw [star_cons h.1]
    show (false || (backTo pos (starEach es env)).any (·.1)) = false
    rw [star_any h.2]; rfl
theorem all_cons1 {e : Expr} {es : List Expr} (h : (e :: es).all noStar = true) : noStar e = true ∧ es.all noStar = true := by
  rw [List.all_cons, Bool.and_eq_true] at h; exact h
section
variable {X : Cx} {e o : Expr} {es : List Expr} {te : TE} {t : TA} {pos p : Pos}
theorem pa_c (ha : PE X e te) (hr : PA X es t) (hs : noStar e = true := by rfl) : PA X (e :: es) (tCons te t) := pa_cons ha hr (star_cons hs)
theorem pe_cB {x : Str} {id : String} {r : List V → Hp → VK → Prop} (hc : CallR X (.builtin id) r) (hg : Gl X x) (hm : X.mg x = none) (hv : bootBuiltins x = some (.builtin id)) (ha : PA X (e :: es) t) (hs : (e :: es).all noStar = true := by rfl)
    (hn : x ≠ "__name__" := by decide) (hdb : (x == ("__debug__" : Str)) = false := by decide) : PE X (.Call (.Name x p) (e :: es) [] pos) (tCB r t) :=
  pe_callB hc hg hm hv ha hn hdb (star_cons (all_cons1 hs).1) (star_any (all_cons1 hs).2)
theorem pe_cTy {x : Str} {T : String} {r : List V → Hp → VK → Prop} (hc : CallR X (.type T) r) (hg : Gl X x) (hm : X.mg x = none) (hv : bootBuiltins x = some (.type T)) (ha : PA X (e :: es) t) (hs : (e :: es).all noStar = true := by rfl)
    (hn : x ≠ "__name__" := by decide) (hdb : (x == ("__debug__" : Str)) = false := by decide) : PE X (.Call (.Name x p) (e :: es) [] pos) (tCB r t) :=
  pe_callTy hc hg hm hv ha hn hdb (star_cons (all_cons1 hs).1) (star_any (all_cons1 hs).2)
theorem few1 {env : Env} {cpos : Pos} (h : noStar e = true) : ((backTo cpos (starEach [e] env)).all (fun x => !x.1) && (backToKw cpos (keywordEach [] env)).all (fun x => x.1.isSome)
      && decide (([e] : List Expr).length + ([] : List Keyword).length + (if ([] : List Keyword).isEmpty then 0 else 1) < 30)) = true := by
  rw [star_cons h]; rfl
theorem pe_append {to : TE} {apos cpos : Pos} (ho : PE X o to) (ha : PA X [e] t) (hs : noStar e = true := by rfl) (hbase : attributeBase o "append" X.env (eval o X.env) = eval o X.env := by rfl) (hline : (apos.endLine == cpos.line) = true := by rfl) :
    PE X (.Call (.Attribute o "append" apos) [e] [] cpos) (tBM X.K "list" rAppend to t) :=
  pe_bm PySem.F.plainAttrs_list PySem.F.slot_list_append PySem.F.type_list_append mt_append ho ha hbase (few1 hs) hline (star_cons hs) rfl
end

/-! ### kinds of values, isinstance -/
inductive Nm where | non | bl | int | str | lst | tup | dct
  deriving DecidableEq
noncomputable def Nm.s : Nm → String
  | .non => "NoneType" | .bl => "bool" | .int => "int" | .str => "str" | .lst => "list" | .tup => "tuple" | .dct => "dict"
noncomputable def isN (n m : Nm) : Bool := decide (n = m) || (decide (n = .bl) && decide (m = .int))
noncomputable def bT (T U : String) : Option Bool := if (Value.type T == Value.type U) = true then some true else if PySem.W.kitMeta U = true then (fastBuiltinMro T).map (·.contains (Value.type U)) else none
theorem kitOne_bT (K : PySem.W.Frag) (T U : String) : PySem.W.kitOne K (.type T) (.type U) = bT T U := rfl
theorem bT_all (n m : Nm) : bT n.s m.s = some (isN n m) := by
  cases n <;> cases m <;> decide +kernel
noncomputable abbrev KindIs (K : PySem.W.Frag) (H : Hp) (v : V) (n : Nm) : Prop := TyOf K H v (.type (Nm.s n))
noncomputable def rIsi (K : PySem.W.Frag) (m : Nm) : List V → Hp → VK → Prop := fun xs H Q => ∃ x n, xs = [x, .ty (Nm.s m)] ∧ KindIs K H x n ∧ Q (.bl (isN n m)) H
theorem call_isinst {X : Cx} (m : Nm) : CallR X (.builtin "isinstance") (rIsi X.K m) := by
  intro pins s σ H xs us Q I r h
  obtain ⟨x, n, rfl, ty, q⟩ := h
  obtain ⟨u, u', rfl, ru, ru'⟩ := vals2 r
  cases ru'
  exact isinst_ok I ru ty ((kitOne_bT _ _ _).trans (bT_all n m)) fun tk => ⟨.bl (isN n m), H, I.tok tk, rfl, q⟩
theorem nm_ne (m : Nm) : (Str.ofString (Nm.s m)) ≠ "__name__" := by cases m <;> decide +kernel
theorem nm_db (m : Nm) : ((Str.ofString (Nm.s m)) == ("__debug__" : Str)) = false := by cases m <;> decide +kernel
theorem boot_nm (m : Nm) (h : m ≠ .non) : bootBuiltins (Str.ofString (Nm.s m)) = some (.type (Nm.s m)) := by
  cases m
  · exact absurd rfl h
  · exact boot_bool
  · exact boot_int
  · exact boot_str
  · exact boot_list
  · exact boot_tuple
  · exact boot_dict
theorem pe_isi {X : Cx} (m : Nm) {e : Expr} {te : TE} {p p2 pos : Pos} (hg : Gl X "isinstance") (hm : X.mg "isinstance" = none) (hgT : Gl X (Str.ofString (Nm.s m))) (hmT : X.mg (Str.ofString (Nm.s m)) = none) (ha : PE X e te) (h0 : m ≠ .non := by decide) (hs : noStar e = true := by rfl) :
    PE X (.Call (.Name "isinstance" p) [e, .Name (Str.ofString (Nm.s m)) p2] [] pos) (tCB (rIsi X.K m) (tCons te (tCons (tC (.ty (Nm.s m))) tNil))) :=
  pe_cB (call_isinst m) hg hm boot_isinstance (pa_c ha (pa_c (pe_bltn hgT hmT (boot_nm m h0) rfl (nm_ne m) (nm_db m)) pa_nil) hs) (by rw [List.all_cons, hs]; rfl)

/-! ### operations -/
section
variable {X : Cx} {a b c : Expr} {ta tb tc : TE} {pos : Pos}
theorem op_mulB : OpR X (binaryOp .Mult) (rI IntMulOk fun i j => .int (i * j)) := opI fun _ _ _ _ _ _ _ hc q => mul_int q hc
end
theorem mulOk_small {i j : Int} (h : j.natAbs < 2 ^ 64) : IntMulOk i j := IntMulOk.of_right (intBits_le_64 (by omega) (by omega))
theorem mulOk_left {i j : Int} (h : i.natAbs < 2 ^ 64) : IntMulOk i j := IntMulOk.of_left (intBits_le_64 (by omega) (by omega))

/-! ### defs -/
structure DefOk (P : Program) (w : World) (K : PySem.W.Frag) (mg : Str → Option Value) (base : Heap) (k : Nat) (x : Str) (ps : List Str) (dvs : List V) (sp : Sp) : Prop where
  ex : ∃ (f : Addr) (fd : FuncData) (ds : List Value), FnOk P w K mg base CX0 k f fd ps sp ∧ Binds K fd ps ds ∧ Vals dvs ds ∧ PySem.W.keepIn K (.ref f) = true ∧ mg x = some (.ref f)
theorem pe_callD {X : Cx} {k j : Nat} {x : Str} {ps : List Str} {dvs : List V} {sp : Sp} {p pos : Pos} {e : Expr} {es : List Expr} {t : TA}
    (D : DefOk X.prog X.w X.K X.mg X.base k x ps dvs sp) (hr : Room j X.A) (hj : k ≤ j) (hg : Gl X x) (ha : PA X (e :: es) t) (hs : (e :: es).all noStar = true := by rfl)
    (hdb : (x == ("__debug__" : Str)) = false := by decide) :
    PE X (.Call (.Name x p) (e :: es) [] pos) (tCall sp dvs E0 t) := by
  obtain ⟨f, fd, ds, F, b, hd, kp, m⟩ := D.ex
  exact pe_call F (hr.mono hj) hg m kp b hd pass0 ha hdb (star_cons (all_cons1 hs).1) (star_any (all_cons1 hs).2)
section
variable {P : Program} {w : World} {K : PySem.W.Frag} {mg : Str → Option Value} {base : Heap}
end
theorem same_new {H : Hp} {p : Addr} (h : H p = none) (o : HO) : Same H (upd H p o) := fun b u q => by rw [upd_ne (ne_of_none q h)]; exact q
end L2


set_option Elab.async false
set_option linter.all false
set_option maxRecDepth 100000
/-! texts written by f-strings -/
namespace L2
open PySem PySem.Spec PyProof.Rows
end L2


set_option Elab.async false
set_option linter.all false
set_option maxRecDepth 100000
/-! THE RULES, their judgements shut: nothing is unfolded where a term of rules is elaborated -/
namespace L2
open PySem PySem.Spec PyProof.Rows
structure QE (X : Cx) (e : Expr) (t : TE) : Prop where h : PE X e t
structure QT (X : Cx) (e : Expr) (t : TT) : Prop where h : PT X e t
structure QW (X : Cx) (e : Expr) (t : TT) : Prop where h : PW X e t
structure QA (X : Cx) (es : List Expr) (t : TA) : Prop where h : PA X es t
structure QS (X : Cx) (st : Stmt) (t : TS) : Prop where h : PS X st t
structure QSs (X : Cx) (st : List Stmt) (t : TS) : Prop where h : PSs X st t
structure QI (X : Cx) (tg iter : Expr) (wi : TI) : Prop where h : PI X tg iter wi
structure QG (X : Cx) (tg : Expr) (t : TG) : Prop where h : PG X tg t
/-- no comprehension -/
noncomputable def noComp : Expr → Bool
  | .ListComp _ _ _ _ => false
  | .SetComp _ _ _ _ => false
  | .DictComp _ _ _ _ _ => false
  | _ => true
theorem swaps_no {e : Expr} {tg : Option Expr} {l : Nat} {env : Env} (h : noComp e = true) : swapsWith e tg l env = pure false := by
  cases e <;> first | rfl | cases h
namespace R
section
variable {X : Cx} {a b c e o : Expr} {es rest : List Expr} {ta tb tc te : TE} {tA tB' : TT} {t : TA} {pos p : Pos}
theorem pv (i : Nat) {x : Str} (hN : X.N[i]? = some x := by rfl) (hv : Vis X.env.scope x := by first | exact Or.inl rfl | exact Or.inr (Or.inl rfl) | exact Or.inr (Or.inr rfl)) (hd : (x == ("__debug__" : Str)) = false := by decide)
    (hcd : (x == ("__classdict__" : Str)) = false := by decide) : QE X (.Name x pos) (tVar i) := ⟨pe_var hN hv hd hcd⟩
theorem pe_int {i : Int} {j : Nat} : QE X (.Constant (.int i) j pos) (tC (.int i)) := ⟨L2.pe_int⟩
theorem pe_bl {k : Bool} {j : Nat} : QE X (.Constant (.bool k) j pos) (tC (.bl k)) := ⟨L2.pe_bl⟩
theorem pe_op {op : Operator} {r : R2} (ho : OpR X (binaryOp op) r) (ha : QE X a ta) (hb : QE X b tb) : QE X (.BinOp a op b pos) (tOp r ta tb) := ⟨L2.pe_op ho ha.h hb.h⟩
theorem pe_un {op : UnaryOp} {r : V → Hp → VK → Prop} (ho : UnR X (unaryOp op) r) (ha : QE X a ta) : QE X (.UnaryOp op a pos) (tUn r ta) := ⟨L2.pe_un ho ha.h⟩
theorem pe_not (ha : QE X a ta) : QE X (.UnaryOp .Not a pos) (tNotV ta) := ⟨L2.pe_not ha.h⟩
theorem pe_one {op : BoolOp} (h : QE X a ta) : QE X (.BoolOp op [a] pos) ta := ⟨L2.pe_one h.h⟩
theorem pe_and (ha : QE X a ta) (hb : QE X (.BoolOp .And (b :: rest) pos) tb) : QE X (.BoolOp .And (a :: b :: rest) pos) (tAndV ta tb) := ⟨L2.pe_and ha.h hb.h⟩
theorem pe_cmpR {op : CmpOp} {r : R2} (ho : OpR X (compareOp op) r) (ha : QE X a ta) (hb : QE X b tb) (hm : behindInMarks op b = false) : QE X (.Compare a [op] [b] pos) (tOp r ta tb) := ⟨L2.pe_cmpR ho ha.h hb.h hm⟩
theorem pe_ifExp (hc : QT X c tA) (ha : QE X a ta) (hb : QE X b tb) : QE X (.IfExp c a b pos) (tIf tA ta tb) := ⟨L2.pe_ifExp hc.h ha.h hb.h⟩
theorem pe_ix {r : R2} (hr : IxR X r) (ha : QE X a ta) (hb : QE X b tb) (hs : PlainIx b) : QE X (.Subscript a b pos) (tOp r ta tb) := ⟨L2.pe_ix hr ha.h hb.h hs⟩
theorem pa_nil : QA X [] tNil := ⟨L2.pa_nil⟩
theorem pa_c (ha : QE X e te) (hr : QA X es t) (hs : noStar e = true := by rfl) : QA X (e :: es) (tCons te t) := ⟨L2.pa_c ha.h hr.h hs⟩
theorem pe_lst (h : QA X es t) : QE X (.List es pos) (tLst t) := ⟨L2.pe_lst h.h⟩
theorem pe_tup {x1 : Nat} (h : QA X es t) : QE X (.Tuple es x1 pos) (tTup t) := ⟨L2.pe_tup h.h⟩
theorem pe_callD {k j : Nat} {x : Str} {ps : List Str} {dvs : List V} {sp : Sp} (D : DefOk X.prog X.w X.K X.mg X.base k x ps dvs sp) (hr : Room j X.A) (hj : k ≤ j) (hg : Gl X x) (ha : QA X (e :: es) t) (hs : (e :: es).all noStar = true := by rfl)
    (hdb : (x == ("__debug__" : Str)) = false := by decide) : QE X (.Call (.Name x p) (e :: es) [] pos) (tCall sp dvs E0 t) := ⟨L2.pe_callD D hr hj hg ha.h hs hdb⟩
theorem pe_isi (m : Nm) {p2 : Pos} (hg : Gl X "isinstance") (hm : X.mg "isinstance" = none) (hgT : Gl X (Str.ofString (Nm.s m))) (hmT : X.mg (Str.ofString (Nm.s m)) = none) (ha : QE X e te) (h0 : m ≠ .non := by decide) (hs : noStar e = true := by rfl) :
    QE X (.Call (.Name "isinstance" p) [e, .Name (Str.ofString (Nm.s m)) p2] [] pos) (tCB (rIsi X.K m) (tCons te (tCons (tC (.ty (Nm.s m))) tNil))) := ⟨L2.pe_isi m hg hm hgT hmT ha.h h0 hs⟩
theorem pe_cB {x : Str} {id : String} {r : List V → Hp → VK → Prop} (hc : CallR X (.builtin id) r) (hg : Gl X x) (hm : X.mg x = none) (hv : bootBuiltins x = some (.builtin id)) (ha : QA X (e :: es) t) (hs : (e :: es).all noStar = true := by rfl)
    (hn : x ≠ "__name__" := by decide) (hdb : (x == ("__debug__" : Str)) = false := by decide) : QE X (.Call (.Name x p) (e :: es) [] pos) (tCB r t) := ⟨L2.pe_cB hc hg hm hv ha.h hs hn hdb⟩
theorem pe_cTy {x : Str} {T : String} {r : List V → Hp → VK → Prop} (hc : CallR X (.type T) r) (hg : Gl X x) (hm : X.mg x = none) (hv : bootBuiltins x = some (.type T)) (ha : QA X (e :: es) t) (hs : (e :: es).all noStar = true := by rfl)
    (hn : x ≠ "__name__" := by decide) (hdb : (x == ("__debug__" : Str)) = false := by decide) : QE X (.Call (.Name x p) (e :: es) [] pos) (tCB r t) := ⟨L2.pe_cTy hc hg hm hv ha.h hs hn hdb⟩
theorem pe_append {to : TE} {apos cpos : Pos} (ho : QE X o to) (ha : QA X [e] t) (hs : noStar e = true := by rfl) (hbase : attributeBase o "append" X.env (eval o X.env) = eval o X.env := by rfl) (hline : (apos.endLine == cpos.line) = true := by rfl) :
    QE X (.Call (.Attribute o "append" apos) [e] [] cpos) (tBM X.K "list" rAppend to t) := ⟨L2.pe_append ho.h ha.h hs hbase hline⟩
theorem pt_cmpR {op : CmpOp} {r : R2} (ho : OpR X (compareOp op) r) (ha : QE X a ta) (hb : QE X b tb) (hm : behindInMarks op b = false) : QT X (.Compare a [op] [b] pos) (tTest (tOp r ta tb)) := ⟨L2.pt_cmpR ho ha.h hb.h hm⟩
theorem pw_or1 (ha : QT X a tA) : QW X (.BoolOp .Or [a] pos) tA := ⟨L2.pw_or1 ha.h⟩
theorem pw_or (ha : QT X a tA) (hb : QW X (.BoolOp .Or (b :: rest) pos) tB') : QW X (.BoolOp .Or (a :: b :: rest) pos) (tOr tA tB') := ⟨L2.pw_or ha.h hb.h⟩
theorem pt (h : QW X e tA) : QT X e tA := ⟨PW.pt h.h⟩
theorem pt_not (ha : QT X a tA) : QT X (.UnaryOp .Not a pos) (tNot tA) := ⟨L2.pt_not ha.h⟩
theorem pt_val (h : QE X e te) (he : ∀ whole, isTrue e X.env whole = (do let v ← whole; standAt e.pos; holding [v] (truthy v)) := by intro _; rfl) : QT X e (tB te) := ⟨L2.pt_val h.h he⟩
end
section
variable {X : Cx} {c e : Expr} {te : TE} {tc : TT} {st : Stmt} {sts body orelse : List Stmt} {t u tb : TS} {pos : Pos}
theorem ps_ret (he : QE X e te) : QS X (.Return (some e) pos) (tRet te) := ⟨L2.ps_ret he.h⟩
theorem ps_expr (he : QE X e te) (hs : noComp e = true := by rfl) : QS X (.Expr e pos) (tDrop te) := ⟨L2.ps_expr he.h (swaps_no hs)⟩
theorem ps_set {i : Nat} {x : Str} {pos' : Pos} (hN : X.N.Nodup) (hi : X.N[i]? = some x) (hx : Loc X.env.scope x) (he : QE X e te) (hs : noComp e = true := by rfl) (hf : X.fn x = true ∨ X.env.scope.names.lookup x = some .local := by first | exact .inl rfl | exact .inr rfl | assumption) :
    QS X (.Assign [.Name x pos'] e pos) (tAsg te (gName i)) := ⟨L2.ps_set hN hi hx he.h (swaps_no hs) hf⟩
theorem ps_if (hc : QT X c tc) (ha : QSs X body t) (hb : QSs X orelse u) : QS X (.If c body orelse pos) (tIfS tc t u) := ⟨L2.ps_if hc.h ha.h hb.h⟩
theorem ps_for {tg iter : Expr} {wi : TI} {g : TG} (hp : PassesOwn (model X.prog X.w) X.A X.env X.xe) (hc : X.calm = true) (hi : QI X tg iter wi) (hg : QG X tg g) (hb : QSs X body tb)
    (hs : ∀ x, foldedSetIterable iter X.env x = pure x := by intro _; rfl) : QS X (.For tg iter body [] pos) (tFor wi g tb) := ⟨L2.ps_for hp hc hi.h hg.h hb.h hs⟩
theorem pi_list {tg : Expr} (hl : QE X e te) : QI X tg e (iList X.K te) := ⟨L2.pi_list hl.h⟩
theorem pi_range1 {tg a : Expr} {ta : TA} {p : Pos} (hg : Gl X "range") (hm : X.mg "range" = none) (ha : QA X [a] ta) (hs : noStar a = true := by rfl) : QI X tg (.Call (.Name "range" p) [a] [] pos) (iRng1 ta) := ⟨L2.pi_range1 hg hm ha.h (star_cons hs)⟩
theorem pg_name {i : Nat} {x : Str} (hN : X.N.Nodup) (hi : X.N[i]? = some x) (hx : Loc X.env.scope x) (hf : X.fn x = true ∨ X.env.scope.names.lookup x = some .local := by first | exact .inl rfl | exact .inr rfl | assumption) : QG X (.Name x pos) (gName i) := ⟨L2.pg_name hN hi hx hf⟩
theorem pss_nil : QSs X [] tNext := ⟨L2.pss_nil⟩
theorem pss_one (h1 : QS X st t) : QSs X [st] t := ⟨L2.pss_one h1.h⟩
theorem pss_cons (h1 : QS X st t) (h2 : QSs X sts u) : QSs X (st :: sts) (tSeq t u) := ⟨L2.pss_cons h1.h h2.h⟩
end
end R
section
variable {P : Program} {w : World} {K : PySem.W.Frag} {mg : Str → Option Value} {base : Heap}
theorem Fun.okQ {x qual : Str} {st : Stmt} {f : Addr} {fd : FuncData} {N ps : List Str} {k : Nat} {sp : Sp} (F : Fun K x qual st f fd) (S : FnScope N ps (defScope st)) (len : ∀ vs H Q E, sp vs H Q E → vs.length = ps.length)
    (hbody : ∀ (cdv : Value) (A : Around) (outer : List Env) (s : Shared) (H : Hp) (vs : List V) (Q : VK) (E : XK), Room k (A.deeper (envOfC qual (defScope st) s.heap.objs.size f cdv)) → sp vs H Q E →
      ∃ t, QSs (cxOf CX0 P w K mg base N qual (defScope st) f cdv A outer s H E).nox (defBody st) t ∧ t { nx := fun _ H' => Q .non H', rt := Q } (start N vs) H) : FnOk P w K mg base CX0 (k + 1) f fd ps sp :=
  F.ok S len fun cdv A outer s H vs Q E hr h => let ⟨t, q, r⟩ := hbody cdv A outer s H vs Q E hr h; ⟨t, q.h, r⟩
theorem Fun.def_okQ {x qual : Str} {st : Stmt} {f : Addr} {fd : FuncData} {N ps : List Str} {k : Nat} {sp : Sp} (F : Fun K x qual st f fd) (m : mg x = some (.ref f)) (b : Binds K fd ps []) (S : FnScope N ps (defScope st)) (len : ∀ vs H Q E, sp vs H Q E → vs.length = ps.length)
    (hbody : ∀ (cdv : Value) (A : Around) (outer : List Env) (s : Shared) (H : Hp) (vs : List V) (Q : VK) (E : XK), Room k (A.deeper (envOfC qual (defScope st) s.heap.objs.size f cdv)) → sp vs H Q E →
      ∃ t, QSs (cxOf CX0 P w K mg base N qual (defScope st) f cdv A outer s H E).nox (defBody st) t ∧ t { nx := fun _ H' => Q .non H', rt := Q } (start N vs) H) : DefOk P w K mg base (k + 1) x ps [] sp :=
  ⟨f, fd, [], F.okQ S len hbody, b, .nil, F.kp, m⟩
end
end L2


set_option Elab.async false
set_option linter.all false
set_option maxRecDepth 100000
/-! y = [elt for x in iter] -/
namespace L2
open PySem PySem.Spec PyProof.Rows
section
variable {prog : Program} {w : World} {A : Around} {R : Result → Shared → Prop} {s : Shared}
end
/-- the block of a comprehension: its own frame's dict at C, the cells of the names that it takes from around it -/
noncomputable def cxComp (X : Cx) (scope : Scope) (cl : List (Str × Addr)) (Nc : List Str) (C : Addr) (s₂ : Shared) (H2 : Hp) (fp : List Addr) : Cx where
  prog := X.prog
  w := X.w
  K := X.K
  mg := X.mg
  base := X.base
  A := X.A
  N := Nc
  s₀ := s₂
  H₀ := H2
  env := compEnvC scope cl C X.env
  outer := X.stack
  stack := X.stack
  ex := fp
  fn := fun _ => false
  calm := true
  pn := []
  xe := fun _ _ => False
noncomputable def inner (σ : St) (fr : List Nat) : St := fr.map fun j => (σ[j]?).join
end L2


set_option Elab.async false
set_option linter.all false
set_option maxRecDepth 100000
/-! list(reversed(xs)); two lists of the same things -/
namespace L2
open PySem PySem.Spec PyProof.Rows
theorem gv_nolen_lri : typeLookup (.type "list_reverseiterator") "__len__" = pure none := by rw [typeLookup_type, builtinLookup_eq_fast]; kernel_rfl
theorem gv_hint_lri : typeLookup (.type "list_reverseiterator") "__length_hint__" = pure (some (.builtin "list_reverseiterator.__length_hint__")) := by rw [typeLookup_type, builtinLookup_eq_fast]; kernel_rfl
section
variable {prog : Program} {w : World} {A : Around} {s : Shared} {R : Result → Shared → Prop}
theorem gv_walks_rev (hh : A.handled = none) (I l : Addr) (hne : l ≠ I) (items : Array Value) :
    WalksS prog w A I [I, l] [I] (fun a b => a = b) items.size (fun i v => items[items.size - 1 - i]? = some v) (fun i s => i ≤ items.size ∧ s.heap.IsRevIter I l ((items.size : Int) - 1 - (i : Int)) ∧ s.heap.IsList l items) where
  sub := fun b hb => by simp at hb; simp [hb]
  grefl := fun _ => rfl
  gtrans := fun _ _ _ h g => h.trans g
  frame := fun _ _ _ _ x _ hk => ⟨x.1, x.2.1.at fun o e => hk I (by simp) o e, x.2.2.at fun o e => hk l (by simp) o e⟩
  item := fun i s Q E hi x hQ => by
    have e : (items.size : Int) - 1 - (i : Int) = ((items.size - 1 - i : Nat) : Int) := by omega
    have hit := x.2.1
    rw [e] at hit
    have hx : items[items.size - 1 - i]? = some (items[items.size - 1 - i]'(by omega)) := Array.getElem?_eq_getElem (by omega)
    refine wpAny_pyNext_rev_item hit x.2.2 hx fun h' hit' hs' => ?_
    have e2 : ((items.size - 1 - i : Nat) : Int) - 1 = (items.size : Int) - 1 - ((i + 1 : Nat) : Int) := by omega
    rw [e2] at hit'
    exact hQ _ { s with heap := h' } hx ⟨hi, hit', x.2.2.at fun o eo => (hs'.2 l hne).trans eo⟩ ⟨fun b o hb eo => hs'.extBut b o (fun h => hb (by simp [h])) eo, rfl, rfl, rfl, Nat.le_refl _⟩
  done := fun s Q E x hQ => by
    have e : (items.size : Int) - 1 - (items.size : Int) = -1 := by omega
    have hit := x.2.1
    rw [e] at hit
    exact wpAny_pyNext_rev_end hh hit fun h' he' => hQ { s with heap := h' } ⟨fun b o hb eo => he' b o (fun h => hb (by simp [h])) eo, rfl, rfl, rfl, Nat.le_refl _⟩
  self := fun _ _ _ _ x hQ => wpAny_pyIter_revIter x.2.1 hQ
variable {I : Addr} {fp wr : List Addr} {G : Array GenState → Array GenState → Prop} {n : Nat} {P : Nat → Value → Prop} {St : Nat → Shared → Prop}
theorem gv_extend_rev (W : WalksS prog w A.in1 I fp wr G n P St) (hT : ∀ i s, St i s → s.TypeIs (.ref I) "list_reverseiterator") (S : Addr) (res : Value) (c₀ : Nat) (hst : St 0 s) (hSf : S ∉ fp) (hI : I ∈ fp)
    (hS : s.heap.get? S = some { cls := .type "list", data := .seq #[] c₀ })
    (hR : ∀ s' acc' c', Moved (S :: wr) G s s' → s'.heap.get? S = some { cls := .type "list", dict := none, data := .seq acc' c', slots := #[] } → ItemsOf P acc' n → R (.ok (.ret res)) s') (hn : n ≤ sizeLine := by size_fits) :
    wpAny (model prog w) A.in1 (Builtin.List.listExtendWith (.ref S) (.ref I) res)
      (fun fin s' => match fin with | .done f => R (.ok f) s' | .again c' => c'.quiet = true ∧ codeAny (model prog w) A c' R s') (fun e s' => R (.error e) s') s := by
  have hSI : S ≠ I := fun e => hSf (e ▸ hI)
  unfold Builtin.List.listExtendWith
  refine wpAny_bind (wpAny_typeOf (hT 0 _ hst) ?_)
  have h1 : Builtin.List.listSameRef (.ref S) (.ref I) = false := by simp [Builtin.List.listSameRef, hSI]
  rw [if_neg (by rw [h1]; decide)]
  refine wpAny_bind (W.self 0 _ _ _ hst ?_)
  refine wpAny_bind (wpAny_holding ?_)
  unfold Builtin.List.listLengthHint
  refine wpAny_bind (wpAny_specialOf (hT 0 _ hst) gv_nolen_lri ?_)
  show wpAny _ A.in1 (specialOf (Value.ref I) (Str.ofString "__length_hint__") >>= _) _ _ _
  refine wpAny_bind (wpAny_specialOf (hT 0 _ hst) gv_hint_lri ?_)
  generalize hid : ("list_reverseiterator.__length_hint__" : String) = id0
  wp_delta
  rw [show splitId id0 = some ("list_reverseiterator", "__length_hint__") from by subst hid; decide +kernel]
  subst hid
  refine wpAny_bind (wpAny_isInstance (b := true) (hT 0 _ hst) (by rw [isSubtype_type]; kernel_rfl) ?_)
  refine wpAny_pure ?_
  rw [if_neg (by decide)]
  refine wpAny_pure ⟨plainId_quiet F.plain_extend_loop _, codeAny_extend_loopS W hn _ hSf _ n 0 _ _ _ rfl (Nat.zero_le _) hst hS (ItemsOf.nil P) fun s' acc' c' hm hS' hacc => ?_⟩
  exact hR s' acc' c' hm hS' hacc
theorem gv_list_init_rev (W : WalksS prog w A.in1 I fp wr G n P St) (hT : ∀ i s, St i s → s.TypeIs (.ref I) "list_reverseiterator") (S : Addr) (hst : St 0 s) (hSf : S ∉ fp) (hI : I ∈ fp)
    (hS : s.heap.get? S = some { cls := .type "list", data := .seq #[] })
    (hR : ∀ s' acc' c', Moved (S :: wr) G s s' → s'.heap.get? S = some { cls := .type "list", dict := none, data := .seq acc' c', slots := #[] } → ItemsOf P acc' n → R (.ok (.ret .none)) s') (hn : n ≤ sizeLine := by size_fits) :
    wpAny (model prog w) A.in1 (Builtin.«list.__init__» ⟨[.ref S, .ref I], []⟩)
      (fun fin s' => match fin with | .done f => R (.ok f) s' | .again c' => c'.quiet = true ∧ codeAny (model prog w) A c' R s') (fun e s' => R (.error e) s') s := by
  show wpAny _ A.in1 (do let old ← Builtin.List.listItems (.ref S); Builtin.List.listUpdate (.ref S) (fun _ => #[]); letGo old.toList.reverse; Builtin.List.listExtendWith (.ref S) (.ref I) .none) _ _ s
  refine wpAny_bind ?_
  unfold Builtin.List.listItems
  refine wpAny_bind (wpAny_seqItems hS rfl (wpAny_pure ?_))
  show wpAny _ A.in1 (updateSeq S (fun _ => #[]) >>= fun _ => letGo (#[] : Array Value).toList.reverse >>= fun _ => Builtin.List.listExtendWith (.ref S) (.ref I) .none) _ _ s
  refine wpAny_bind (wpAny_updateSeq hS rfl ?_)
  have hS₂ := Heap.get?_update_self (Obj.mapSeq (fun _ => (#[] : Array Value))) hS rfl
  have oth : ∀ b o, b ≠ S → s.heap.get? b = some o → (s.heap.update S (Obj.mapSeq (fun _ => (#[] : Array Value)))).get? b = some o :=
    fun b o hb e => (Heap.get?_update_other _ _ (Ne.symm hb)).trans e
  refine wpAny_bind (wpAny_letGo ?_)
  refine gv_extend_rev (hn := hn) W hT S .none _ (W.frame 0 s _ s.toks hst (Nat.le_refl _) fun b hb o e => oth b o (fun h => hSf (h ▸ hb)) e) hSf hI hS₂ fun s' acc' c' hm hS' hacc => ?_
  exact hR s' acc' c' (Moved.trans W.gtrans ((Moved.refl W.grefl).then_heap (Nat.le_refl _) fun b o hb e => oth b o (fun h => hb (h ▸ List.mem_cons_self)) e) hm) hS' hacc
end
section
variable {prog : Program} {w : World} {A : Around} {E : Value → Shared → Prop} {s : Shared}
variable {I : Addr} {fp wr : List Addr} {G : Array GenState → Array GenState → Prop} {n : Nat} {P : Nat → Value → Prop} {St : Nat → Shared → Prop}
theorem gv_call_list_rev {Q : Value → Shared → Prop} (W : WalksS prog w A.in1.in1 I fp wr G n P St) (hT : ∀ i s, St i s → s.TypeIs (.ref I) "list_reverseiterator") (hst : St 0 s) (hfp : ∀ b ∈ fp, b < s.heap.objs.size) (hI : I ∈ fp)
    (hQ : ∀ s' acc' c', Moved (s.heap.objs.size :: wr) G { s with heap := s.heap.push { cls := .type "list", data := .seq #[] } } s' →
      s'.heap.get? s.heap.objs.size = some { cls := .type "list", dict := none, data := .seq acc' c', slots := #[] } → ItemsOf P acc' n → Q (.ref s.heap.objs.size) s') (hn : n ≤ sizeLine := by size_fits) :
    wpAny (model prog w) A (call (.type "list") [.ref I]) Q E s := by
  have hSf : s.heap.objs.size ∉ fp := fun hm => Nat.lt_irrefl _ (hfp _ hm)
  refine callType_codes (Q₁ := fun obj s₁ => obj = .ref s.heap.objs.size ∧ s₁ = { s with heap := s.heap.push { cls := .type "list", data := .seq #[] } }) F.called_list (F.typeCall_list_1 _) F.entry_list_init
    (code_list_new _ ⟨rfl, rfl⟩) fun obj s₁ h₁ => ?_
  obtain ⟨rfl, rfl⟩ := h₁
  have hS : (s.heap.push { cls := .type "list", data := .seq #[] }).get? s.heap.objs.size = some { cls := .type "list", data := .seq #[] } := Heap.get?_push_size _ rfl
  refine ⟨⟨_, hS, rfl⟩, F.args_list_init_2 _ _, gv_list_init_rev (hn := hn) W hT _ (W.frame 0 s _ s.toks hst (Nat.le_refl _) fun b _ o e => Heap.get?_push_of_some _ e) hSf hI hS fun s' acc' c' hm hS' hacc => ?_⟩
  exact ⟨rfl, hQ s' acc' c' hm hS' hacc⟩
end
/-- list(reversed(e)), e a list -/
noncomputable def tRev (te : TE) : TE := fun σ H Q => te σ H fun x H1 => ∃ a xs, x = .ref a ∧ H1 a = some (.lst xs) ∧ ∀ l, H1 l = none → Q (.ref l) (upd H1 l (.lst xs.reverse))
theorem rev_items {its : List Value} {acc : Array Value} (h : ItemsOf (fun i v => its.toArray[its.toArray.size - 1 - i]? = some v) acc its.toArray.size) : acc.toList = its.reverse := by
  obtain ⟨h1, h2⟩ := h
  have sz : its.toArray.size = its.length := by simp
  refine List.ext_getElem? fun j => ?_
  by_cases hj : j < acc.size
  · have e := h2 j acc[j] (Array.getElem?_eq_getElem hj)
    rw [Array.getElem?_toList, Array.getElem?_eq_getElem hj]
    rw [sz] at h1 e
    rw [List.getElem?_reverse (by omega)]
    rw [← e]
    simp
  · rw [Array.getElem?_toList, Array.getElem?_eq_none (by omega), List.getElem?_eq_none (by rw [List.length_reverse]; omega)]
theorem pe_listrev {X : Cx} {e : Expr} {te : TE} {p1 p2 pos pos2 : Pos} (hc : X.calm = true) (hgL : Gl X "list") (hmL : X.mg "list" = none) (hgR : Gl X "reversed") (hmR : X.mg "reversed" = none) (ha : PE X e te) (hs : noStar e = true := by rfl) :
    PE X (.Call (.Name "list" p1) [.Call (.Name "reversed" p2) [e] [] pos2] [] pos) (tRev te) := by
  intro pins s σ H Q I h
  refine wpAny_Call_Name_kw (ld_blt I hgL hmL boot_list ?_)
  refine PyProof.Rows.callWith_type1 ?_ rfl rfl
  rw [star_cons (show noStar (.Call (.Name "reversed" p2) [e] [] pos2) = true from rfl)]
  show wpAny _ _ (spliced ((false, eval (.Call (.Name "reversed" p2) [e] [] pos2) X.env) :: backTo pos (starEach [] X.env))) _ _ s
  refine Calls.spliced_cons (wpAny_Call_Name_kw (ld_blt I hgR hmR boot_reversed ?_))
  refine PyProof.Rows.callWith_type1 ?_ (star_cons hs) rfl
  rw [star_cons hs]
  show wpAny _ _ (spliced ((false, eval e X.env) :: backTo pos2 (starEach [] X.env))) _ _ s
  refine Calls.spliced_cons (thn (ha pins s σ H _ I h) fun u s1 zz => ?_)
  obtain ⟨x, H1, I1, r1, q1⟩ := zz
  obtain ⟨a, xs, ex, ha1, q⟩ := q1
  subst ex
  cases r1
  refine Calls.spliced_nil ?_
  obtain ⟨_, its, n, rv, hl, e1⟩ := I1.lstM ha1
  refine call_reversed_list (items := its.toArray) ⟨_, e1, rfl, n, rfl⟩ ?_
  refine Calls.spliced_nil ?_
  -- the iterator is there, untracked
  have hh : X.A.handled = none := I1.ok.hd hc
  have alt : a < s1.heap.objs.size := Heap.lt_size e1
  have kp : ∀ b o, s1.heap.get? b = some o → (s1.heap.push (revObj a ((its.toArray.size : Int) - 1))).get? b = some o := fun b o e => Heap.get?_push_of_some _ e
  have hit : (s1.heap.push (revObj a ((its.toArray.size : Int) - 1))).get? s1.heap.objs.size = some (revObj a ((its.toArray.size : Int) - 1)) := Heap.get?_push_size _ rfl
  have I2 : Inv X pins σ H1 { s1 with heap := s1.heap.push (revObj a ((its.toArray.size : Int) - 1)) } := I1.kept (t' := s1.toks) kp
  have W := gv_walks_rev (prog := X.prog) (w := X.w) (A := X.A.in1.in1) hh s1.heap.objs.size a (Nat.ne_of_lt alt) its.toArray
  have sz2 : (s1.heap.push (revObj a ((its.toArray.size : Int) - 1))).objs.size = s1.heap.objs.size + 1 := Heap.size_push ..
  refine gv_call_list_rev (s := { s1 with heap := s1.heap.push (revObj a ((its.toArray.size : Int) - 1)) }) W (fun i s st => st.2.1.typeIs) ⟨Nat.zero_le _, ⟨_, hit, rfl, by show Data.fields _ = Data.fields _; simp⟩, ⟨_, kp _ _ e1, rfl, n, rfl⟩⟩ (fun b hb => ?_) (by simp) (fun s' acc' c' hm hS' hacc => ?_) ?_
  · show b < (s1.heap.push (revObj a ((its.toArray.size : Int) - 1))).objs.size
    rw [sz2]
    rcases List.mem_cons.mp hb with z | z
    · rw [z]; exact Nat.lt_succ_self _
    · rw [List.mem_singleton.mp z]; exact Nat.lt_succ_of_lt alt
  · have hS : H1 (s1.heap.push (revObj a ((its.toArray.size : Int) - 1))).objs.size = none := I2.hok.fresh (Nat.le_refl _)
    have hn0 : H1 s1.heap.objs.size = none := I1.hok.fresh (Nat.le_refl _)
    have old : ∀ b o, b ≠ s1.heap.objs.size → (s1.heap.push (revObj a ((its.toArray.size : Int) - 1))).get? b = some o → s'.heap.get? b = some o := fun b o hb e =>
      hm.heap b o (fun z => by
        rcases List.mem_cons.mp z with z | z
        · exact absurd (Heap.lt_size e) (by rw [z]; exact Nat.lt_irrefl _)
        · exact hb (List.mem_singleton.mp z)) (Heap.get?_push_of_some _ e)
    have neS : ∀ b o, (s1.heap.push (revObj a ((its.toArray.size : Int) - 1))).get? b = some o → b ≠ (s1.heap.push (revObj a ((its.toArray.size : Int) - 1))).objs.size := fun b o e => Nat.ne_of_lt (Heap.lt_size e)
    have tr : ∀ b u, H1 b = some u → b ≠ (s1.heap.push (revObj a ((its.toArray.size : Int) - 1))).objs.size ∧ b ≠ s1.heap.objs.size := fun b u e => ⟨ne_of_none e hS, ne_of_none e hn0⟩
    have items := rev_items hacc
    have hok : HOk X.prog X.w (upd H1 (s1.heap.push (revObj a ((its.toArray.size : Int) - 1))).objs.size (.lst xs.reverse)) s'.heap := fun b u e => by
      by_cases hb : b = (s1.heap.push (revObj a ((its.toArray.size : Int) - 1))).objs.size
      · subst hb
        rw [upd_same] at e
        cases e
        refine ⟨by rw [List.length_reverse, hl]; have := (show its.length ≤ sizeLine from by rw [← hl]; exact (I1.lstM ha1).1); exact this, its.reverse, c', rv.reverse, ?_⟩
        rw [← items]
        exact hS'
      · rw [upd_ne hb] at e
        refine (I2.hok b u e).stay (fun c v hc' q => old c v ?_ q) (fun c z => by rw [upd_ne (tr c _ z).1]; exact z) fun c ys z => by rw [upd_ne (tr c _ z).1]; exact z
        rcases hc' with z | z
        · rw [z]; exact (tr b u e).2
        · exact (tr c _ z).2
    obtain ⟨hh', g', d', t', os'⟩ := s'
    have e1' : os' = s1.os := hm.os
    have e2' : s1.gens = g' := hm.gens
    subst e1'
    have J := I2.step (h' := hh') (H' := upd H1 (s1.heap.push (revObj a ((its.toArray.size : Int) - 1))).objs.size (.lst xs.reverse)) (ch := [s1.heap.objs.size]) (g' := g') (t' := t') (d' := d') (fun b hb => by
        rw [List.mem_singleton.mp hb]
        refine ⟨.inr I1.sz, Nat.ne_of_gt I1.lt, fun z c ec => ?_, fun p hp => ?_⟩
        · obtain ⟨v', hcell⟩ := I1.cell z c ec
          exact Nat.ne_of_lt hcell.lt
        · exact Nat.ne_of_lt (Heap.lt_size (I1.pin p hp).1)) (fun b o _ _ hc' e _ => old b o (fun z => hc' (by simp [z])) e) (fun b o _ _ hc' e _ => ⟨o.slots, old b o (fun z => hc' (by simp [z])) e⟩)
      (fun b o _ e n => by rw [upd_ne (neS b o e)]; exact n) (fun b o hc' e => ⟨o, old b o (fun z => hc' (by simp [z])) e⟩) (fun b ys z => by rw [upd_ne (tr b _ z).1]; exact z) (fun b o' ys z => by rw [upd_ne (tr b _ z).1]; exact z)
      (fun b ps z => ⟨#[], by rw [upd_ne (tr b _ z).1, z]; simp⟩) (fun m hm' => by
        obtain ⟨o, es, ep, ho, r⟩ := hm'
        exact ⟨o, es, ep, old _ o (Nat.ne_of_lt I1.lt) ho, r⟩) hok (by rw [← e2']; exact I1.bare)
    exact ⟨.ref _, _, J, rfl, q _ hS⟩
  · have := (I1.lstM ha1).1
    rw [List.size_toArray, ← hl]; exact this
namespace R
variable {X : Cx}
theorem pe_listrev {e : Expr} {te : TE} {p1 p2 pos pos2 : Pos} (hc : X.calm = true) (hgL : Gl X "list") (hmL : X.mg "list" = none) (hgR : Gl X "reversed") (hmR : X.mg "reversed" = none) (ha : QE X e te) (hs : noStar e = true := by rfl) :
    QE X (.Call (.Name "list" p1) [.Call (.Name "reversed" p2) [e] [] pos2] [] pos) (tRev te) := ⟨L2.pe_listrev hc hgL hmL hgR hmR ha.h hs⟩
end R
end L2
namespace L2
open PySem PySem.Spec PyProof.Rows
end L2
namespace L2
open PySem PySem.Spec PyProof.Rows
end L2


set_option Elab.async false
set_option linter.all false
set_option maxRecDepth 100000
/-! raise, try, except, isinstance: exceptions of own classes -/
namespace L2
open PySem PySem.Spec PyProof.Rows PySem.W

/-! ### an exception of an own class on its way -/


section
open Builtin Builtin.ObjectAttr Builtin.Getset_descriptor
variable {prog : Program} {w : World} {A : Around} {E : Value → Shared → Prop} {h : Heap} {g : Array GenState} {d : Drawn} {t : Nat} {os : OsState} {a C : Addr} {o : Obj} {K : Frag}


end

/-! ### isinstance of an exception -/

/-! ### calls where an exception is handled -/
/-! ### except D as n: D an own class; the suite returns -/
section
variable {M : Model} {A : Around} {E : Value → Shared → Prop} {h : Heap} {g : Array GenState} {d : Drawn} {t : Nat} {os : OsState} {a C D : Addr} {o oD : Obj} {K : Frag} {dD : Option Addr} {cD : ClassData} {sD : Array (Option Value)}
end


/-! ### the text's own class, by the written part -/

/-! ### defs that raise, defs that are called in a handler -/
section
variable {P : Program} {w : World} {K : PySem.W.Frag} {mg : Str → Option Value} {base : Heap}
end
namespace R
section
variable {X : Cx} {e : Expr} {es : List Expr} {te : TE} {t : TA} {pos p : Pos}
end
end R
end L2


set_option Elab.async false
set_option linter.all false
set_option maxRecDepth 100000
/-! an exception that passes through a def; raises in loops -/
namespace L2
open PySem PySem.Spec PyProof.Rows PySem.W
section
variable {P : Program} {w : World} {K : PySem.W.Frag} {mg : Str → Option Value} {base : Heap}
end
namespace R
end R
end L2


set_option Elab.async false
set_option linter.all false
set_option maxRecDepth 100000
/-! [elt for target in iter if test], anywhere -/
namespace L2
open PySem PySem.Spec PyProof.Rows
/-! ### the cells that a comprehension takes from around it -/
noncomputable def clOf (cells : List (Str × Addr)) : List (Str × NameKind) → List (Str × Addr) → List (Str × Addr)
  | [], acc => acc
  | (n, k) :: r, acc => if (k == .free) = true then clOf cells r ((n, (cells.lookup n).getD 0) :: acc) else clOf cells r acc
theorem clOf_run {env : Env} : ∀ (names : List (Str × NameKind)) (acc : List (Str × Addr)), (∀ y ∈ names, y.2 = .free → ∃ c, env.cells.lookup y.1 = some c) →
    (forIn names acc fun (x : Str × NameKind) (r : List (Str × Addr)) => (if (x.2 == .free) = true then do let a ← cellOf env x.1; pure (ForInStep.yield ((x.1, a) :: r)) else pure (ForInStep.yield r) : Sem (ForInStep (List (Str × Addr))))) = (pure (clOf env.cells names acc) : Sem _)
  | [], acc, _ => rfl
  | (n, k) :: r, acc, h => by
    have ih := fun acc => clOf_run (env := env) r acc fun y hy => h y (List.mem_cons_of_mem _ hy)
    rw [List.forIn_cons]
    cases hk : (k == NameKind.free) with
    | false =>
      have e1 : clOf env.cells ((n, k) :: r) acc = clOf env.cells r acc := by
        show (if (k == NameKind.free) = true then _ else _) = _
        rw [hk]; rfl
      rw [e1, ← ih acc]
      rfl
    | true =>
      have hk' : k = .free := by simpa using hk
      obtain ⟨c, hc⟩ := h (n, k) List.mem_cons_self hk'
      have e1 : clOf env.cells ((n, k) :: r) acc = clOf env.cells r ((n, c) :: acc) := by
        show (if (k == NameKind.free) = true then clOf env.cells r ((n, (env.cells.lookup n).getD 0) :: acc) else _) = _
        rw [hk, show env.cells.lookup n = some c from hc]; rfl
      rw [e1, ← ih]
      have e2 : cellOf env n = pure c := by
        unfold cellOf
        rw [show env.cells.lookup n = some c from hc]
      rw [show cellOf env (n, k).fst = pure c from e2]; rfl
theorem closure_of {scope : Scope} {env : Env} (h : ∀ y ∈ scope.names, y.2 = .free → ∃ c, env.cells.lookup y.1 = some c) : closureFor scope env = pure (clOf env.cells scope.names []) := by
  have q := clOf_run (env := env) scope.names [] h
  have e : closureFor scope env = Bind.bind (forIn scope.names [] fun (x : Str × NameKind) (r : List (Str × Addr)) => (if (x.2 == .free) = true then do let a ← cellOf env x.1; pure (ForInStep.yield ((x.1, a) :: r)) else pure (ForInStep.yield r) : Sem (ForInStep (List (Str × Addr))))) (fun r => pure r) := rfl
  rw [e, q]; rfl
theorem clOf_acc {cells : List (Str × Addr)} {z : Str} : ∀ (names : List (Str × NameKind)) (acc : List (Str × Addr)), (acc.lookup z).isSome = true → ((clOf cells names acc).lookup z).isSome = true
  | [], _, h => h
  | (n, k) :: r, acc, h => by
    unfold clOf
    split
    · refine clOf_acc r _ ?_
      rw [List.lookup_cons]
      cases (z == n)
      · exact h
      · rfl
    · exact clOf_acc r _ h
theorem clOf_has {cells : List (Str × Addr)} {z : Str} : ∀ (names : List (Str × NameKind)) (acc : List (Str × Addr)), (z, NameKind.free) ∈ names → ((clOf cells names acc).lookup z).isSome = true
  | [], _, h => nomatch h
  | (n, k) :: r, acc, h => by
    unfold clOf
    rcases List.mem_cons.mp h with e | h
    · cases e
      rw [if_pos (by rfl)]
      refine clOf_acc r _ ?_
      rw [List.lookup_cons, show (z == z) = true from by simp]; rfl
    · split
      · exact clOf_has r _ h
      · exact clOf_has r _ h
theorem clOf_sub {cells : List (Str × Addr)} {z : Str} {c : Addr} : ∀ (names : List (Str × NameKind)) (acc : List (Str × Addr)), (∀ y ∈ names, y.2 = .free → ∃ c, cells.lookup y.1 = some c) → (∀ z c, acc.lookup z = some c → cells.lookup z = some c) →
    (clOf cells names acc).lookup z = some c → cells.lookup z = some c
  | [], _, _, h, e => h _ _ e
  | (n, k) :: r, acc, hn, h, e => by
    unfold clOf at e
    split at e
    · rename_i hk
      have hk' : k = .free := by simpa using hk
      obtain ⟨c', hc⟩ := hn (n, k) List.mem_cons_self hk'
      refine clOf_sub r _ (fun y hy => hn y (List.mem_cons_of_mem _ hy)) (fun z1 c1 e9 => ?_) e
      rw [show cells.lookup n = some c' from hc] at e9
      rw [List.lookup_cons] at e9
      cases hz : (z1 == n) with
      | false => rw [hz] at e9; exact h _ _ e9
      | true =>
        rw [hz] at e9
        have hz' : z1 = n := by simpa using hz
        rw [hz', show cells.lookup n = some c' from hc]
        exact e9
    · exact clOf_sub r _ (fun y hy => hn y (List.mem_cons_of_mem _ hy)) h e
structure CompOk2 (X : Cx) (scope : Scope) (cl : List (Str × Addr)) (xs ns : List Str) (fr : List Nat) : Prop where
  clos : closureFor scope X.env = pure cl
  sub : ∀ z c, cl.lookup z = some c → X.env.cells.lookup z = some c
  kind : scope.kind = .function
  nocell : ∀ y ∈ scope.names, y.2 ≠ .cell
  names : ∀ y ∈ scope.names, y.2 = .local → scope.names.lookup y.1 = some .local
  has : ∀ z, ((relabel scope X.env).names.lookup z = some .cell ∨ (relabel scope X.env).names.lookup z = some .free) → ∃ c, cl.lookup z = some c
  out : ∀ (j : Nat) (z : Str), ns[j]? = some z → ∃ i, fr[j]? = some i ∧ X.N[i]? = some z ∧ X.env.scope.names.lookup z = some .cell ∧ (relabel scope X.env).names.lookup z = some .cell
  len : fr.length = ns.length
/-- what can be looked at: the scope around, the comprehension's, the names -/
noncomputable def compB (sc cs : List (Str × NameKind)) (N ns : List Str) (fr : List Nat) : Bool :=
  cs.all (fun y => y.2 != .cell) && cs.all (fun y => y.2 != .local || cs.lookup y.1 == some .local) && cs.all (fun y => y.2 != .free || sc.lookup y.1 == some .cell)
    && (fr.length == ns.length) && (List.range ns.length).all (fun j => match ns[j]?, fr[j]? with
      | some z, some i => N[i]? == some z && sc.lookup z == some .cell && cs.lookup z == some .free
      | _, _ => false)
theorem lookup_relabel_free {env : Env} (hk : env.scope.kind = .function) : ∀ {names : List (Str × NameKind)} {x : Str}, names.lookup x = some .free → env.kindOf x = some .cell →
    (names.map fun (n, k) => if (k == NameKind.free && env.scope.kind == .function && env.kindOf n == some .cell) then (n, NameKind.cell) else (n, k)).lookup x = some .cell
  | [], _, h, _ => by simp at h
  | (n, k) :: r, x, h, hc => by
    have ih := @lookup_relabel_free env hk r x
    show List.lookup x ((if (k == NameKind.free && env.scope.kind == .function && env.kindOf n == some .cell) = true then (n, NameKind.cell) else (n, k)) :: _) = _
    cases hx : x == n with
    | true =>
      have e : x = n := by simpa using hx
      simp only [List.lookup_cons, hx] at h
      cases h
      subst e
      rw [if_pos (by rw [hk, hc]; decide)]
      simp only [List.lookup_cons, hx]
    | false =>
      simp only [List.lookup_cons, hx] at h
      by_cases hc' : (k == NameKind.free && env.scope.kind == .function && env.kindOf n == some .cell) = true
      · rw [if_pos hc']; simp only [List.lookup_cons, hx]; exact ih h hc
      · rw [if_neg hc']; simp only [List.lookup_cons, hx]; exact ih h hc
theorem relabel_mem {env : Env} : ∀ {names : List (Str × NameKind)} {x : Str} {k : NameKind},
    (names.map fun (n, k) => if (k == NameKind.free && env.scope.kind == .function && env.kindOf n == some .cell) then (n, NameKind.cell) else (n, k)).lookup x = some k → (∀ y ∈ names, y.2 ≠ .cell) → (k = .cell ∨ k = .free) → (x, NameKind.free) ∈ names
  | [], _, _, h, _, _ => by simp at h
  | (n, k0) :: r, x, k, h, hn, hk => by
    have ih := @relabel_mem env r x k
    have h' : List.lookup x ((if (k0 == NameKind.free && env.scope.kind == .function && env.kindOf n == some .cell) = true then (n, NameKind.cell) else (n, k0)) :: r.map fun (n, k) => if (k == NameKind.free && env.scope.kind == .function && env.kindOf n == some .cell) then (n, NameKind.cell) else (n, k)) = some k := h
    cases hx : x == n with
    | false =>
      refine List.mem_cons_of_mem _ (ih ?_ (fun y hy => hn y (List.mem_cons_of_mem _ hy)) hk)
      by_cases hc' : (k0 == NameKind.free && env.scope.kind == .function && env.kindOf n == some .cell) = true
      · rw [if_pos hc'] at h'; simpa only [List.lookup_cons, hx] using h'
      · rw [if_neg hc'] at h'; simpa only [List.lookup_cons, hx] using h'
    | true =>
      have e : x = n := by simpa using hx
      subst e
      by_cases hc' : (k0 == NameKind.free && env.scope.kind == .function && env.kindOf x == some .cell) = true
      · have : k0 = .free := by
          rw [Bool.and_eq_true, Bool.and_eq_true] at hc'
          simpa using hc'.1.1
        rw [this]; exact List.mem_cons_self
      · rw [if_neg hc'] at h'
        simp only [List.lookup_cons, hx] at h'
        have : k0 = k := Option.some.inj h'
        subst this
        rcases hk with e | e
        · exact absurd e (hn (x, k0) List.mem_cons_self)
        · rw [e]; exact List.mem_cons_self
theorem CompOk2.of {X : Cx} {scope sc : Scope} {N xs ns : List Str} {fr : List Nat} (hsc : X.env.scope = sc) (hN : X.N = N) (hcl : ∃ n, X.env.cells = cellsFrom n X.env.scope.names []) (hk : X.env.scope.kind = .function) (kind : scope.kind = .function)
    (h : compB sc.names scope.names N ns fr = true) : CompOk2 X scope (clOf X.env.cells scope.names []) xs ns fr := by
  subst hsc hN
  unfold compB at h
  rw [Bool.and_eq_true, Bool.and_eq_true, Bool.and_eq_true, Bool.and_eq_true] at h
  obtain ⟨⟨⟨⟨h1, h2⟩, h3⟩, h4⟩, h5⟩ := h
  have n1 : ∀ y ∈ scope.names, y.2 ≠ .cell := fun y hy e => by
    have := List.all_eq_true.mp h1 y hy
    rw [e] at this; cases this
  have n2 : ∀ y ∈ scope.names, y.2 = .local → scope.names.lookup y.1 = some .local := fun y hy e => by
    have := List.all_eq_true.mp h2 y hy
    rw [e] at this
    simpa using this
  have n3 : ∀ y ∈ scope.names, y.2 = .free → X.env.scope.names.lookup y.1 = some .cell := fun y hy e => by
    have := List.all_eq_true.mp h3 y hy
    rw [e] at this
    simpa using this
  have n4 : ∀ y ∈ scope.names, y.2 = .free → ∃ c, X.env.cells.lookup y.1 = some c := fun y hy e => by
    obtain ⟨n, hn⟩ := hcl
    rw [hn]
    exact cell_has (n3 y hy e)
  refine ⟨closure_of n4, fun z c e => clOf_sub _ [] n4 (fun z c e => by cases e) e, kind, n1, n2, fun z hz => ?_, fun j z e => ?_, by simpa using h4⟩
  · refine Option.isSome_iff_exists.mp (clOf_has _ [] ?_)
    rcases hz with q | q
    · exact relabel_mem q n1 (.inl rfl)
    · exact relabel_mem q n1 (.inr rfl)
  · have hj : j < ns.length := (List.getElem?_eq_some_iff.mp e).1
    have := List.all_eq_true.mp h5 j (List.mem_range.mpr hj)
    rw [e] at this
    have h4' : fr.length = ns.length := by simpa using h4
    have hj' : j < fr.length := by rw [h4']; exact hj
    rw [List.getElem?_eq_getElem hj'] at this
    have this' : (X.N[fr[j]]? == some z && X.env.scope.names.lookup z == some .cell && scope.names.lookup z == some .free) = true := this
    rw [Bool.and_eq_true, Bool.and_eq_true] at this'
    obtain ⟨⟨a1, a2⟩, a3⟩ := this'
    have a2' : X.env.scope.names.lookup z = some .cell := by simpa using a2
    exact ⟨fr[j], List.getElem?_eq_getElem hj', by simpa using a1, a2', lookup_relabel_free hk (by simpa using a3) a2'⟩
/-! ### the tests of a comprehension -/
noncomputable def PF (X : Cx) (ifs : List Expr) (t : TT) : Prop :=
  ∀ (pins : List (Addr × Obj)) (s : Shared) (σ : St) (H : Hp) (Q : Bool → Hp → Prop), Inv X pins σ H s → t σ H Q →
    wpAny (model X.prog X.w) X.A (forIn ifs true fun c r => if r = true then do let ok ← isTrue c X.env (eval c X.env); pure (ForInStep.yield ok) else pure (ForInStep.yield r)) (TP X pins σ Q) X.xe s
noncomputable def fNil : TT := fun _ H Q => Q true H
theorem pf_nil {X : Cx} : PF X [] fNil := fun pins s σ H Q I h => wpAny_tests_nil ⟨H, I, h⟩
theorem pf_one {X : Cx} {c : Expr} {t : TT} (h : PT X c t) : PF X [c] t := fun pins s σ H Q I hw => wpAny_tests_one (h pins s σ H Q I hw)
section
variable {prog : Program} {w : World} {A : Around} {R : Result → Shared → Prop} {s : Shared}
theorem comp_loop2 {elt target iter : Expr} {ifs : List Expr} {scope : Scope} {pos : Pos} {it acc : Value} {env : Env} (I : Nat → Shared → Prop)
    (turn : ∀ n s, I n s → wpAny (model prog w) A (pyNext it) (fun r s₁ => match r with
      | none => R (.ok .next) s₁
      | some v => wpAny (model prog w) A (letOwnedTupleGo target it v) (fun _ s₁' => wpAny (model prog w) A (assign target env v) (fun _ s₂ =>
          wpAny (model prog w) A (forIn ifs true fun c r => if r = true then do let ok ← isTrue c env (eval c env); pure (ForInStep.yield ok) else pure (ForInStep.yield r)) (fun ok s₂' => if ok = true then wpAny (model prog w) A (eval elt env) (fun x s₃ =>
            wpAny (model prog w) A (call (.builtin "list.append") [acc, x]) (fun _ s₄ => ∃ m, m < n ∧ I m s₄) (notedBy (model prog w) A env fun e s' => R (.error e) s') s₃) (notedBy (model prog w) A env fun e s' => R (.error e) s') s₂'
            else ∃ m, m < n ∧ I m s₂') (notedBy (model prog w) A env fun e s' => R (.error e) s') s₂)
          (notedBy (model prog w) A env fun e s' => R (.error e) s') s₁') (notedBy (model prog w) A env fun e s' => R (.error e) s') s₁) (notedBy (model prog w) A env fun e s' => R (.error e) s') s)
    (n : Nat) (h : I n s) : codeAny (model prog w) A (.compLoop (.ListComp elt [⟨target, iter, ifs, 0⟩] scope pos) 0 it acc env) R s := by
  refine codeAny_loop rfl I (fun n s hI => ?_) n h
  show wpAny _ A ((compTurn (.ListComp elt [⟨target, iter, ifs, 0⟩] scope pos) 0 it acc env).onRaise (fun x => do noteFrame x env; theTreesLotGoes x)) _ _ s
  refine wpAny_noted ?_
  rw [compTurn_list]
  refine wpAny_bind (wpAny_standAt (wpAny_bind (wpAny_mono (turn n s hI) (fun r s₁ h₁ => ?_) fun _ _ h' => h')))
  cases r with
  | none => exact wpAny_pure h₁
  | some v =>
    refine wpAny_bind (wpAny_mono h₁ (fun _ s₀ h₀' => ?_) fun _ _ h' => h')
    refine wpAny_bind (wpAny_mono h₀' (fun _ s₂ h₂ => ?_) fun _ _ h' => h')
    refine wpAny_bind (wpAny_mono h₂ (fun okb s₃ h₃ => ?_) fun _ _ h' => h')
    cases okb with
    | false => exact wpAny_pure ⟨rfl, h₃⟩
    | true => exact wpAny_bind (wpAny_bind (wpAny_mono h₃ (fun x s₄ h₄ => wpAny_bind (wpAny_mono h₄ (fun _ s₅ h₅ => wpAny_pure (wpAny_pure ⟨rfl, h₅⟩)) fun _ _ h' => h')) fun _ _ h' => h'))
end
/-- the end of a comprehension's reading: J the iterator; Pv k: behind k turns -/
noncomputable def CompGoal (J : It) (nx : Nat) (g : TG) (fr : List Nat) (tt : TT) (te : TE) (σ : St) (Q : VK) (H1 : Hp) (l : Addr) : Prop :=
  ∃ W : Nat → Nat → Hp → Prop, (∃ m, W 0 m (upd H1 l (.lst []))) ∧ ∀ k m H, W k m H →
    (J.stop k H ∧ Q (.ref l) H) ∨ (J.go k H ∧ ∀ v H', J.yld k H v H' → ∀ os : St, os.length = nx → g v (os ++ inner σ fr) H' fun σ2 H2 => (∃ os' : St, os'.length = nx ∧ σ2 = os' ++ inner σ fr) ∧ tt σ2 H2 fun b H3 =>
      if b = true then te σ2 H3 fun y H4 => ∃ zs m', H4 l = some (.lst zs) ∧ zs.length < sizeLine ∧ m' < m ∧ W (k + 1) m' (upd H4 l (.lst (zs ++ [y]))) else ∃ m', m' < m ∧ W (k + 1) m' H3)
/-- nx: how many names the target has; fr: where the names that it takes from around stand there -/
noncomputable def tCompE (wi : TI) (nx : Nat) (fr : List Nat) (g : TG) (tt : TT) (te : TE) : TE := fun σ H Q => wi σ H fun J H1 => ∀ l, H1 l = none → CompGoal J nx g fr tt te σ Q H1 l
theorem comp_all {X : Cx} {pins : List (Addr × Obj)} {σ : St} {H : Hp} {s : Shared} {tg iter elt : Expr} {ifs : List Expr} {scope : Scope} {pos pos' : Pos} {cl : List (Str × Addr)} {xs ns : List Str} {fr : List Nat} {wi : TI} {g : TG} {tt : TT} {te : TE}
    {use : Option (Value → Sem Unit)} {Qv : Value → Shared → Prop} {R : VK}
    (hc : X.calm = true) (ok : CompOk2 X scope cl xs ns fr) (hI : PI X tg iter wi) (hg : ∀ C s₂ H2 fp, PG (cxComp X scope cl (xs ++ ns) C s₂ H2 fp) tg g) (hf : ∀ C s₂ H2 fp, PF (cxComp X scope cl (xs ++ ns) C s₂ H2 fp) ifs tt)
    (he : ∀ C s₂ H2 fp, PE (cxComp X scope cl (xs ++ ns) C s₂ H2 fp) elt te) (hs : ∀ x, foldedSetIterable iter X.env x = pure x)
    (I : Inv X pins σ H s) (h : tCompE wi xs.length fr g tt te σ H R)
    (fin : ∀ (C l : Addr) (m : Str → Option Value) (s4 : Shared) (Hk : Hp), Inv X pins σ Hk s4 → s4.heap.Ns C m → Hk C = none → C ≠ X.env.locals → (∀ z c, X.env.cells.lookup z = some c → c ≠ C) → X.s₀.heap.objs.size ≤ C → (∀ p ∈ X.pn ++ pins, p.1 ≠ C) →
      R (.ref l) Hk → compPost (model X.prog X.w) X.A X.xe use Qv (.ref l) C (.ok .next) s4) :
    wpAny (model X.prog X.w) X.A (comprehension (.ListComp elt [⟨tg, iter, ifs, 0⟩] scope pos) scope X.env pos' (newList []) false (eval iter X.env) use) Qv X.xe s := by
  refine wpAny_comprehension_free (use := use) rfl hs ok.clos ok.kind ok.names ?_
  refine thn (hI pins s σ H _ I h) fun v s1 h1 => thn h1 fun itv s2 h2 => ?_
  obtain ⟨it, fp, tn, J, H2, rfl, I2, T, st2, f2, rd⟩ := h2
  refine wpAny_newObj_type (wpAny_newFunctionEnv ok.nocell (by intro y hy; simp at hy) (fun h₁ hns₁ hsb₁ => ?_) ok.kind)
  dsimp only at hns₁ hsb₁ ⊢
  generalize hG : s2.heap.push { cls := .type "list", dict := none, data := .seq ([] : List Value).toArray } = G at hns₁ hsb₁ ⊢
  have hC : G.objs.size = s2.heap.objs.size + 1 := by rw [← hG, Heap.size_push]
  have below : ∀ b, b < s2.heap.objs.size → b ≠ G.objs.size ∧ b ≠ s2.heap.objs.size := fun b hb => ⟨by rw [hC]; exact Nat.ne_of_lt (Nat.lt_succ_of_lt hb), Nat.ne_of_lt hb⟩
  have old : ∀ b o, s2.heap.get? b = some o → h₁.get? b = some o := fun b o e => hsb₁.extBut b o (below b (Heap.lt_size e)).1 (Heap.get?_push_of_some _ (hG ▸ Heap.get?_push_of_some _ e))
  have hacc : h₁.get? s2.heap.objs.size = some { cls := .type "list", data := .seq ([] : List Value).toArray } :=
    hsb₁.extBut _ _ (by rw [hC]; exact Nat.ne_of_lt (Nat.lt_succ_self _)) (Heap.get?_push_of_some _ (hG ▸ Heap.get?_push_size _ rfl))
  have lfree : H2 s2.heap.objs.size = none := I2.hok.fresh (Nat.le_refl _)
  have fplt : ∀ b ∈ fp, b < s2.heap.objs.size := fun b hb => by
    obtain ⟨o, e, _⟩ := T.obj 0 _ st2 b hb
    exact Heap.lt_size e
  have stk : ∀ b ∈ frs X.stack, b ∈ X.env.locals :: X.fs := I2.stkSub
  have clc : ∀ z c, cl.lookup z = some c → c < s2.heap.objs.size := fun z c e => by
    obtain ⟨v, q⟩ := I2.cell z c (ok.sub z c e)
    exact q.lt
  have okC : (cxComp X scope cl (xs ++ ns) G.objs.size s2 H2 fp).Ok := by
    refine ⟨I2.ok.mod, ok.kind, I2.ok.glob, I2.ok.blt, ?_, fun a b c h1 h2 => I2.ok.inj a b c (ok.sub a c h1) (ok.sub b c h2), fun z hz => ok.has z hz, fun z c hf => ?_, fun _ => I2.ok.hd hc, I2.ok.frames, .inl rfl, fun b hb => ⟨(below b (fplt b hb)).1, fun z c e => ?_⟩, I2.bs, Nat.le_trans I2.ok.bsz I2.sz, fun b o e hb => ?_, fun b hb => ?_, I2.stack, I2.stkFree⟩
    · show s2.heap.objs.size ≤ G.objs.size
      rw [hC]; exact Nat.le_succ _
    · exact absurd (show false = true from hf) Bool.false_ne_true
    · exact (f2 b hb).2.2.2.2.1 z c (ok.sub z c e)
    · rcases (f2 b hb).2.2.2.1 with z | z
      · exact I2.ok.noex b o e z
      · exact absurd (Nat.lt_of_lt_of_le (Heap.lt_size e) (Nat.le_trans I2.ok.bsz z)) (Nat.lt_irrefl _)
    · intro z
      rcases List.mem_cons.mp (stk b z) with q | q
      · exact (f2 b hb).2.1 q
      · exact (f2 b hb).2.2.1 q
  have fpC : ∀ {H' : Hp}, (∀ b ∈ fp, H' b = none) → ∀ b ∈ fp, FpOk (cxComp X scope cl (xs ++ ns) G.objs.size s2 H2 fp) [] H' b := fun hn b hb =>
    ⟨hn b hb, (below b (fplt b hb)).1, okC.exfs b hb, .inl hb, fun z c e => (f2 b hb).2.2.2.2.1 z c (ok.sub z c e), fun p hp => absurd (show p ∈ ([] : List (Addr × Obj)) from hp) (by simp)⟩
  have I4 : Inv (cxComp X scope cl (xs ++ ns) G.objs.size s2 H2 fp) [] (List.replicate xs.length none ++ inner σ fr) (upd H2 s2.heap.objs.size (.lst [])) { s2 with heap := h₁, toks := s2.toks + ([] : List (Str × Value)).length } := by
    refine ⟨okC, rfl, I2.bare, Un.laid old (Nat.le_refl _) lfree, ⟨_, hns₁, fun j z u e1 e2 e3 => ?_⟩, fun z c e => ?_, ?_, fun z c e => ?_, fun p hp => absurd (show p ∈ ([] : List (Addr × Obj)) from hp) (by simp), I2.hok.laid old (Nat.le_refl _) ⟨Nat.zero_le _, [], 0, .nil, hacc⟩, ?_⟩
    · by_cases hj : j < xs.length
      · rw [List.getElem?_append_left (by rw [List.length_replicate]; exact hj), List.getElem?_replicate, if_pos hj] at e2
        have e2' : (none : Option V) = some u := Option.some.inj e2
        cases e2'
      · have hj' : xs.length ≤ j := Nat.not_lt.mp hj
        rw [List.getElem?_append_right (by rw [List.length_replicate]; exact hj'), List.length_replicate] at e2
        have e1' : ns[j - xs.length]? = some z := by
          have e1'' : (xs ++ ns)[j]? = some z := e1
          rw [List.getElem?_append_right hj'] at e1''; exact e1''
        obtain ⟨i', q1, q2, q3, q4⟩ := ok.out _ z e1'
        have e3' : σ[i']? = some (some u) := by
          unfold inner at e2
          rw [List.getElem?_map, q1] at e2
          have e4 : (σ[i']?).join = some u := Option.some.inj e2
          cases q : σ[i']? with
          | none => rw [q] at e4; cases e4
          | some o => rw [q] at e4; cases o with
            | none => cases e4
            | some o => cases e4; rfl
        obtain ⟨m, hn, hl⟩ := I2.loc
        obtain ⟨val, r, l⟩ := hl i' z u q2 e3' (.inr (.inl q3))
        refine ⟨val, r, .inr ⟨.inl q4, ?_⟩⟩
        obtain ⟨c', hc'⟩ := ok.has z (.inl q4)
        rcases l with ⟨k1, _⟩ | ⟨_, c, hcc, hcell⟩
        · have k1' : X.env.scope.names.lookup z = some .local := k1
          rw [q3] at k1'; cases k1'
        · rw [ok.sub z c' hc'] at hcc
          cases hcc
          obtain ⟨ob, ho, hd⟩ := hcell
          exact ⟨c', hc', ob, old _ _ ho, hd⟩
    · obtain ⟨v', ob, ho, hd⟩ := I2.cell z c (ok.sub z c e)
      exact ⟨v', ob, old _ _ ho, hd⟩
    · show upd H2 s2.heap.objs.size (.lst []) G.objs.size = none
      rw [upd_ne (by rw [hC]; exact Nat.ne_of_gt (Nat.lt_succ_self _))]
      exact I2.hok.fresh (by rw [hC]; exact Nat.le_succ _)
    · rw [upd_ne (Nat.ne_of_lt (clc z c e))]
      exact I2.freeC z c (ok.sub z c e)
    · show (List.replicate xs.length none ++ inner σ fr).length = (xs ++ ns).length
      unfold inner
      rw [List.length_append, List.length_append, List.length_map, ok.len, List.length_replicate]
  obtain ⟨W, ⟨m0, w0⟩, turns⟩ := rd _ lfree
  have loop : codeAny (model X.prog X.w) X.A (.compLoop (.ListComp elt [⟨tg, iter, ifs, 0⟩] scope pos) 0 (.ref it) (.ref s2.heap.objs.size) (compEnvC scope cl G.objs.size X.env))
      (compPost (model X.prog X.w) X.A X.xe use Qv (.ref s2.heap.objs.size) G.objs.size) { s2 with heap := h₁, toks := s2.toks + ([] : List (Str × Value)).length } := by
    refine comp_loop2 (fun n s' => ∃ k Hk σk, Inv (cxComp X scope cl (xs ++ ns) G.objs.size s2 H2 fp) [] σk Hk s' ∧ (∃ os : St, os.length = xs.length ∧ σk = os ++ inner σ fr) ∧ tn k s'.heap ∧ (∀ b ∈ fp, Hk b = none) ∧ W k n Hk) ?_ m0
      ⟨0, _, _, I4, ⟨_, List.length_replicate, rfl⟩, T.keep _ _ _ st2 fun b _ o e => old b o e, fun b hb => by rw [upd_ne (below b (fplt b hb)).2]; exact (f2 b hb).1, w0⟩
    rintro n s3 ⟨k, Hk, σk, I3, ⟨os, hol, hσ⟩, st3, fr3, w3⟩
    subst hσ
    rcases turns k n Hk w3 with ⟨stop, qn⟩ | ⟨go, step⟩
    · refine thn (T.done (cxComp X scope cl (xs ++ ns) G.objs.size s2 H2 fp) rfl rfl rfl rfl k [] s3 _ Hk _ I3 (fpC fr3) st3 stop) fun r s4 zz => ?_
      obtain ⟨hr, I5⟩ := zz
      subst hr
      have J5 : Inv X pins σ Hk s4 := I2.call' I5.os I5.base I5.hok I5.bare fun b hb => ⟨(f2 b hb).2.2.2.1, (f2 b hb).2.1, (f2 b hb).2.2.2.2.1, (f2 b hb).2.2.2.2.2⟩
      obtain ⟨mC, hnC, _⟩ := I5.loc
      have neL : G.objs.size ≠ X.env.locals := Nat.ne_of_gt (Nat.lt_trans I2.lt (by rw [hC]; exact Nat.lt_succ_self _))
      have neCell : ∀ z c, X.env.cells.lookup z = some c → c ≠ G.objs.size := fun z c e q => by
        obtain ⟨v', hcell⟩ := I2.cell z c e
        have := hcell.lt
        rw [q, hC] at this
        exact absurd this (Nat.not_lt.mpr (Nat.le_succ _))
      exact fin G.objs.size s2.heap.objs.size mC s4 Hk J5 hnC I5.free neL neCell (Nat.le_trans I2.sz (by rw [hC]; exact Nat.le_succ _)) (fun p hp q => by
        have := Heap.lt_size (I2.pin p hp).1
        rw [q, hC] at this
        exact absurd this (Nat.not_lt.mpr (Nat.le_succ _))) qn
    · refine thn (T.item (cxComp X scope cl (xs ++ ns) G.objs.size s2 H2 fp) rfl rfl rfl rfl k [] s3 _ Hk _ I3 (fpC fr3) st3 go) fun r s4 zz => ?_
      obtain ⟨u, hr, h4⟩ := zz
      subst hr
      refine thn h4 fun _ s5 zz => ?_
      obtain ⟨val, H5, I5, r5, y5, st5, fr5⟩ := zz
      have I5' := I5.pinned (fpC fr5) (T.obj _ _ st5)
      refine wpAny_mono (hg _ _ _ _ _ s5 _ H5 val u _ I5' r5 (step val H5 y5 os hol)) (fun _ s6 zz => ?_) fun _ _ z => z.elim
      obtain ⟨σ6, H6, I6, ⟨os6, hol6, hσ6⟩, q6⟩ := zz
      subst hσ6
      have back : ∀ {H8 : Hp} {s8 : Shared} {m' : Nat}, Inv (cxComp X scope cl (xs ++ ns) G.objs.size s2 H2 fp) ([] ++ pinsAt fp s5.heap) (os6 ++ inner σ fr) H8 s8 → m' < n → W (k + 1) m' H8 →
          ∃ m, m < n ∧ ∃ k Hk σk, Inv (cxComp X scope cl (xs ++ ns) G.objs.size s2 H2 fp) [] σk Hk s8 ∧ (∃ os : St, os.length = xs.length ∧ σk = os ++ inner σ fr) ∧ tn k s8.heap ∧ (∀ b ∈ fp, Hk b = none) ∧ W k m Hk := fun {H8 s8 m'} I8 hm w8 => by
        refine ⟨m', hm, k + 1, _, _, I8.unpinned, ⟨os6, hol6, rfl⟩, T.keep _ _ _ st5 fun b hb o e => (I8.pin (b, o) (List.mem_append_right _ (List.mem_append_right _ (mem_pinsAt hb e)))).1, fun b hb => ?_, w8⟩
        obtain ⟨ob, e, d⟩ := T.obj _ _ st5 b hb
        exact (I8.pin (b, ob) (List.mem_append_right _ (List.mem_append_right _ (mem_pinsAt hb e)))).2.1
      refine wpAny_mono (hf _ _ _ _ _ s6 _ H6 _ I6 q6) (fun b s6' zz => ?_) fun _ _ z => z.elim
      obtain ⟨H6', I6', q6'⟩ := zz
      cases b with
      | false =>
        rw [if_neg (by decide)] at q6' ⊢
        obtain ⟨m', hm, w7⟩ := q6'
        exact back I6' hm w7
      | true =>
        rw [if_pos rfl] at q6' ⊢
        refine wpAny_mono (he _ _ _ _ _ s6' _ H6' _ I6' q6') (fun yv s7 zz => ?_) fun _ _ z => z.elim
        obtain ⟨yy, H7, I7, r7, zs, m', hz, hl, hm, w7⟩ := zz
        refine wpAny_mono (mt_append (X := cxComp X scope cl (xs ++ ns) G.objs.size s2 H2 fp) _ s7 _ H7 (.ref s2.heap.objs.size) [yy] (.ref s2.heap.objs.size) [yv] (fun _ H8 => H8 = upd H7 s2.heap.objs.size (.lst (zs ++ [yy]))) I7 rfl (.cons r7 .nil) ⟨_, zs, yy, rfl, rfl, hz, hl, rfl⟩) (fun _ s8 zz => ?_) fun _ _ z => z.elim
        obtain ⟨_, H8, I8, _, e8⟩ := zz
        subst e8
        exact back I8 hm w7
  exact codeAny_compStart_list loop (T.self _ 0 _ _ _ (T.keep _ _ _ st2 fun b _ o e => old b o e) loop)
theorem pe_comp {X : Cx} {tg iter elt : Expr} {ifs : List Expr} {scope : Scope} {pos : Pos} {cl : List (Str × Addr)} {xs ns : List Str} {fr : List Nat} {wi : TI} {g : TG} {tt : TT} {te : TE}
    (hc : X.calm = true) (ok : CompOk2 X scope cl xs ns fr) (hI : PI X tg iter wi) (hg : ∀ C s₂ H2 fp, PG (cxComp X scope cl (xs ++ ns) C s₂ H2 fp) tg g) (hf : ∀ C s₂ H2 fp, PF (cxComp X scope cl (xs ++ ns) C s₂ H2 fp) ifs tt)
    (he : ∀ C s₂ H2 fp, PE (cxComp X scope cl (xs ++ ns) C s₂ H2 fp) elt te) (hs : ∀ x, foldedSetIterable iter X.env x = pure x := by intro _; rfl) :
    PE X (.ListComp elt [⟨tg, iter, ifs, 0⟩] scope pos) (tCompE wi xs.length fr g tt te) := by
  intro pins s σ H Q I h
  rw [eval_ListComp]
  refine comp_all (use := none) hc ok hI hg hf he hs I h fun C l m s4 Hk J5 hn hC neL neCell sz hp q => ?_
  exact ⟨m, hn, fun h' sb => ⟨.ref l, Hk, J5.turned (t' := s4.toks) (it := C) (fun b o hb e => sb.extBut b o hb e) hC neL (.inr sz) neCell hp, rfl, q⟩⟩
theorem ps_compE {X : Cx} {i : Nat} {y : Str} {py spos : Pos} {tg iter elt : Expr} {ifs : List Expr} {scope : Scope} {pos : Pos} {cl : List (Str × Addr)} {xs ns : List Str} {fr : List Nat} {wi : TI} {g : TG} {tt : TT} {te : TE}
    (hc : X.calm = true) (ok : CompOk2 X scope cl xs ns fr) (hN : X.N.Nodup) (hi : X.N[i]? = some y) (hy : Loc X.env.scope y) (hfn : X.fn y = true ∨ X.env.scope.names.lookup y = some .local)
    (hsw : swapsWith (.ListComp elt [⟨tg, iter, ifs, 0⟩] scope pos) (some (.Name y py)) spos.line X.env = pure true)
    (hI : PI X tg iter wi) (hg : ∀ C s₂ H2 fp, PG (cxComp X scope cl (xs ++ ns) C s₂ H2 fp) tg g) (hf : ∀ C s₂ H2 fp, PF (cxComp X scope cl (xs ++ ns) C s₂ H2 fp) ifs tt)
    (he : ∀ C s₂ H2 fp, PE (cxComp X scope cl (xs ++ ns) C s₂ H2 fp) elt te) (hs : ∀ x, foldedSetIterable iter X.env x = pure x := by intro _; rfl) :
    PS X (.Assign [.Name y py] (.ListComp elt [⟨tg, iter, ifs, 0⟩] scope pos) spos) (tAsg (tCompE wi xs.length fr g tt te) (gName i)) := by
  intro pins s σ H D I h
  rw [exec_Assign_Name_used _ _ _ _ hsw]
  refine wpAny_bind (wpAny_standAt (wpAny_bind ?_))
  show wpAny _ X.A (do let _ ← comprehension (.ListComp elt [⟨tg, iter, ifs, 0⟩] scope pos) scope X.env _ (newList []) false (eval iter X.env) (some (assign (.Name y py) X.env))) _ _ s
  refine wpAny_bind (wpAny_mono (comp_all (use := some (assign (.Name y py) X.env)) (Qv := fun _ s' => SP X pins D .next s') hc ok hI hg hf he hs I h fun C l m s4 Hk J5 hn hC neL neCell sz hp q => ?_) (fun _ s' hq => wpAny_pure (wpAny_pure hq)) fun _ _ e => e)
  show wpAny _ X.A (assign (.Name y py) X.env (.ref l)) _ _ s4
  refine wpAny_assign_Name (store_ok2 J5 hN hi hy (v := .ref l) rfl (fun s5 I6 sb => ?_) hfn)
  obtain ⟨aa, hsb, haa⟩ := sb
  have aC : C ≠ aa := by
    rcases haa with q | q
    · rw [q]; exact neL
    · exact fun z => neCell _ _ q z.symm
  refine ⟨m, ?_, fun h' sb' => ⟨_, _, I6.turned (t' := s5.toks) (it := C) (fun b o hb e => sb'.extBut b o hb e) hC neL (.inr sz) neCell hp, q⟩⟩
  obtain ⟨oC, es, ep, ho, r⟩ := hn
  exact ⟨oC, es, ep, hsb.extBut _ _ aC ho, r⟩
end L2


set_option Elab.async false
set_option linter.all false
set_option maxRecDepth 100000
/-! sum, all, max of lists; bit_length -/
namespace L2
open PySem PySem.Spec PyProof.Rows
section
variable {X : Cx}
theorem vals_at : ∀ {xs : List V} {us : List Value} {i : Nat} {u : Value}, Vals xs us → us[i]? = some u → ∃ x, xs[i]? = some x ∧ RelV x u
  | [], _, _, _, .nil, e => by simp at e
  | x :: xs, _, 0, u, .cons r rr, e => ⟨x, rfl, by cases e; exact r⟩
  | x :: xs, _, i + 1, u, .cons r rr, e => by
    obtain ⟨y, hy, ry⟩ := vals_at (xs := xs) (i := i) rr (by simpa using e)
    exact ⟨y, by simpa using hy, ry⟩
theorem preSum_take (ns : List Int) : ∀ k, k ≤ ns.length → preSum (fun i => ns.getD i 0) k = (ns.take k).sum
  | 0, _ => rfl
  | k + 1, h => by
    have ih := preSum_take ns k (by omega)
    have hk : k < ns.length := by omega
    show preSum (fun i => ns.getD i 0) k + ns.getD k 0 = _
    rw [ih, List.take_succ, List.getElem?_eq_getElem hk, List.sum_append, List.getD_eq_getElem?_getD, List.getElem?_eq_getElem hk]
    show (ns.take k).sum + ns[k] = (ns.take k).sum + (ns[k] + 0)
    rw [Int.add_zero]
theorem ints_at {ns : List Int} {its : List Value} {i : Nat} {v : Value} (r : Vals (ns.map V.int) its) (e : its.toArray[i]? = some v) : ∃ t, v = .int (ns.getD i 0) t := by
  have e' : its[i]? = some v := by simpa using e
  obtain ⟨x, hx, rx⟩ := vals_at r e'
  rw [List.getElem?_map] at hx
  obtain ⟨n, hn, rfl⟩ := Option.map_eq_some_iff.mp hx
  obtain ⟨t, rfl⟩ := rx
  refine ⟨t, ?_⟩
  rw [List.getD_eq_getElem?_getD, hn]; rfl
theorem call_sumL (hc : X.calm = true) : CallR X (.builtin "sum") (fun xs H Q => ∃ (p : Addr) (ns : List Int), xs = [.ref p] ∧ SqL X.K H p (ns.map V.int) ∧ Q (.int ns.sum) H) := by
  intro pins s σ H xs us Q I r h
  obtain ⟨p, ns, rfl, hq, q⟩ := h
  obtain ⟨u, rfl, rx⟩ := vals1 r
  cases rx
  obtain ⟨its, r', pl, hz⟩ := I.list hq
  have hl := r'.length
  rw [List.length_map] at hl
  have hlt : p < s.heap.objs.size := by obtain ⟨_, e, _⟩ := pl.isList; exact Heap.lt_size e
  refine call_sum_walkG (wpAny_pyIter_list pl.isList ?_)
  refine ⟨_, _, _, _, _, _, fun i => ns.getD i 0, rfl, Walks.list (A := X.A.in1) (I.ok.hd hc) _ p (Nat.ne_of_lt hlt) its.toArray, ⟨⟨_, Heap.get?_push_size _ rfl, rfl, rfl⟩, pl.isList.push _⟩, ?_, fun i v e => ints_at r' e, fun h' tk t' hk => ?_⟩
  · intro b hb
    show b < (s.heap.push _).objs.size
    rw [Heap.size_push]
    rcases List.mem_cons.mp hb with rfl | hb
    · exact Nat.lt_succ_self _
    · rw [List.mem_singleton.mp hb]; exact Nat.lt_succ_of_lt hlt
  · refine ⟨.int ns.sum, H, I.kept (old_kept hk), ⟨t', ?_⟩, q⟩
    rw [List.size_toArray, ← hl, preSum_take ns _ (Nat.le_refl _), List.take_length]
/-- the greatest of some numbers -/
noncomputable def IsMax (ns : List Int) (m : Int) : Prop := m ∈ ns ∧ ∀ x ∈ ns, x ≤ m
theorem argBest_le (bt : Nat → Nat → Bool) : ∀ k, argBest bt k ≤ k
  | 0 => Nat.le_refl _
  | k + 1 => by
    unfold argBest
    split
    · exact Nat.le_refl _
    · exact Nat.le_succ_of_le (argBest_le bt k)
theorem argBest_max (val : Nat → Int) : ∀ k j, j ≤ k → val j ≤ val (argBest (fun i j => decide (val i > val j)) k)
  | 0, j, h => by
    have : j = 0 := by omega
    subst this; exact Int.le_refl _
  | k + 1, j, h => by
    have ih := argBest_max val k
    unfold argBest
    by_cases hj : j = k + 1
    · subst hj
      split
      · exact Int.le_refl _
      · rename_i hb
        have hb' : ¬ val (k + 1) > val (argBest (fun i j => decide (val i > val j)) k) := by simpa using hb
        omega
    · have hjk := ih j (by omega)
      split
      · rename_i hb
        have hb' : val (k + 1) > val (argBest (fun i j => decide (val i > val j)) k) := by simpa using hb
        omega
      · exact hjk
theorem best_isMax {ns : List Int} (h : 0 < ns.length) : IsMax ns (ns.getD (argBest (fun i j => decide (ns.getD i 0 > ns.getD j 0)) (ns.length - 1)) 0) := by
  have hle := argBest_le (fun i j => decide (ns.getD i 0 > ns.getD j 0)) (ns.length - 1)
  have hlt : argBest (fun i j => decide (ns.getD i 0 > ns.getD j 0)) (ns.length - 1) < ns.length := by omega
  refine ⟨?_, fun x hx => ?_⟩
  · rw [List.getD_eq_getElem?_getD, List.getElem?_eq_getElem hlt]
    exact List.getElem_mem hlt
  · obtain ⟨i, hi, rfl⟩ := List.mem_iff_getElem.mp hx
    have := argBest_max (fun i => ns.getD i 0) (ns.length - 1) i (by omega)
    have e : ns.getD i 0 = ns[i] := by rw [List.getD_eq_getElem?_getD, List.getElem?_eq_getElem hi]; rfl
    rw [e] at this
    exact this
theorem call_maxL (hc : X.calm = true) : CallR X (.builtin "max") (fun xs H Q => ∃ (p : Addr) (ns : List Int), xs = [.ref p] ∧ SqL X.K H p (ns.map V.int) ∧ 0 < ns.length ∧ ∀ m, IsMax ns m → Q (.int m) H) := by
  intro pins s σ H xs us Q I r h
  obtain ⟨p, ns, rfl, hq, h0, q⟩ := h
  obtain ⟨u, rfl, rx⟩ := vals1 r
  cases rx
  obtain ⟨its, r', pl, hz⟩ := I.list hq
  have hl := r'.length
  rw [List.length_map] at hl
  have hlt : p < s.heap.objs.size := by obtain ⟨_, e, _⟩ := pl.isList; exact Heap.lt_size e
  refine call_max_walk (wpAny_pyIter_list pl.isList ?_)
  refine ⟨_, _, _, _, _, _, _, rfl, Walks.list (A := X.A.in1) (I.ok.hd hc) _ p (Nat.ne_of_lt hlt) its.toArray, ⟨⟨_, Heap.get?_push_size _ rfl, rfl, rfl⟩, pl.isList.push _⟩, ?_, ?_, CmpOf.ints_gt (fun i => ns.getD i 0) (fun i v e => ints_at r' e), fun v h' tk hv hk => ?_⟩
  · intro b hb
    show b < (s.heap.push _).objs.size
    rw [Heap.size_push]
    rcases List.mem_cons.mp hb with rfl | hb
    · exact Nat.lt_succ_self _
    · rw [List.mem_singleton.mp hb]; exact Nat.lt_succ_of_lt hlt
  · rw [List.size_toArray, ← hl]; exact h0
  · obtain ⟨t, rfl⟩ := ints_at r' hv
    refine ⟨.int _, H, I.kept (old_kept hk), ⟨t, rfl⟩, q _ ?_⟩
    rw [List.size_toArray, ← hl]
    exact best_isMax h0
end
/-! ### shut -/
structure QC (X : Cx) (ifs : List Expr) (t : TT) : Prop where h : PF X ifs t
structure QGs (X : Cx) (ts : List Expr) (t : TGs) : Prop where h : PGs X ts t
namespace R
section
variable {X : Cx} {e o : Expr} {te to : TE} {pos : Pos}
theorem pf_nil : QC X [] fNil := ⟨L2.pf_nil⟩
theorem pf_one {c : Expr} {t : TT} (h : QT X c t) : QC X [c] t := ⟨L2.pf_one h.h⟩
theorem ixL (K : PySem.W.Frag) (h : X.K = K := by rfl) : IxR X (rIxL K) := by subst h; exact ix_list
theorem ixT (K : PySem.W.Frag) (h : X.K = K := by rfl) : IxR X (rIxT K) := by subst h; exact ix_tup
theorem pgs_nil : QGs X [] gNil := ⟨L2.pgs_nil⟩
theorem pgs_cons {es : List Expr} {t : TG} {u : TGs} (h1 : QG X e t) (h2 : QGs X es u) (hs : (assignEach (e :: es) X.env).map (·.2) = assign e X.env :: (assignEach es X.env).map (·.2) := by rfl) : QGs X (e :: es) (gCons t u) := ⟨L2.pgs_cons h1.h h2.h hs⟩
theorem pg_tup {es : List Expr} {k : Nat} {t : TGs} (K : PySem.W.Frag) (n : Nat) (hc : X.calm = true) (h : QGs X es t) (hK : X.K = K := by rfl) (hn : (assignEach es X.env).length = n := by rfl) (hst : (assignEach es X.env).findIdx? (·.1) = none := by rfl) : QG X (.Tuple es k pos) (gTup K n t) := by
  subst hK; exact ⟨L2.pg_tup hc h.h hn hst⟩
/-- sc, N: the def's scope and names; xs: the target's names; ns: those that are taken from around, at fr there -/
theorem pe_comp {tg iter elt : Expr} {ifs : List Expr} {scope : Scope} {wi : TI} {g : TG} {tt : TT} (sc : Scope) (N xs ns : List Str) (fr : List Nat) 
    (hc : X.calm = true) (hsc : X.env.scope = sc) (hN : X.N = N) (hcl : ∃ n, X.env.cells = cellsFrom n X.env.scope.names []) (hk : X.env.scope.kind = .function) (kind : scope.kind = .function) (hB : compB sc.names scope.names N ns fr = true)
    (hI : QI X tg iter wi) (hg : ∀ C s₂ H2 fp, QG (cxComp X scope (clOf X.env.cells scope.names []) (xs ++ ns) C s₂ H2 fp) tg g) (hf : ∀ C s₂ H2 fp, QC (cxComp X scope (clOf X.env.cells scope.names []) (xs ++ ns) C s₂ H2 fp) ifs tt)
    (he : ∀ C s₂ H2 fp, QE (cxComp X scope (clOf X.env.cells scope.names []) (xs ++ ns) C s₂ H2 fp) elt te) (hs : ∀ x, foldedSetIterable iter X.env x = pure x := by intro _; rfl) :
    QE X (.ListComp elt [⟨tg, iter, ifs, 0⟩] scope pos) (tCompE wi xs.length fr g tt te) :=
  ⟨L2.pe_comp hc (CompOk2.of hsc hN hcl hk kind hB) hI.h (fun C s H f => (hg C s H f).h) (fun C s H f => (hf C s H f).h) (fun C s H f => (he C s H f).h) hs⟩
theorem ps_compE {i : Nat} {y : Str} {py spos : Pos} {tg iter elt : Expr} {ifs : List Expr} {scope : Scope} {wi : TI} {g : TG} {tt : TT} (sc : Scope) (N xs ns : List Str) (fr : List Nat) (hnd : X.N.Nodup) (hi : X.N[i]? = some y) (hy : Loc X.env.scope y) (hfn : X.fn y = true)
    (hsw : swapsWith (.ListComp elt [⟨tg, iter, ifs, 0⟩] scope pos) (some (.Name y py)) spos.line X.env = pure true)
    (hc : X.calm = true) (hsc : X.env.scope = sc) (hN : X.N = N) (hcl : ∃ n, X.env.cells = cellsFrom n X.env.scope.names []) (hk : X.env.scope.kind = .function) (kind : scope.kind = .function) (hB : compB sc.names scope.names N ns fr = true)
    (hI : QI X tg iter wi) (hg : ∀ C s₂ H2 fp, QG (cxComp X scope (clOf X.env.cells scope.names []) (xs ++ ns) C s₂ H2 fp) tg g) (hf : ∀ C s₂ H2 fp, QC (cxComp X scope (clOf X.env.cells scope.names []) (xs ++ ns) C s₂ H2 fp) ifs tt)
    (he : ∀ C s₂ H2 fp, QE (cxComp X scope (clOf X.env.cells scope.names []) (xs ++ ns) C s₂ H2 fp) elt te) (hs : ∀ x, foldedSetIterable iter X.env x = pure x := by intro _; rfl) :
    QS X (.Assign [.Name y py] (.ListComp elt [⟨tg, iter, ifs, 0⟩] scope pos) spos) (tAsg (tCompE wi xs.length fr g tt te) (gName i)) :=
  ⟨L2.ps_compE hc (CompOk2.of hsc hN hcl hk kind hB) hnd hi hy (.inl hfn) hsw hI.h (fun C s H f => (hg C s H f).h) (fun C s H f => (hf C s H f).h) (fun C s H f => (he C s H f).h) hs⟩
end
end R
/-! ### the forms of a comprehension that one uses: one name, walked over a list that stays or over a range -/
section
variable {K : PySem.W.Frag} {fr : List Nat} {tt : TT} {te : TE} {σ : St} {Q : VK} {H1 : Hp} {l : Addr}
/-- one turn with the name bound to v -/
noncomputable def Turn1 (fr : List Nat) (tt : TT) (te : TE) (σ : St) (l : Addr) (v : V) (H : Hp) (N : Hp → Prop) : Prop :=
  ∀ (K1 : V → Hp → Prop) (K0 : Hp → Prop), (∀ y H4 zs, H4 l = some (.lst zs) → zs.length < sizeLine → N (upd H4 l (.lst (zs ++ [y]))) → K1 y H4) → (∀ H3, N H3 → K0 H3) →
    tt (some v :: inner σ fr) H fun b H3 => if b = true then te (some v :: inner σ fr) H3 K1 else K0 H3
theorem comp_by1 {J : It} (n : Nat) (Pv : Nat → Hp → Prop) (h0 : Pv 0 (upd H1 l (.lst []))) (hgo : ∀ k H, k < n → Pv k H → J.go k H) (hstop : ∀ H, Pv n H → J.stop n H)
    (hs : ∀ k H v H', k < n → Pv k H → J.yld k H v H' → Turn1 fr tt te σ l v H' (Pv (k + 1))) (hd : ∀ H, Pv n H → Q (.ref l) H) : CompGoal J 1 (gName 0) fr tt te σ Q H1 l := by
  refine ⟨fun k m H => m = n - k ∧ k ≤ n ∧ Pv k H, ⟨n, by simp, Nat.zero_le _, h0⟩, ?_⟩
  rintro k m H ⟨rfl, hk, p⟩
  by_cases hlt : k < n
  · refine .inr ⟨hgo k H hlt p, fun v H' hy os ho => ?_⟩
    obtain ⟨o, rfl⟩ := List.length_eq_one_iff.mp ho
    exact ⟨⟨[some v], rfl, rfl⟩, hs k H v H' hlt p hy _ _ (fun y H4 zs h1 h2 h3 => ⟨zs, n - (k + 1), h1, h2, by omega, rfl, hlt, h3⟩) fun H3 h3 => ⟨n - (k + 1), by omega, rfl, hlt, h3⟩⟩
  · have e : k = n := by omega
    subst e
    exact .inl ⟨hstop H p, hd H p⟩
theorem comp_rng1 {lo : Int} {n : Nat} (Pv : Nat → Hp → Prop) (h0 : Pv 0 (upd H1 l (.lst [])))
    (hs : ∀ k H, k < n → Pv k H → Turn1 fr tt te σ l (.int (lo + k)) H (Pv (k + 1))) (hd : ∀ H, Pv n H → Q (.ref l) H) : CompGoal (Itr lo n) 1 (gName 0) fr tt te σ Q H1 l :=
  comp_by1 n Pv h0 (fun _ _ h _ => h) (fun _ _ => Nat.le_refl _) (fun k H v H' hk p hy => by obtain ⟨rfl, rfl⟩ := hy; exact hs k _ hk p) hd
theorem comp_lst1 {a : Addr} {xs : List V} (Pv : Nat → Hp → Prop) (h0 : Pv 0 (upd H1 l (.lst []))) (hl : ∀ k H, k ≤ xs.length → Pv k H → SqL K H a xs)
    (hs : ∀ k x H, xs[k]? = some x → Pv k H → Turn1 fr tt te σ l x H (Pv (k + 1))) (hd : ∀ H, Pv xs.length H → Q (.ref l) H) : CompGoal (Itl K a) 1 (gName 0) fr tt te σ Q H1 l :=
  comp_by1 xs.length Pv h0 (fun k H h p => ⟨xs, xs[k], hl k H (Nat.le_of_lt h) p, by simp [h]⟩) (fun H p => ⟨xs, hl _ H (Nat.le_refl _) p, Nat.le_refl _⟩)
    (fun k H v H' hk p hy => by obtain ⟨rfl, y⟩ := hy; exact hs k v _ (y xs (hl k _ (Nat.le_of_lt hk) p)) p) hd
/-- two names, bound to the two parts of tuples -/
noncomputable def Turn2 (fr : List Nat) (tt : TT) (te : TE) (σ : St) (l : Addr) (v u : V) (H : Hp) (N : Hp → Prop) : Prop :=
  ∀ (K1 : V → Hp → Prop) (K0 : Hp → Prop), (∀ y H4 zs, H4 l = some (.lst zs) → zs.length < sizeLine → N (upd H4 l (.lst (zs ++ [y]))) → K1 y H4) → (∀ H3, N H3 → K0 H3) →
    tt (some v :: some u :: inner σ fr) H fun b H3 => if b = true then te (some v :: some u :: inner σ fr) H3 K1 else K0 H3
theorem comp_by2 {J : It} (n : Nat) (Pv : Nat → Hp → Prop) (h0 : Pv 0 (upd H1 l (.lst []))) (hgo : ∀ k H, k < n → Pv k H → J.go k H) (hstop : ∀ H, Pv n H → J.stop n H)
    (hs : ∀ k H v H', k < n → Pv k H → J.yld k H v H' → ∃ p x y, v = .ref p ∧ SqT K H' p [x, y] ∧ Turn2 fr tt te σ l x y H' (Pv (k + 1))) (hd : ∀ H, Pv n H → Q (.ref l) H) : CompGoal J 2 (gTup K 2 (gCons (gName 0) (gCons (gName 1) gNil))) fr tt te σ Q H1 l := by
  refine ⟨fun k m H => m = n - k ∧ k ≤ n ∧ Pv k H, ⟨n, by simp, Nat.zero_le _, h0⟩, ?_⟩
  rintro k m H ⟨rfl, hk, p⟩
  by_cases hlt : k < n
  · refine .inr ⟨hgo k H hlt p, fun v H' hy os ho => ?_⟩
    obtain ⟨o, o', rfl⟩ : ∃ a b, os = [a, b] := by
      cases os with
      | nil => cases ho
      | cons a t =>
        obtain ⟨b, rfl⟩ := List.length_eq_one_iff.mp (Nat.succ.inj ho)
        exact ⟨a, b, rfl⟩
    obtain ⟨p', x, y, rfl, hq, ht⟩ := hs k H v H' hlt p hy
    exact ⟨p', [x, y], rfl, hq, rfl, x, [y], rfl, y, [], rfl, rfl, ⟨[some x, some y], rfl, rfl⟩, ht _ _ (fun y H4 zs h1 h2 h3 => ⟨zs, n - (k + 1), h1, h2, by omega, rfl, hlt, h3⟩) fun H3 h3 => ⟨n - (k + 1), by omega, rfl, hlt, h3⟩⟩
  · have e : k = n := by omega
    subst e
    exact .inl ⟨hstop H p, hd H p⟩
theorem comp_lst2 {a : Addr} {xs : List V} (Pv : Nat → Hp → Prop) (h0 : Pv 0 (upd H1 l (.lst []))) (hl : ∀ k H, k ≤ xs.length → Pv k H → SqL K H a xs)
    (hs : ∀ k v H, xs[k]? = some v → Pv k H → ∃ p x y, v = .ref p ∧ SqT K H p [x, y] ∧ Turn2 fr tt te σ l x y H (Pv (k + 1))) (hd : ∀ H, Pv xs.length H → Q (.ref l) H) : CompGoal (Itl K a) 2 (gTup K 2 (gCons (gName 0) (gCons (gName 1) gNil))) fr tt te σ Q H1 l :=
  comp_by2 xs.length Pv h0 (fun k H h p => ⟨xs, xs[k], hl k H (Nat.le_of_lt h) p, by simp [h]⟩) (fun H p => ⟨xs, hl _ H (Nat.le_refl _) p, Nat.le_refl _⟩)
    (fun k H v H' hk p hy => by obtain ⟨rfl, y⟩ := hy; exact hs k v _ (y xs (hl k _ (Nat.le_of_lt hk) p)) p) hd
end
end L2


set_option Elab.async false
set_option linter.all false
set_option maxRecDepth 100000
/-! bundles: whole numbers below 64, as Nat -/
namespace L2
open PySem PySem.Spec PyProof.Rows
theorem Same.upd {H H' : Hp} {l : Addr} (s : Same H H') (h : H l = none) (o : HO) : Same H (upd H' l o) := fun b u q => by rw [upd_ne (ne_of_none q h)]; exact s b u q
/-! ### bits -/
theorem and_nat (a b : Nat) : Builtin.bitAnd (a : Int) b = ((a &&& b : Nat) : Int) := by
  unfold Builtin.bitAnd
  rw [show decide ((0 : Int) ≤ (a : Int)) = true from by simp, show decide ((0 : Int) ≤ (b : Int)) = true from by simp]
  show (((a : Int).toNat &&& (b : Int).toNat : Nat) : Int) = _
  rw [Int.toNat_natCast, Int.toNat_natCast]
theorem or_nat (a b : Nat) : Builtin.bitOr (a : Int) b = ((a ||| b : Nat) : Int) := by
  unfold Builtin.bitOr Builtin.bitAnd
  have h1 : decide ((0 : Int) ≤ Builtin.bitNot (a : Int)) = false := by unfold Builtin.bitNot; simp; omega
  have h2 : decide ((0 : Int) ≤ Builtin.bitNot (b : Int)) = false := by unfold Builtin.bitNot; simp; omega
  rw [h1, h2]
  show Builtin.bitNot (Builtin.bitNot (((Builtin.bitNot (Builtin.bitNot (a : Int))).toNat ||| (Builtin.bitNot (Builtin.bitNot (b : Int))).toNat : Nat) : Int)) = _
  have e : ∀ x : Int, Builtin.bitNot (Builtin.bitNot x) = x := fun x => by unfold Builtin.bitNot; omega
  rw [e, e, e, Int.toNat_natCast, Int.toNat_natCast]
theorem shl_nat (k : Nat) : (1 : Int) * 2 ^ (k : Int).toNat = ((2 ^ k : Nat) : Int) := by
  rw [Int.toNat_natCast, Int.one_mul, Int.natCast_pow]; rfl
theorem int_eq_nat {a b : Nat} : decide (V.int (a : Int) = V.int (b : Int)) = decide (a = b) := by
  by_cases h : a = b
  · subst h; simp
  · rw [decide_eq_false h, decide_eq_false]
    intro z
    exact h (Int.ofNat.inj (V.int.inj z))
/-! ### comprehensions whose turns only lay new things on the heap -/
section
variable {K : PySem.W.Frag} {fr : List Nat} {tt : TT} {te : TE} {σ : St} {Q : VK} {H1 : Hp} {l : Addr}
theorem comp_rng_map {lo : Int} {n : Nat} (p : Nat → Bool) (f : Nat → V) (hn : n ≤ 100) (hl : H1 l = none)
    (ht : ∀ k H, k < n → Same H1 H → ∀ C, (∀ H', Same H H' → C (p k) H') → tt (some (.int (lo + k)) :: inner σ fr) H C)
    (he : ∀ k H, k < n → p k = true → Same H1 H → ∀ C, (∀ H', Same H H' → C (f k) H') → te (some (.int (lo + k)) :: inner σ fr) H C)
    (hd : ∀ H, Same H1 H → H l = some (.lst (((List.range n).filter p).map f)) → Q (.ref l) H) : CompGoal (Itr lo n) 1 (gName 0) fr tt te σ Q H1 l := by
  refine comp_rng1 (fun k H => Same H1 H ∧ H l = some (.lst (((List.range k).filter p).map f))) ⟨same_new hl _, upd_same⟩ ?_ fun H ⟨s, e⟩ => hd H s e
  rintro k H hk ⟨s, e⟩ K1 K0 h1 h0
  refine ht k H hk s _ fun H' s' => ?_
  have e' : (List.range (k + 1)).filter p = (List.range k).filter p ++ (if p k = true then [k] else []) := by
    rw [List.range_succ, List.filter_append]
    cases hp : p k <;> simp [hp]
  cases hp : p k with
  | false =>
    rw [if_neg (by decide)]
    refine h0 _ ⟨s.trans s', ?_⟩
    rw [e', hp, if_neg (by decide), List.append_nil]
    exact s' _ _ e
  | true =>
    rw [if_pos rfl]
    refine he k H' hk hp (s.trans s') _ fun H'' s'' => ?_
    refine h1 _ _ _ (s'' _ _ (s' _ _ e)) ?_ ⟨((s.trans s').trans s'').upd hl _, ?_⟩
    · rw [List.length_map]
      have := List.length_filter_le p (List.range k)
      rw [List.length_range] at this
      exact small1000 (by omega)
    · rw [upd_same, e', hp, if_pos rfl, List.map_append]; rfl
theorem comp_lst_map {α : Type} {a : Addr} (emb : α → V) (xs : List α) (p : α → Bool) (f : α → V) (hS : SqL K H1 a (xs.map emb)) (hn : xs.length ≤ 100) (hl : H1 l = none)
    (ht : ∀ x ∈ xs, ∀ H, Same H1 H → ∀ C, (∀ H', Same H H' → C (p x) H') → tt (some (emb x) :: inner σ fr) H C)
    (he : ∀ x ∈ xs, p x = true → ∀ H, Same H1 H → ∀ C, (∀ H', Same H H' → C (f x) H') → te (some (emb x) :: inner σ fr) H C)
    (hd : ∀ H, Same H1 H → H l = some (.lst ((xs.filter p).map f)) → Q (.ref l) H) : CompGoal (Itl K a) 1 (gName 0) fr tt te σ Q H1 l := by
  refine comp_lst1 (xs := xs.map emb) (fun k H => Same H1 H ∧ H l = some (.lst (((xs.take k).filter p).map f))) ⟨same_new hl _, upd_same⟩ (fun k H _ ⟨s, _⟩ => s.seq hS) ?_ fun H ⟨s, e⟩ => hd H s (by rw [List.length_map, List.take_length] at e; exact e)
  rintro k v H hv ⟨s, e⟩ K1 K0 h1 h0
  rw [List.getElem?_map] at hv
  obtain ⟨x, hx, rfl⟩ := Option.map_eq_some_iff.mp hv
  have hm : x ∈ xs := List.mem_of_getElem? hx
  refine ht x hm H s _ fun H' s' => ?_
  have e' : (xs.take (k + 1)).filter p = (xs.take k).filter p ++ (if p x = true then [x] else []) := by
    rw [List.take_succ, hx, List.filter_append]
    cases hp : p x <;> simp [hp]
  cases hp : p x with
  | false =>
    rw [if_neg (by decide)]
    refine h0 _ ⟨s.trans s', ?_⟩
    rw [e', hp, if_neg (by decide), List.append_nil]
    exact s' _ _ e
  | true =>
    rw [if_pos rfl]
    refine he x hm hp H' (s.trans s') _ fun H'' s'' => ?_
    refine h1 _ _ _ (s'' _ _ (s' _ _ e)) ?_ ⟨((s.trans s').trans s'').upd hl _, ?_⟩
    · rw [List.length_map]
      have h1 := List.length_filter_le p (xs.take k)
      have h2 := List.length_take_le' k xs
      exact small1000 (by omega)
    · rw [upd_same, e', hp, if_pos rfl, List.map_append]; rfl
end
theorem at_nat {α : Type} {xs : List α} {k : Nat} {x : α} (h : xs[k]? = some x) : atI xs (k : Int) = some x := atI_nat h
end L2
namespace L2
open PySem PySem.Spec PyProof.Rows
/-! ### == and != of two lists of whole numbers -/
end L2
namespace L2
open PySem PySem.Spec PyProof.Rows
section
variable {X : Cx}
theorem op_andN : OpR X (binaryOp .BitAnd) (fun x y H Q => ∃ a b : Nat, x = .int a ∧ y = .int b ∧ Q (.int ((a &&& b : Nat) : Int)) H) := by
  intro pins s σ H x y v u Q I rx ry ⟨a, b, e1, e2, q⟩
  exact op_and pins s σ H x y v u Q I rx ry ⟨_, _, e1, e2, by show Q (.int (Builtin.bitAnd a b)) H; rw [and_nat]; exact q⟩
theorem op_orN : OpR X (binaryOp .BitOr) (fun x y H Q => ∃ a b : Nat, x = .int a ∧ y = .int b ∧ Q (.int ((a ||| b : Nat) : Int)) H) := by
  intro pins s σ H x y v u Q I rx ry ⟨a, b, e1, e2, q⟩
  exact op_or pins s σ H x y v u Q I rx ry ⟨_, _, e1, e2, by show Q (.int (Builtin.bitOr a b)) H; rw [or_nat]; exact q⟩
theorem op_shlN : OpR X (binaryOp .LShift) (fun x y H Q => ∃ k : Nat, x = .int 1 ∧ y = .int k ∧ k ≤ 1000 ∧ Q (.int ((2 ^ k : Nat) : Int)) H) := by
  intro pins s σ H x y v u Q I rx ry ⟨k, e1, e2, hk, q⟩
  exact op_shl pins s σ H x y v u Q I rx ry ⟨1, k, e1, e2, ⟨by omega, by omega, by decide⟩, by show Q (.int ((1 : Int) * 2 ^ (k : Int).toNat)) H; rw [shl_nat]; exact q⟩
theorem op_shrN : OpR X (binaryOp .RShift) (fun x y H Q => ∃ a k : Nat, x = .int a ∧ y = .int k ∧ Q (.int ((a / 2 ^ k : Nat) : Int)) H) := by
  intro pins s σ H x y v u Q I rx ry ⟨a, k, e1, e2, q⟩
  refine op_shr pins s σ H x y v u Q I rx ry ⟨a, k, e1, e2, by show (0 : Int) ≤ (k : Int); omega, ?_⟩
  show Q (.int ((a : Int) / 2 ^ (k : Int).toNat)) H
  rw [Int.toNat_natCast]
  have e : ((a / 2 ^ k : Nat) : Int) = (a : Int) / 2 ^ k := by rw [Int.natCast_ediv, Int.natCast_pow]; rfl
  rw [← e]; exact q
end
end L2
namespace L2
open PySem PySem.Spec PyProof.Rows
/-- the answer by an equation -/
theorem opE {X : Cx} {f : Value → Value → Sem Value} {C : Int → Int → Prop} {g : Int → Int → V} (h : OpR X f (rI C g)) : OpR X f (fun x y H Q => ∃ i j r, x = .int i ∧ y = .int j ∧ C i j ∧ g i j = r ∧ Q r H) := by
  intro pins s σ H x y v u Q I rx ry ⟨i, j, r, e1, e2, hc, e3, q⟩
  subst e3
  exact h pins s σ H x y v u Q I rx ry ⟨i, j, e1, e2, hc, q⟩
theorem opE0 {X : Cx} {f : Value → Value → Sem Value} {g : Int → Int → V} (h : OpR X f (rI0 g)) : OpR X f (fun x y H Q => ∃ i j r, x = .int i ∧ y = .int j ∧ g i j = r ∧ Q r H) := by
  intro pins s σ H x y v u Q I rx ry ⟨i, j, r, e1, e2, e3, q⟩
  subst e3
  exact h pins s σ H x y v u Q I rx ry ⟨i, j, e1, e2, q⟩
end L2


set_option Elab.async false
set_option linter.all false
set_option maxRecDepth 100000
/-! for a, b in zip(xs, ys) -/
namespace L2
open PySem PySem.Spec PyProof.Rows
section
variable {X : Cx} {pins : List (Addr × Obj)} {σ : St} {H : Hp} {s : Shared} {h' : Heap}
theorem Inv.turnedL {t' : Nat} {ch : List Addr} (I : Inv X pins σ H s) (k : ∀ b o, b ∉ ch → s.heap.get? b = some o → h'.get? b = some o) (hf : ∀ b ∈ ch, FpOk X pins H b) : Inv X pins σ H { s with heap := h', toks := t' } := by
  have nit : ∀ b u, H b = some u → b ∉ ch := fun b u e z => by have := (hf b z).1; rw [e] at this; cases this
  refine I.step (g' := s.gens) (d' := s.drawn) (ch := ch) (fun b hb => ?_) (fun b o _ _ hc e _ => k b o hc e) (fun b o _ _ hc e _ => ⟨o.slots, k b o hc e⟩) (fun _ _ _ _ n => n)
    (fun b o hc e => ⟨o, k b o hc e⟩) (fun _ _ e => e) (fun _ _ _ e => e) (fun b ps e => ⟨#[], by rw [e]; simp⟩) (fun m hm => ?_) (fun b u e => ?_) I.bare
  · obtain ⟨f0, f1, f2, f3, f4, f5⟩ := hf b hb
    exact ⟨f3, f1, f4, f5⟩
  · obtain ⟨o, es, ep, ho, r⟩ := hm
    exact ⟨o, es, ep, k _ o (fun z => (hf _ z).2.1 rfl) ho, r⟩
  · refine (I.hok b u e).stay (fun c v hc q => k c v ?_ q) (fun _ q => q) fun _ _ q => q
    rcases hc with z | z
    · rw [z]; exact nit b u e
    · exact nit c _ z
end
namespace R
end R
/-! ### the forms one uses -/
end L2


set_option Elab.async false
set_option linter.all false
set_option maxRecDepth 100000
/-! max(xs, default=d) -/
namespace L2
open PySem PySem.Spec PyProof.Rows
section
variable {prog : Program} {w : World} {A : Around} {R : Result → Shared → Prop} {I : Addr} {fp wr : List Addr} {n : Nat} {P : Nat → Value → Prop} {St' : Nat → Heap → Prop} {kw : List (Str × Value)}
end
section
variable {X : Cx}
end
namespace R
end R
end L2


set_option Elab.async false
set_option linter.all false
set_option maxRecDepth 100000
/-! bundles within bundles; what offers tell -/
namespace L2
/-! ### parts -/
/-! ### worths and offers -/
end L2


set_option Elab.async false
set_option linter.all false
set_option maxRecDepth 100000
/-! a def with one default value, whatever it is -/
namespace L2
open PySem PySem.Spec PyProof.Rows
section
variable {P : Program} {w : World} {K : PySem.W.Frag} {mg : Str → Option Value} {base : Heap}
end
end L2


set_option Elab.async false
set_option linter.all false
set_option maxRecDepth 100000
/-! tuples of two whole numbers and lists of them: !=, ==; list.clear, pop(i), insert; a < b < c -/
namespace L2
open PySem PySem.Spec PyProof.Rows
section
variable {X : Cx}
/-- a list of tuples of two whole numbers at l -/
noncomputable def Pairs (H : Hp) (l : Addr) (xs : List (Nat × Int)) (ps : List Addr) : Prop := H l = some (.lst (ps.map V.ref)) ∧ ps.length = xs.length ∧ ∀ (i : Nat) (p : Addr) (x : Nat × Int), ps[i]? = some p → xs[i]? = some x → H p = some (.tup [.int x.1, .int x.2])
theorem Pairs.same {H H' : Hp} {l : Addr} {xs : List (Nat × Int)} {ps : List Addr} (P : Pairs H l xs ps) (S : Same H H') : Pairs H' l xs ps := ⟨S _ _ P.1, P.2.1, fun i p x a b => S _ _ (P.2.2 i p x a b)⟩
theorem Pairs.at {H : Hp} {l : Addr} {xs : List (Nat × Int)} {ps : List Addr} (P : Pairs H l xs ps) {i : Nat} {v : V} (h : (ps.map V.ref)[i]? = some v) : ∃ p x, v = .ref p ∧ xs[i]? = some x ∧ H p = some (.tup [.int x.1, .int x.2]) := by
  rw [List.getElem?_map] at h
  obtain ⟨p, hp, rfl⟩ := Option.map_eq_some_iff.mp h
  have hi : i < ps.length := (List.getElem?_eq_some_iff.mp hp).1
  have hi' : i < xs.length := by rw [← P.2.1]; exact hi
  exact ⟨p, xs[i], rfl, List.getElem?_eq_getElem hi', P.2.2 i p _ hp (List.getElem?_eq_getElem hi')⟩
theorem tup_items {pins : List (Addr × Obj)} {σ : St} {H : Hp} {s : Shared} {a : Addr} {i j : Int} (I : Inv X pins σ H s) (h : H a = some (.tup [.int i, .int j])) : ∃ t u, s.heap.IsTuple a #[.int i t, .int j u] := by
  obtain ⟨its, r, p, _⟩ := I.tuple (SqT.of h)
  obtain ⟨u, v, e, ⟨t, e1⟩, ⟨t', e2⟩⟩ := Vals.two r
  subst e e1 e2
  exact ⟨t, t', p⟩
end
/-! ### shut -/
namespace R
section
variable {X : Cx} {e e2 o a b c : Expr} {to ta tb tc : TE} {t : TA} {pos apos cpos : Pos}
end
end R
end L2


set_option Elab.async false
set_option linter.all false
set_option maxRecDepth 100000
/-! own classes: making, fields, methods chosen by the object's class, isinstance -/
namespace L2
open PySem PySem.Spec PyProof.Rows
section
variable {X : Cx}
end
namespace R
section
variable {X : Cx} {e o value : Expr} {es : List Expr} {te to ta tv : TE} {t : TA} {pos p apos pos' : Pos}
end
end R
end L2


set_option Elab.async false
set_option linter.all false
set_option maxRecDepth 100000
/-! trees of bids: depth, tally, what is spoken of -/
namespace L2
open PySem PySem.Spec PyProof.Rows
/-! ### lists side by side -/
section
variable {α β : Type} {R S : α → β → Prop} {xs xs' : List α} {ys ys' : List β}
end
end L2


set_option Elab.async false
set_option linter.all false
set_option maxRecDepth 100000
/-! what bids are worth, as functions of the bundle -/
namespace L2
open PySem PySem.Spec PyProof.Rows
/-! ### tables -/
/-! ### the greatest, from nought on -/
end L2
namespace L2.R
open PySem PySem.Spec PyProof.Rows
variable {X : Cx} {e : Expr} {te : TE} {pos : Pos}
end L2.R


set_option Elab.async false
set_option linter.all false
set_option maxRecDepth 100000
/-! wishes of groups that are apart -/
namespace L2
open PySem PySem.Spec PyProof.Rows
/-! ### one wish in other words -/
end L2


set_option Elab.async false
set_option linter.all false
set_option maxRecDepth 100000
/-! a list taken apart: x, y = [.., ..] -/
namespace L2
open PySem PySem.Spec PyProof.Rows
section
variable {prog : Program} {w : World} {A : Around} {E : Value → Shared → Prop}
end
namespace R
end R
end L2


set_option Elab.async false
set_option linter.all false
set_option maxRecDepth 100000
/-! refusals: constructors that raise, a try that goes on, isinstance of a tuple of classes -/
namespace L2
open PySem PySem.Spec PyProof.Rows PySem.W
section
variable {P : Program} {w : World} {K : PySem.W.Frag} {mg : Str → Option Value} {base : Heap}
end
/-! ### isinstance of a tuple of own classes -/
/-! ### a try whose body raises nothing -/
namespace R
section
variable {X : Cx} {e : Expr} {es : List Expr} {te : TE} {t : TA} {pos p : Pos}
end
end R
end L2


set_option Elab.async false
set_option linter.all false
set_option maxRecDepth 100000
/-! an exception with a dict of its own, on its way -/
namespace L2
open PySem PySem.Spec PyProof.Rows PySem.W
section
variable {M : Model} {A : Around} {E : Value → Shared → Prop} {s : Shared} {B : Heap} {env : Env} {outer : List Env} {L e : Addr} {C : Value} {dx : Option Addr} {Q : Unit → Shared → Prop}
end
end L2


set_option Elab.async false
set_option linter.all false
set_option maxRecDepth 100000
/-! exceptions of own classes with __init__ and a field: raised, passed on -/
namespace L2
open PySem PySem.Spec PyProof.Rows PySem.W

/-! ### what an exception is while it is made -/

/-! ### C(..): the exception laid, then its __init__ -/
section
variable {prog : Program} {w : World} {A : Around} {E : Value → Shared → Prop} {h : Heap} {g : Array GenState} {d : Drawn} {t : Nat} {os : OsState} {K : Frag}
variable {nm q : Str} {C N : Addr} {bs bm bmB : List Value} {hdct : Bool} {sn : List Str} {sub : List Value} {ab : Bool} {col : Option Bool} {dd : Option Addr} {k0 k1 k2 k3 k5 : Option Value} {B newId initId : String}
end
end L2


set_option Elab.async false
set_option linter.all false
set_option maxRecDepth 100000
/-! raise C(v), C with __init__ -/
namespace L2
open PySem PySem.Spec PyProof.Rows PySem.W
end L2


set_option Elab.async false
set_option linter.all false
set_option maxRecDepth 100000
/-! an exception's __init__: the base's __init__, the field -/
namespace L2
open PySem PySem.Spec PyProof.Rows PySem.W
open Builtin Builtin.ObjectAttr
/-! ### D.__init__(self, text), D an own class without __init__ -/
section
variable {prog : Program} {w : World} {A : Around} {E : Value → Shared → Prop} {h : Heap} {g : Array GenState} {d : Drawn} {t : Nat} {os : OsState} {K : Frag} {C a : Addr}
/-! ### self.f = v -/
end
end L2


set_option Elab.async false
set_option linter.all false
set_option maxRecDepth 100000
/-! rules: D.__init__(self, ..), self.f = v in an exception's __init__; e.f; isinstance -/
namespace L2
open PySem PySem.Spec PyProof.Rows PySem.W
open Builtin Builtin.ObjectAttr
/-! ### a caught exception with a dict -/
section
variable {prog : Program} {w : World} {A : Around} {E : Value → Shared → Prop} {h : Heap} {g : Array GenState} {d : Drawn} {t : Nat} {os : OsState} {K : Frag} {C a dx : Addr} {f : Str} {v : Value}
end
end L2


set_option Elab.async false
set_option linter.all false
set_option maxRecDepth 100000
/-! code in a try: what may raise an exception of the class C, and the handlers -/
namespace L2
open PySem PySem.Spec PyProof.Rows PySem.W
section
variable {X : Cx} {D : Addr} {pos p apos : Pos} {e o : Expr} {es : List Expr} {ta : TE} {t : TA}
end
/-! ### the handlers -/
end L2


set_option Elab.async false
set_option linter.all false
set_option maxRecDepth 100000
/-! texts: order, slices -/
namespace L2
open PySem PySem.Spec PyProof.Rows PySem.W
end L2


set_option Elab.async false
set_option linter.all false
set_option maxRecDepth 100000
/-! for i, x in enumerate(xs); for c in text -/
namespace L2
open PySem PySem.Spec PyProof.Rows PySem.W
noncomputable def Ite (K : PySem.W.Frag) (a : Addr) : It :=
  ⟨fun i H => ∃ xs x, SqL K H a xs ∧ xs[i]? = some x,
   fun i H v H' => ∃ p x, v = .ref p ∧ H p = none ∧ H' = upd H p (.tup [.int i, x]) ∧ ∀ xs, SqL K H a xs → xs[i]? = some x,
   fun i H => ∃ xs, SqL K H a xs ∧ xs.length ≤ i⟩
theorem turn_enum {P : Program} {w : World} {K : PySem.W.Frag} {es : List Expr} {kk : Nat} {pos : Pos} (a z i1 : Addr) (hne : z ≠ i1) :
    Turn P w K (.Tuple es kk pos) (Ite K a) [z, i1] z (fun i h => (∃ old, IsEnum h z i1 i old) ∧ h.IsListIter i1 a i) where
  mem := by simp
  obj := fun i h st c hc => by
    obtain ⟨⟨old, hz⟩, ⟨o1, e1, c1, d1⟩⟩ := st
    simp only [List.mem_cons, List.not_mem_nil, or_false] at hc
    rcases hc with rfl | rfl
    · exact ⟨_, hz, fun v x => by cases x⟩
    · exact ⟨_, e1, fun v x => by rw [d1] at x; cases x⟩
  keep := fun i h h' st k => by
    obtain ⟨⟨old, hz⟩, h1⟩ := st
    exact ⟨⟨old, k z (by simp) _ hz⟩, h1.at fun o e => k i1 (by simp) o e⟩
  item := by
    intro X hP hw hK hc i pins s σ H E I hf st hg
    subst hP hw hK
    obtain ⟨⟨old, hz⟩, h1⟩ := st
    obtain ⟨xs, x, hq1, hx⟩ := hg
    obtain ⟨its, rv, p, hz1⟩ := I.list hq1
    obtain ⟨ux, hux, rux⟩ := rv.get hx
    refine wpAny_pyNext_enum_item hz h1 p.isList (x := ux) (by simpa using hux) hne fun h' a1 a2 a3 a4 hk => ?_
    have ltz : ∀ c ∈ [z, i1], c < s.heap.objs.size := by
      intro c hc
      simp only [List.mem_cons, List.not_mem_nil, or_false] at hc
      rcases hc with rfl | rfl
      · exact Heap.lt_size hz
      · obtain ⟨_, e, _⟩ := h1; exact Heap.lt_size e
    have I1 : Inv X pins σ (upd H s.heap.objs.size (.tup [.int i, x])) { s with heap := s.heap.push { cls := .type "tuple", data := .seq #[.int i s.toks, ux] }, toks := s.toks + 1 } := by
      refine I.laid (fun c o e => Heap.get?_push_of_some _ e) (Nat.le_refl _) ⟨by show 2 ≤ sizeLine; decide, [.int i s.toks, ux], .cons ⟨_, rfl⟩ (.cons rux .nil), ?_⟩
      exact ⟨_, Heap.get?_push_size _ rfl, rfl, _, rfl⟩
    have hfr : ∀ c ∈ [z, i1], upd H s.heap.objs.size (.tup [.int i, x]) c = none := fun c hc => by
      rw [upd_ne (Nat.ne_of_lt (ltz c hc))]; exact (hf c hc).1
    have hf1 : ∀ c ∈ [z, i1], FpOk X pins (upd H s.heap.objs.size (.tup [.int i, x])) c := fun c hc => ⟨hfr c hc, (hf c hc).2⟩
    have kk : ∀ c o, c ∉ [z, i1] → (s.heap.push { cls := .type "tuple", data := .seq #[.int i s.toks, ux] }).get? c = some o → h'.get? c = some o := fun c o hc e => by
      rcases Heap.get?_push_cases e with ⟨e9, e8⟩ | e'
      · subst e9 e8; exact a3
      · exact hk c o (fun x => hc (by simp [x])) (fun x => hc (by simp [x])) e'
    have I2 : Inv X pins σ (upd H s.heap.objs.size (.tup [.int i, x])) { s with heap := h', toks := s.toks + 1 } := by
      have z := Inv.turnedL (t' := s.toks + 1) I1 kk hf1
      exact z
    refine ⟨_, rfl, wpAny_letOwnedTupleGo_enum (s := { s with heap := h', toks := s.toks + 1 }) a1 fun h'' hz'' hs'' => ?_⟩
    have I3 : Inv X pins σ (upd H s.heap.objs.size (.tup [.int i, x])) { s with heap := h'', toks := s.toks + 1 } := by
      have z := Inv.turnedL (h' := h'') (t' := s.toks + 1) (ch := [z]) I2 (fun c o hc e => hs''.extBut c o (fun q => hc (by simp [q])) e) (fun c hc => hf1 c (by simp at hc; simp [hc]))
      exact z
    refine ⟨.ref s.heap.objs.size, _, I3, rfl, ⟨_, x, rfl, I.hok.fresh (Nat.le_refl _), rfl, fun zs hzs => by rw [I.list_inj hzs hq1]; exact hx⟩, ?_, hfr⟩
    exact ⟨⟨_, by have := hz''; push_cast; exact this⟩, a2.extBut hs''.extBut (Ne.symm hne)⟩
  done := by
    intro X hP hw hK hc i pins s σ H E I hf st hg
    subst hP hw hK
    obtain ⟨⟨old, hz⟩, h1⟩ := st
    obtain ⟨xs, hq1, hend⟩ := hg
    obtain ⟨its, rv, p, hz1⟩ := I.list hq1
    have l1 := rv.length
    refine wpAny_pyNext_enum_end (I.ok.hd hc) hz h1 p.isList (by simp; omega) fun h' hk => ⟨rfl, ?_⟩
    exact I.turnedL (t' := s.toks) (ch := [z, i1]) (fun c o hc e => hk c o (fun x => hc (by simp [x])) e) hf
  self := fun _ _ _ _ _ st h => by
    obtain ⟨⟨old, hz⟩, _⟩ := st
    exact wpAny_pyIter_enum hz h
noncomputable def iEnum (K : PySem.W.Frag) (ta : TA) : TI := fun σ H R => ta σ H fun vs H1 => ∃ a, vs = [.ref a] ∧ (∃ xs, SqL K H1 a xs) ∧ R (Ite K a) H1
theorem pi_enum {X : Cx} {es : List Expr} {kk : Nat} {tp : Pos} {a : Expr} {ta : TA} {p pos : Pos} (hg : Gl X "enumerate") (hm : X.mg "enumerate" = none) (ha : PA X [a] ta) (hs : noStar a = true) :
    PI X (.Tuple es kk tp) (.Call (.Name "enumerate" p) [a] [] pos) (iEnum X.K ta) := by
  intro pins s σ H R I h
  refine Call_ (ld_blt I hg hm boot_enumerate (PyProof.Rows.callWith_type1 (thn (ha pos pins s σ H _ I h) fun us s1 zz => ?_) (by rw [star_cons hs]) rfl))
  obtain ⟨vs, H1, I1, r1, q1⟩ := zz
  obtain ⟨l1, e, ⟨xs, hq1⟩, q⟩ := q1
  subst e
  obtain ⟨u, rfl, ru⟩ := vals1 r1
  cases ru
  obtain ⟨its, rv, p1, _⟩ := I1.list hq1
  refine call_enumerate_list p1.isList fun h' hz hi1 hsz hk => ?_
  refine wpAny_pyIter_enum hz ?_
  refine ⟨s1.heap.objs.size + 1, _, _, _, H1, rfl, I1.kept (t' := s1.toks) hk, turn_enum l1 _ _ (Nat.succ_ne_self _), ⟨⟨_, hz⟩, hi1⟩, fun c hc => ?_, q⟩
  have hge : s1.heap.objs.size ≤ c := by
    simp only [List.mem_cons, List.not_mem_nil, or_false] at hc
    rcases hc with rfl | rfl
    · exact Nat.le_succ _
    · exact Nat.le_refl _
  exact I1.fpOk hge (I1.hok.fresh hge)
theorem for_enum {K : PySem.W.Frag} {a : Addr} {xs : List V} {g : TG} {tb : TS} {D : Ends} {σ : St} {H : Hp} (Pv : Nat → St → Hp → Prop) (h0 : Pv 0 σ H) (hl : ∀ i σ H, i ≤ xs.length → Pv i σ H → SqL K H a xs)
    (hs : ∀ (i : Nat) x p σ H, xs[i]? = some x → Pv i σ H → H p = none → g (.ref p) σ (upd H p (.tup [.int i, x])) fun σ2 H2 => tb { D with nx := Pv (i + 1), ct := Pv (i + 1), bk := D.nx } σ2 H2) (hd : ∀ σ H, Pv xs.length σ H → D.nx σ H) :
    ∃ W : Nat → Nat → St → Hp → Prop, (∃ m, W 0 m σ H) ∧ ∀ i m σ H, W i m σ H →
      ((Ite K a).stop i H ∧ D.nx σ H) ∨ ((Ite K a).go i H ∧ ∃ N : St → Hp → Prop, (∀ σ' H', N σ' H' → ∃ m', m' < m ∧ W (i + 1) m' σ' H') ∧ ∀ x H', (Ite K a).yld i H x H' → g x σ H' fun σ2 H2 => tb { D with nx := N, ct := N, bk := D.nx } σ2 H2) := by
  refine ⟨fun i m σ H => m = xs.length - i ∧ i ≤ xs.length ∧ Pv i σ H, ⟨xs.length, by simp, Nat.zero_le _, h0⟩, ?_⟩
  rintro i m σ H ⟨rfl, hi, p⟩
  have q := hl i σ H hi p
  by_cases hlt : i < xs.length
  · refine .inr ⟨⟨xs, xs[i], q, by simp [hlt]⟩, Pv (i + 1), fun σ' H' p' => ⟨xs.length - (i + 1), by omega, rfl, hlt, p'⟩, fun v H' y => ?_⟩
    obtain ⟨r, x, rfl, hn, rfl, h1⟩ := y
    exact hs i x r σ _ (h1 _ q) p hn
  · have e : i = xs.length := by omega
    subst e
    exact .inl ⟨⟨xs, q, Nat.le_refl _⟩, hd σ H p⟩
/-! ### the signs of a text, one by one -/
end L2


set_option Elab.async false
set_option linter.all false
set_option maxRecDepth 100000
/-! list(d); ==, != of lists of texts; == of a thing with itself -/
namespace L2
open PySem PySem.Spec PyProof.Rows PySem.W
section
variable {X : Cx}
/-! ### lists of texts -/
/-! ### a thing and itself -/
end
end L2


set_option Elab.async false
set_option linter.all false
set_option maxRecDepth 100000
/-! the rules, shut -/
namespace L2
open PySem PySem.Spec PyProof.Rows PySem.W
section
variable {X : Cx}
end
theorem few2 {e f : Expr} {env : Env} {cpos : Pos} (h : noStar e = true) (h2 : noStar f = true) : ((backTo cpos (starEach [e, f] env)).all (fun x => !x.1) && (backToKw cpos (keywordEach [] env)).all (fun x => x.1.isSome)
      && decide (([e, f] : List Expr).length + ([] : List Keyword).length + (if ([] : List Keyword).isEmpty then 0 else 1) < 30)) = true := by
  rw [star_cons h, star_cons h2]; rfl
section
variable {P : Program} {w : World} {K : PySem.W.Frag} {mg : Str → Option Value} {base : Heap}
end
namespace R
section
variable {X : Cx} {e o i f value : Expr} {es : List Expr} {te to ti tf tv : TE} {t : TA} {pos p apos pos' : Pos}
theorem pi_enum {tes : List Expr} {kk : Nat} {tp : Pos} (hg : Gl X "enumerate") (hm : X.mg "enumerate" = none) (ha : QA X [e] t) (hs : noStar e = true := by rfl) : QI X (.Tuple tes kk tp) (.Call (.Name "enumerate" p) [e] [] pos) (iEnum X.K t) := ⟨L2.pi_enum hg hm ha.h hs⟩
theorem pe_dget2 {cpos : Pos} (hu : X.A.units + 64 < cLine) (ho : QE X o to) (he : QE X e te) (hf : QE X f tf) (hs : noStar e = true := by rfl) (hs2 : noStar f = true := by rfl) (hb : attributeBase o "get" X.env (eval o X.env) = eval o X.env := by rfl) (hl : (apos.endLine == cpos.line) = true := by rfl) :
    QE X (.Call (.Attribute o "get" apos) [e, f] [] cpos) (tDGet2 to te tf) := ⟨L2.pe_dget2 (by omega) ho.h he.h hf.h ⟨hb, few2 hs hs2, hl, by rw [star_cons hs, star_cons hs2]; rfl⟩⟩
end
end R
/-! ### comprehensions over a text -/
section
variable {l : Addr} {fr : List Nat} {tt : TT} {te : TE} {σ : St} {Q : VK} {H1 : Hp}
end
end L2


set_option Elab.async false
set_option linter.all false
set_option maxRecDepth 100000
/-! a text so many times -/
namespace L2
open PySem PySem.Spec PyProof.Rows PySem.W
end L2


set_option Elab.async false
set_option linter.all false
/-! plans of a hall: ways to give each bidder nothing or one of its offers; the greatest worth; the first of the best -/
namespace GP
noncomputable abbrev Off := List (Nat × Int)
/-- c is nothing, or an offer whose things are free -/
noncomputable def Opt (tk : Nat) (o : Off) (c : Nat × Int) : Prop := c = (0, 0) ∨ (c ∈ o ∧ tk &&& c.1 = 0)
noncomputable def IsWay : Nat → List Off → List (Nat × Int) → Prop
  | _, [], [] => True
  | tk, o :: os, c :: cs => Opt tk o c ∧ IsWay (tk ||| c.1) os cs
  | _, [], _ :: _ => False
  | _, _ :: _, [] => False
noncomputable def worth (w : List (Nat × Int)) : Int := (w.map Prod.snd).sum
noncomputable def taken (w : List (Nat × Int)) : Nat := w.foldl (fun t c => t ||| c.1) 0
theorem worth_cons (c : Nat × Int) (w : List (Nat × Int)) : worth (c :: w) = c.2 + worth w := by unfold worth; rw [List.map_cons, List.sum_cons]
theorem worth_app (u v : List (Nat × Int)) : worth (u ++ v) = worth u + worth v := by unfold worth; rw [List.map_append, List.sum_append]
theorem IsWay.length : ∀ {tk : Nat} {os : List Off} {w : List (Nat × Int)}, IsWay tk os w → w.length = os.length
  | _, [], [], _ => rfl
  | _, _ :: _, _ :: _, h => by rw [List.length_cons, List.length_cons, IsWay.length h.2]
  | _, [], _ :: _, h => h.elim
  | _, _ :: _, [], h => h.elim
theorem foldl_or (w : List (Nat × Int)) : ∀ t : Nat, w.foldl (fun t c => t ||| c.1) t = t ||| taken w := by
  unfold taken
  induction w with
  | nil => intro t; simp
  | cons c w ih =>
    intro t
    rw [List.foldl_cons, List.foldl_cons, ih, ih (0 ||| c.1), Nat.zero_or, Nat.or_assoc]
theorem taken_app (u : List (Nat × Int)) (c : Nat × Int) : taken (u ++ [c]) = taken u ||| c.1 := by
  unfold taken
  rw [List.foldl_append]; rfl
theorem taken_cons (c : Nat × Int) (u : List (Nat × Int)) : taken (c :: u) = c.1 ||| taken u := by
  show (u.foldl (fun t c => t ||| c.1) (0 ||| c.1)) = _
  rw [foldl_or, Nat.zero_or]
/-- the plan of nothing -/
theorem way_none : ∀ (tk : Nat) (os : List Off), IsWay tk os (os.map fun _ => (0, 0))
  | _, [] => trivial
  | tk, _ :: os => ⟨.inl rfl, way_none _ os⟩
/-! ### the order of plans -/
noncomputable def clt (c d : Nat × Int) : Prop := d.2 < c.2 ∨ (c.2 = d.2 ∧ c.1 < d.1)
noncomputable def lexLe : List (Nat × Int) → List (Nat × Int) → Prop
  | [], _ => True
  | _ :: _, [] => False
  | c :: cs, d :: ds => clt c d ∨ (c = d ∧ lexLe cs ds)
theorem clt_irrefl {c : Nat × Int} : ¬ clt c c := by
  rintro (h | ⟨_, h⟩) <;> omega
theorem clt_trans {a b c : Nat × Int} (h1 : clt a b) (h2 : clt b c) : clt a c := by
  unfold clt at *
  rcases h1 with h1 | ⟨h1, h1'⟩ <;> rcases h2 with h2 | ⟨h2, h2'⟩
  · exact .inl (by omega)
  · exact .inl (by omega)
  · exact .inl (by omega)
  · exact .inr ⟨by omega, by omega⟩
theorem clt_or (c d : Nat × Int) : clt c d ∨ c = d ∨ clt d c := by
  unfold clt
  obtain ⟨a, x⟩ := c
  obtain ⟨b, y⟩ := d
  by_cases h1 : y < x
  · exact .inl (.inl h1)
  by_cases h2 : x < y
  · exact .inr (.inr (.inl h2))
  have e : x = y := by omega
  subst e
  by_cases h3 : a < b
  · exact .inl (.inr ⟨rfl, h3⟩)
  by_cases h4 : b < a
  · exact .inr (.inr (.inr ⟨rfl, h4⟩))
  have e : a = b := by omega
  subst e
  exact .inr (.inl rfl)
theorem lexLe_refl : ∀ w, lexLe w w
  | [] => trivial
  | _ :: w => .inr ⟨rfl, lexLe_refl w⟩
theorem lexLe_trans : ∀ {a b c : List (Nat × Int)}, lexLe a b → lexLe b c → lexLe a c
  | [], _, _, _, _ => trivial
  | _ :: _, [], _, h, _ => h.elim
  | _ :: _, _ :: _, [], _, h => h.elim
  | x :: a, y :: b, z :: c, h1, h2 => by
    rcases h1 with h1 | ⟨rfl, h1⟩ <;> rcases h2 with h2 | ⟨rfl, h2⟩
    · exact .inl (clt_trans h1 h2)
    · exact .inl h1
    · exact .inl h2
    · exact .inr ⟨rfl, lexLe_trans h1 h2⟩
theorem lexLe_or : ∀ (a b : List (Nat × Int)), lexLe a b ∨ lexLe b a
  | [], _ => .inl trivial
  | _ :: _, [] => .inr trivial
  | x :: a, y :: b => by
    rcases clt_or x y with h | rfl | h
    · exact .inl (.inl h)
    · rcases lexLe_or a b with z | z
      · exact .inl (.inr ⟨rfl, z⟩)
      · exact .inr (.inr ⟨rfl, z⟩)
    · exact .inr (.inl h)
theorem lexLe_antisymm : ∀ {a b : List (Nat × Int)}, lexLe a b → lexLe b a → a = b
  | [], [], _, _ => rfl
  | [], _ :: _, _, h => h.elim
  | _ :: _, [], h, _ => h.elim
  | x :: a, y :: b, h1, h2 => by
    rcases h1 with h1 | ⟨rfl, h1⟩ <;> rcases h2 with h2 | ⟨e, h2⟩
    · exact absurd (clt_trans h1 h2) clt_irrefl
    · subst e; exact absurd h1 clt_irrefl
    · exact absurd h2 clt_irrefl
    · rw [lexLe_antisymm h1 h2]
theorem lexLe_app : ∀ {a b u v : List (Nat × Int)}, a.length = b.length → lexLe a b → lexLe u v → lexLe (a ++ u) (b ++ v)
  | [], [], _, _, _, _, h => h
  | [], _ :: _, _, _, hl, _, _ => by simp at hl
  | _ :: _, [], _, _, _, h, _ => h.elim
  | x :: a, y :: b, u, v, hl, h1, h2 => by
    rcases h1 with h1 | ⟨rfl, h1⟩
    · exact .inl h1
    · exact .inr ⟨rfl, lexLe_app (by simpa using hl) h1 h2⟩
/-! ### the greatest, and the first of these -/
structure IsFirst (tk : Nat) (os : List Off) (ch : List (Nat × Int)) : Prop where
  way : IsWay tk os ch
  top : ∀ w, IsWay tk os w → worth w ≤ worth ch
  fst : ∀ w, IsWay tk os w → worth w = worth ch → lexLe ch w
theorem IsFirst.unique {tk : Nat} {os : List Off} {a b : List (Nat × Int)} (h1 : IsFirst tk os a) (h2 : IsFirst tk os b) : a = b := by
  have e : worth a = worth b := by have := h1.top b h2.way; have := h2.top a h1.way; omega
  exact lexLe_antisymm (h1.fst b h2.way e.symm) (h2.fst a h1.way e)
/-- W, bidder by bidder -/
noncomputable def bestO (f : Nat × Int → Int) (tk : Nat) : Off → Int → Int
  | [], b => b
  | c :: o, b => bestO f tk o (if tk &&& c.1 = 0 then max b (f c) else b)
noncomputable def bestW : Nat → List Off → Int
  | _, [] => 0
  | tk, o :: os => bestO (fun c => c.2 + bestW (tk ||| c.1) os) tk o (bestW tk os)
theorem bestO_ge {f : Nat × Int → Int} {tk : Nat} : ∀ {o : Off} {b : Int}, b ≤ bestO f tk o b
  | [], _ => Int.le_refl _
  | c :: o, b => by
    unfold bestO
    refine Int.le_trans ?_ bestO_ge
    split
    · exact Int.le_max_left _ _
    · exact Int.le_refl _
theorem bestO_mem {f : Nat × Int → Int} {tk : Nat} : ∀ {o : Off} {b : Int} {c : Nat × Int}, c ∈ o → tk &&& c.1 = 0 → f c ≤ bestO f tk o b
  | d :: o, b, c, hc, h0 => by
    unfold bestO
    rcases List.mem_cons.mp hc with rfl | hc
    · rw [if_pos h0]
      exact Int.le_trans (Int.le_max_right _ _) bestO_ge
    · exact bestO_mem hc h0
theorem bestO_is {f : Nat × Int → Int} {tk : Nat} : ∀ (o : Off) (b : Int), bestO f tk o b = b ∨ ∃ c ∈ o, tk &&& c.1 = 0 ∧ bestO f tk o b = f c
  | [], _ => .inl rfl
  | d :: o, b => by
    unfold bestO
    by_cases h0 : tk &&& d.1 = 0
    · rw [if_pos h0]
      rcases bestO_is o (max b (f d)) with z | ⟨c, hc, h1, z⟩
      · rw [z]
        by_cases hb : f d ≤ b
        · rw [Int.max_eq_left hb]; exact .inl rfl
        · rw [Int.max_eq_right (by omega)]; exact .inr ⟨d, by simp, h0, rfl⟩
      · exact .inr ⟨c, by simp [hc], h1, z⟩
    · rw [if_neg h0]
      rcases bestO_is o b with z | ⟨c, hc, h1, z⟩
      · exact .inl z
      · exact .inr ⟨c, by simp [hc], h1, z⟩
theorem bestW_ge : ∀ {tk : Nat} {os : List Off} {w : List (Nat × Int)}, IsWay tk os w → worth w ≤ bestW tk os
  | _, [], [], _ => Int.le_refl _
  | tk, o :: os, c :: cs, h => by
    have ih := bestW_ge h.2
    rw [worth_cons]
    unfold bestW
    rcases h.1 with rfl | ⟨h1, h2⟩
    · have e : tk ||| (0 : Nat) = tk := Nat.or_zero _
      have ih : worth cs ≤ bestW (tk ||| 0) os := ih
      rw [e] at ih
      have := bestO_ge (f := fun c => c.2 + bestW (tk ||| c.1) os) (tk := tk) (o := o) (b := bestW tk os)
      show (0 : Int) + _ ≤ _
      omega
    · have := bestO_mem (f := fun c => c.2 + bestW (tk ||| c.1) os) (b := bestW tk os) h1 h2
      have : c.2 + bestW (tk ||| c.1) os ≤ bestO (fun c => c.2 + bestW (tk ||| c.1) os) tk o (bestW tk os) := this
      omega
  | _, [], _ :: _, h => h.elim
  | _, _ :: _, [], h => h.elim
theorem bestW_is : ∀ (tk : Nat) (os : List Off), ∃ w, IsWay tk os w ∧ worth w = bestW tk os
  | _, [] => ⟨[], trivial, rfl⟩
  | tk, o :: os => by
    unfold bestW
    rcases bestO_is (f := fun c => c.2 + bestW (tk ||| c.1) os) (tk := tk) o (bestW tk os) with z | ⟨c, hc, h0, z⟩
    · obtain ⟨w, hw, e⟩ := bestW_is tk os
      refine ⟨(0, 0) :: w, ⟨.inl rfl, by rw [show tk ||| ((0, 0) : Nat × Int).1 = tk from Nat.or_zero _]; exact hw⟩, ?_⟩
      rw [worth_cons, z, e]; show (0 : Int) + _ = _; omega
    · obtain ⟨w, hw, e⟩ := bestW_is (tk ||| c.1) os
      exact ⟨c :: w, ⟨.inr ⟨hc, h0⟩, hw⟩, by rw [worth_cons, z, e]⟩
theorem IsFirst.worth_eq {tk : Nat} {os : List Off} {ch : List (Nat × Int)} (h : IsFirst tk os ch) : worth ch = bestW tk os := by
  obtain ⟨w, hw, e⟩ := bestW_is tk os
  have h1 := h.top w hw
  have h2 := bestW_ge h.way
  omega
/-- the first of the best, bidder by bidder -/
theorem IsFirst.cons {tk : Nat} {o : Off} {os : List Off} {c : Nat × Int} {cs : List (Nat × Int)} (hc : Opt tk o c) (h : IsFirst (tk ||| c.1) os cs) (hb : c.2 + bestW (tk ||| c.1) os = bestW tk (o :: os))
    (hf : ∀ d, Opt tk o d → d.2 + bestW (tk ||| d.1) os = bestW tk (o :: os) → c = d ∨ clt c d) : IsFirst tk (o :: os) (c :: cs) := by
  have ew : worth (c :: cs) = bestW tk (o :: os) := by rw [worth_cons, h.worth_eq]; exact hb
  refine ⟨⟨hc, h.way⟩, fun w hw => by rw [ew]; exact bestW_ge hw, fun w hw e => ?_⟩
  match w, hw with
  | [], hw => exact hw.elim
  | d :: ds, hw =>
    rw [ew, worth_cons] at e
    have h1 := bestW_ge hw.2
    have h2 : d.2 + bestW (tk ||| d.1) os ≤ bestW tk (o :: os) := by
      obtain ⟨u, hu, eu⟩ := bestW_is (tk ||| d.1) os
      have := bestW_ge (tk := tk) (os := o :: os) (w := d :: u) ⟨hw.1, hu⟩
      rw [worth_cons, eu] at this
      exact this
    rcases hf d hw.1 (by omega) with rfl | z
    · refine .inr ⟨rfl, h.fst ds hw.2 ?_⟩
      rw [h.worth_eq]; omega
    · exact .inl z
/-- a least one of a list by a total order -/
theorem least_of {α : Type} (r : α → α → Prop) (hr : ∀ a, r a a) (ht : ∀ a b c, r a b → r b c → r a c) (ho : ∀ a b, r a b ∨ r b a) : ∀ (l : List α), l ≠ [] → ∃ a ∈ l, ∀ b ∈ l, r a b
  | [], h => absurd rfl h
  | [a], _ => ⟨a, by simp, fun b hb => by rw [List.mem_singleton.mp hb]; exact hr a⟩
  | a :: b :: l, _ => by
    obtain ⟨m, hm, h⟩ := least_of r hr ht ho (b :: l) (by simp)
    rcases ho a m with z | z
    · refine ⟨a, by simp, fun c hc => ?_⟩
      rcases List.mem_cons.mp hc with rfl | hc
      · exact hr c
      · exact ht _ _ _ z (h c hc)
    · refine ⟨m, by simp at hm ⊢; exact .inr hm, fun c hc => ?_⟩
      rcases List.mem_cons.mp hc with rfl | hc
      · exact z
      · exact h c hc
/-! ### all ways, as a list -/
noncomputable def grow (rows : List (List (Nat × Int))) (o : Off) : List (List (Nat × Int)) := rows.flatMap fun w => (w ++ [(0, 0)]) :: (o.filter fun c => decide (taken w &&& c.1 = 0)).map fun c => w ++ [c]
noncomputable def allWays (os : List Off) : List (List (Nat × Int)) := os.foldl grow [[]]
theorem mem_grow {rows : List (List (Nat × Int))} {o : Off} {w : List (Nat × Int)} : w ∈ grow rows o ↔ ∃ u ∈ rows, ∃ c, Opt (taken u) o c ∧ w = u ++ [c] := by
  unfold grow
  rw [List.mem_flatMap]
  constructor
  · rintro ⟨u, hu, hw⟩
    rcases List.mem_cons.mp hw with rfl | hw
    · exact ⟨u, hu, (0, 0), .inl rfl, rfl⟩
    · obtain ⟨c, hc, rfl⟩ := List.mem_map.mp hw
      have := List.mem_filter.mp hc
      exact ⟨u, hu, c, .inr ⟨this.1, of_decide_eq_true this.2⟩, rfl⟩
  · rintro ⟨u, hu, c, hc, rfl⟩
    refine ⟨u, hu, ?_⟩
    rcases hc with rfl | ⟨h1, h2⟩
    · simp
    · exact List.mem_cons_of_mem _ (List.mem_map.mpr ⟨c, List.mem_filter.mpr ⟨h1, decide_eq_true h2⟩, rfl⟩)
theorem mem_ways : ∀ (os : List Off) (rows : List (List (Nat × Int))) (w : List (Nat × Int)), w ∈ os.foldl grow rows ↔ ∃ u ∈ rows, ∃ v, w = u ++ v ∧ IsWay (taken u) os v
  | [], rows, w => by
    rw [List.foldl_nil]
    constructor
    · exact fun h => ⟨w, h, [], (List.append_nil w).symm, trivial⟩
    · rintro ⟨u, hu, v, rfl, hv⟩
      match v, hv with
      | [], _ => rw [List.append_nil]; exact hu
      | _ :: _, hv => exact hv.elim
  | o :: os, rows, w => by
    rw [List.foldl_cons, mem_ways os]
    constructor
    · rintro ⟨u, hu, v, rfl, hv⟩
      obtain ⟨u0, hu0, c, hc, rfl⟩ := mem_grow.mp hu
      rw [taken_app] at hv
      exact ⟨u0, hu0, c :: v, by simp, hc, hv⟩
    · rintro ⟨u, hu, v, rfl, hv⟩
      match v, hv with
      | [], hv => exact hv.elim
      | c :: v, hv => exact ⟨u ++ [c], mem_grow.mpr ⟨u, hu, c, hv.1, rfl⟩, v, by simp, by rw [taken_app]; exact hv.2⟩
theorem mem_allWays {os : List Off} {w : List (Nat × Int)} : w ∈ allWays os ↔ IsWay 0 os w := by
  unfold allWays
  rw [mem_ways]
  constructor
  · rintro ⟨u, hu, v, rfl, hv⟩
    rw [List.mem_singleton.mp hu] at hv ⊢
    exact hv
  · exact fun h => ⟨[], by simp, w, rfl, h⟩
theorem exists_first (os : List Off) : ∃ ch, IsFirst 0 os ch := by
  have hne : ((allWays os).filter fun w => decide (worth w = bestW 0 os)) ≠ [] := fun z => by
    obtain ⟨w, hw, e⟩ := bestW_is 0 os
    have := List.filter_eq_nil_iff.mp z w (mem_allWays.mpr hw)
    exact this (decide_eq_true e)
  obtain ⟨ch, hc, hl⟩ := least_of lexLe lexLe_refl (fun _ _ _ => lexLe_trans) lexLe_or _ hne
  obtain ⟨h1, h2⟩ := List.mem_filter.mp hc
  have h2 : worth ch = bestW 0 os := of_decide_eq_true h2
  refine ⟨ch, mem_allWays.mp h1, fun w hw => by rw [h2]; exact bestW_ge hw, fun w hw e => hl w (List.mem_filter.mpr ⟨mem_allWays.mpr hw, decide_eq_true (by rw [e, h2])⟩)⟩
end GP


set_option Elab.async false
set_option linter.all false
/-! what comes of a hall without a bidder, with an offer raised or taken out, of two halls side by side -/
namespace GP
/-! ### side by side -/
theorem IsWay.app : ∀ {tk : Nat} {os ps : List Off} {u v : List (Nat × Int)}, IsWay tk os u → IsWay (tk ||| taken u) ps v → IsWay tk (os ++ ps) (u ++ v)
  | tk, [], ps, [], v, _, h => by
    have e : taken [] = 0 := rfl
    rw [e, Nat.or_zero] at h
    exact h
  | tk, o :: os, ps, c :: u, v, h1, h2 => by
    refine ⟨h1.1, IsWay.app h1.2 ?_⟩
    rw [taken_cons, ← Nat.or_assoc] at h2
    exact h2
  | _, [], _, _ :: _, _, h, _ => h.elim
  | _, _ :: _, _, [], _, h, _ => h.elim
theorem IsWay.split : ∀ {tk : Nat} {os ps : List Off} {w : List (Nat × Int)}, IsWay tk (os ++ ps) w → ∃ u v, w = u ++ v ∧ IsWay tk os u ∧ IsWay (tk ||| taken u) ps v
  | tk, [], ps, w, h => ⟨[], w, rfl, trivial, by rw [show taken [] = 0 from rfl, Nat.or_zero]; exact h⟩
  | tk, o :: os, ps, [], h => h.elim
  | tk, o :: os, ps, c :: w, h => by
    obtain ⟨u, v, rfl, h1, h2⟩ := IsWay.split h.2
    exact ⟨c :: u, v, rfl, ⟨h.1, h1⟩, by rw [taken_cons, ← Nat.or_assoc]; exact h2⟩
noncomputable def sh (n : Nat) (c : Nat × Int) : Nat × Int := (c.1 <<< n, c.2)
theorem and_shl {t n s b : Nat} (ht : t < 2 ^ n) : (t ||| s <<< n) &&& (b <<< n) = (s &&& b) <<< n := by
  rw [Nat.and_comm, Nat.and_or_distrib_left, Nat.and_comm (b <<< n) (s <<< n), ← Nat.shiftLeft_and_distrib]
  have : b <<< n &&& t = 0 := by
    refine Nat.eq_of_testBit_eq fun k => ?_
    rw [Nat.testBit_and, Nat.testBit_shiftLeft, Nat.zero_testBit]
    by_cases hk : n ≤ k
    · rw [Nat.testBit_lt_two_pow (Nat.lt_of_lt_of_le ht (Nat.pow_le_pow_right (by decide) hk)), Bool.and_false]
    · rw [decide_eq_false hk, Bool.false_and, Bool.false_and]
  rw [this, Nat.zero_or]
theorem shl_zero {n a : Nat} : a <<< n = 0 ↔ a = 0 := by
  rw [Nat.shiftLeft_eq]
  constructor
  · intro h
    rcases Nat.mul_eq_zero.mp h with z | z
    · exact z
    · exact absurd z (Nat.pos_iff_ne_zero.mp (Nat.two_pow_pos n))
  · rintro rfl; exact Nat.zero_mul _
theorem sh_zero (n : Nat) : sh n (0, 0) = (0, 0) := by unfold sh; rw [shl_zero.mpr rfl]
theorem IsWay.shift {n t : Nat} (ht : t < 2 ^ n) : ∀ {s : Nat} {os : List Off} {w : List (Nat × Int)}, IsWay s os w → IsWay (t ||| s <<< n) (os.map fun o => o.map (sh n)) (w.map (sh n))
  | _, [], [], _ => trivial
  | s, o :: os, c :: cs, h => by
    refine ⟨?_, ?_⟩
    · rcases h.1 with rfl | ⟨h1, h2⟩
      · exact .inl (sh_zero n)
      · exact .inr ⟨List.mem_map_of_mem h1, by show (t ||| s <<< n) &&& (c.1 <<< n) = 0; rw [and_shl ht, h2]; exact shl_zero.mpr rfl⟩
    · have := IsWay.shift ht h.2
      rw [Nat.shiftLeft_or_distrib, ← Nat.or_assoc] at this
      exact this
  | _, [], _ :: _, h => h.elim
  | _, _ :: _, [], h => h.elim
theorem IsWay.unshift {n t : Nat} (ht : t < 2 ^ n) : ∀ {s : Nat} {os : List Off} {w : List (Nat × Int)}, IsWay (t ||| s <<< n) (os.map fun o => o.map (sh n)) w → ∃ v, w = v.map (sh n) ∧ IsWay s os v
  | _, [], [], _ => ⟨[], rfl, trivial⟩
  | s, o :: os, c :: cs, h => by
    obtain ⟨c0, rfl, hc0⟩ : ∃ c0, c = sh n c0 ∧ Opt s o c0 := by
      rcases h.1 with rfl | ⟨h1, h2⟩
      · exact ⟨(0, 0), (sh_zero n).symm, .inl rfl⟩
      · obtain ⟨c0, hc, rfl⟩ := List.mem_map.mp h1
        refine ⟨c0, rfl, .inr ⟨hc, ?_⟩⟩
        have h2 : (t ||| s <<< n) &&& (c0.1 <<< n) = 0 := h2
        rw [and_shl ht] at h2
        exact shl_zero.mp h2
    have h2 : IsWay ((t ||| s <<< n) ||| c0.1 <<< n) (os.map fun o => o.map (sh n)) cs := h.2
    rw [Nat.or_assoc, ← Nat.shiftLeft_or_distrib] at h2
    obtain ⟨v, rfl, hv⟩ := IsWay.unshift ht h2
    exact ⟨c0 :: v, rfl, hc0, hv⟩
  | _, [], _ :: _, h => h.elim
  | _, _ :: _, [], h => h.elim
theorem worth_sh (n : Nat) : ∀ w, worth (w.map (sh n)) = worth w
  | [] => rfl
  | c :: w => by rw [List.map_cons, worth_cons, worth_cons, worth_sh n w]; rfl
theorem lexLe_sh (n : Nat) : ∀ {a b : List (Nat × Int)}, lexLe a b → lexLe (a.map (sh n)) (b.map (sh n))
  | [], _, _ => trivial
  | _ :: _, [], h => h.elim
  | x :: a, y :: b, h => by
    rcases h with h | ⟨rfl, h⟩
    · refine .inl ?_
      rcases h with h | ⟨h1, h2⟩
      · exact .inl h
      · refine .inr ⟨h1, ?_⟩
        show x.1 <<< n < y.1 <<< n
        rw [Nat.shiftLeft_eq, Nat.shiftLeft_eq]
        exact Nat.mul_lt_mul_of_pos_right h2 (Nat.two_pow_pos n)
    · exact .inr ⟨rfl, lexLe_sh n h⟩
theorem taken_lt {n : Nat} : ∀ {tk : Nat} {os : List Off} {w : List (Nat × Int)}, (∀ o ∈ os, ∀ c ∈ o, c.1 < 2 ^ n) → IsWay tk os w → taken w < 2 ^ n
  | _, [], [], _, _ => Nat.two_pow_pos n
  | tk, o :: os, c :: cs, hb, h => by
    rw [taken_cons]
    refine Nat.or_lt_two_pow ?_ (taken_lt (fun o ho => hb o (by simp [ho])) h.2)
    rcases h.1 with rfl | ⟨h1, _⟩
    · exact Nat.two_pow_pos n
    · exact hb o (by simp) c h1
  | _, [], _ :: _, _, h => h.elim
  | _, _ :: _, [], _, h => h.elim
/-- the second hall's things stand behind those of the first -/
theorem IsFirst.beside {n : Nat} {os ps : List Off} {a b : List (Nat × Int)} (hb : ∀ o ∈ os, ∀ c ∈ o, c.1 < 2 ^ n) (h1 : IsFirst 0 os a) (h2 : IsFirst 0 ps b) : IsFirst 0 (os ++ ps.map fun o => o.map (sh n)) (a ++ b.map (sh n)) := by
  have ez : ∀ u, (0 : Nat) ||| taken u = taken u ||| 0 <<< n := fun u => by rw [Nat.zero_or, shl_zero.mpr rfl, Nat.or_zero]
  refine ⟨h1.way.app (by rw [ez]; exact h2.way.shift (taken_lt hb h1.way)), fun w hw => ?_, fun w hw e => ?_⟩
  · obtain ⟨u, v, rfl, hu, hv⟩ := hw.split
    rw [ez] at hv
    obtain ⟨v, rfl, hv2⟩ := hv.unshift (taken_lt hb hu)
    have := h1.top u hu
    have := h2.top v hv2
    rw [worth_app, worth_app, worth_sh, worth_sh]; omega
  · obtain ⟨u, v, rfl, hu, hv⟩ := hw.split
    rw [ez] at hv
    obtain ⟨v, rfl, hv2⟩ := hv.unshift (taken_lt hb hu)
    have t1 := h1.top u hu
    have t2 := h2.top v hv2
    rw [worth_app, worth_app, worth_sh, worth_sh] at e
    exact lexLe_app (by rw [h1.way.length, hu.length]) (h1.fst u hu (by omega)) (lexLe_sh n (h2.fst v hv2 (by omega)))
theorem best_beside {n : Nat} {os ps : List Off} (hb : ∀ o ∈ os, ∀ c ∈ o, c.1 < 2 ^ n) : bestW 0 (os ++ ps.map fun o => o.map (sh n)) = bestW 0 os + bestW 0 ps := by
  obtain ⟨a, ha⟩ := exists_first os
  obtain ⟨b, hb2⟩ := exists_first ps
  rw [← (IsFirst.beside hb ha hb2).worth_eq, worth_app, worth_sh, ha.worth_eq, hb2.worth_eq]
end GP


set_option Elab.async false
set_option linter.all false
/-! sorting by questions: what comes out when the keys are told apart -/
namespace GS
open PySem PySem.W PyProof.Rows
/-- the questions are about places below n, and are answered by lt -/
noncomputable def Ok (n : Nat) (lt : Nat → Nat → Bool) {α : Type} : KasT α → (α → Prop) → Prop
  | .ret a, R => R a
  | .ask i j k, R => i < n ∧ j < n ∧ i ≠ j ∧ Ok n lt (k (lt i j)) R
variable {n : Nat} {lt : Nat → Nat → Bool} {α β : Type}
theorem Ok.bind {f : α → KasT β} {R : β → Prop} : ∀ {t : KasT α}, Ok n lt t (fun a => Ok n lt (f a) R) → Ok n lt (t.bind f) R
  | .ret _, h => h
  | .ask i j k, h => ⟨h.1, h.2.1, h.2.2.1, Ok.bind h.2.2.2⟩
theorem Ok.mono {R R' : α → Prop} (hr : ∀ a, R a → R' a) : ∀ {t : KasT α}, Ok n lt t R → Ok n lt t R'
  | .ret _, h => hr _ h
  | .ask i j k, h => ⟨h.1, h.2.1, h.2.2.1, Ok.mono hr h.2.2.2⟩
theorem Ok.wp {cmp : Nat → Nat → (Bool → Shared → Prop) → Shared → Prop} {St : Shared → Prop} (hc : ∀ i j C s, i < n → j < n → i ≠ j → St s → (∀ s', St s' → C (lt i j) s') → cmp i j C s) {R : α → Prop} {Q : α → Shared → Prop} (hq : ∀ a s, R a → St s → Q a s) :
    ∀ (t : KasT α) (s : Shared), Ok n lt t R → St s → t.kasWp cmp Q s
  | .ret a, s, h, hs => hq a s h hs
  | .ask i j k, s, h, hs => hc i j _ s h.1 h.2.1 h.2.2.1 hs fun s' hs' => Ok.wp hc hq (k (lt i j)) s' h.2.2.2 hs'
/-! ### keys -/
section
variable (ky : Nat → Int)
noncomputable def kp (p : Array Nat) (i : Nat) : Int := ky (p.getD i 0)
noncomputable def Up (p : Array Nat) (k : Nat) : Prop := ∀ i j, i < j → j < k → kp ky p i < kp ky p j
noncomputable def Down (p : Array Nat) (k : Nat) : Prop := ∀ i j, i < j → j < k → kp ky p j < kp ky p i
/-- p holds the places below n, each once; their keys are unlike -/
structure Pm (n : Nat) (p : Array Nat) : Prop where
  perm : p.Perm (List.toArray (List.range n))
theorem Pm.size {n : Nat} {p : Array Nat} (h : Pm n p) : p.size = n := by
  have := h.perm.size_eq
  simpa using this
theorem Pm.below {n : Nat} {p : Array Nat} (h : Pm n p) {i : Nat} (hi : i < n) : p.getD i 0 < n := by
  have hs : i < p.size := by rw [h.size]; exact hi
  have hm : p[i] ∈ p := Array.getElem_mem hs
  have := (h.perm.mem_iff).mp hm
  have e : p.getD i 0 = p[i] := by simp [Array.getD, hs]
  rw [e]
  simpa using this
theorem Pm.inj {n : Nat} {p : Array Nat} (h : Pm n p) {i j : Nat} (hi : i < n) (hj : j < n) (e : p.getD i 0 = p.getD j 0) : i = j := by
  have hs : i < p.size := by rw [h.size]; exact hi
  have hs2 : j < p.size := by rw [h.size]; exact hj
  have hn : p.toList.Nodup := by
    have : p.toList.Perm (List.range n) := by
      have := Array.perm_iff_toList_perm.mp h.perm
      simpa using this
    exact this.nodup_iff.mpr List.nodup_range
  have e1 : p.getD i 0 = p.toList[i]'(by simpa using hs) := by simp [Array.getD, hs]
  have e2 : p.getD j 0 = p.toList[j]'(by simpa using hs2) := by simp [Array.getD, hs2]
  rw [e1, e2] at e
  exact (List.getElem_inj hn).mp e
end
variable {ky : Nat → Int} (hk : ∀ i j, i < n → j < n → ky i = ky j → i = j)
include hk
theorem ne_keys {p : Array Nat} (hp : Pm n p) {i j : Nat} (hi : i < n) (hj : j < n) (hij : i ≠ j) : kp ky p i ≠ kp ky p j := fun e =>
  hij (hp.inj hi hj (hk _ _ (hp.below hi) (hp.below hj) e))
omit hk in
theorem Up.succ {p : Array Nat} {m : Nat} (h : Up ky p (m + 1)) (hl : kp ky p m < kp ky p (m + 1)) : Up ky p (m + 2) := fun i j hij hj => by
  by_cases e : j = m + 1
  · subst e
    by_cases e2 : i = m
    · subst e2; exact hl
    · exact Int.lt_trans (h i m (by omega) (by omega)) hl
  · exact h i j hij (by omega)
omit hk in
theorem Down.succ {p : Array Nat} {m : Nat} (h : Down ky p (m + 1)) (hl : kp ky p (m + 1) < kp ky p m) : Down ky p (m + 2) := fun i j hij hj => by
  by_cases e : j = m + 1
  · subst e
    by_cases e2 : i = m
    · subst e2; exact hl
    · exact Int.lt_trans hl (h i m (by omega) (by omega))
  · exact h i j hij (by omega)
noncomputable abbrev ltK (ky : Nat → Int) : Nat → Nat → Bool := fun i j => decide (ky i < ky j)
theorem asc_ok {p : Array Nat} (hp : Pm n p) : ∀ (f m : Nat), m + 1 + f ≤ n → Up ky p (m + 1) → Ok n (ltK ky) (kas_asc p f (m + 1)) fun r => m + 1 ≤ r ∧ r ≤ m + 1 + f ∧ Up ky p r ∧ (r < m + 1 + f → kp ky p r < kp ky p (r - 1))
  | 0, m, hn, h => ⟨Nat.le_refl _, by omega, h, fun z => by omega⟩
  | f + 1, m, hn, h => by
    refine ⟨hp.below (by omega), hp.below (by omega), fun z => absurd (hp.inj (by omega) (by omega) z) (by omega), ?_⟩
    show Ok n (ltK ky) (if decide (kp ky p (m + 1) < kp ky p m) = true then _ else _) _
    by_cases c : kp ky p (m + 1) < kp ky p m
    · rw [if_pos (decide_eq_true c)]
      exact ⟨Nat.le_refl _, by omega, h, fun _ => c⟩
    · rw [if_neg (by simpa using c)]
      have c2 : kp ky p m < kp ky p (m + 1) := by
        have := ne_keys hk hp (i := m) (j := m + 1) (by omega) (by omega) (by omega)
        omega
      refine Ok.mono (fun r z => ?_) (asc_ok hp f (m + 1) (by omega) (h.succ c2))
      exact ⟨by omega, by omega, z.2.2.1, fun q => z.2.2.2 (by omega)⟩
theorem desc_ok {p : Array Nat} (hp : Pm n p) : ∀ (f m : Nat), m + 1 + f ≤ n → Down ky p (m + 1) → Ok n (ltK ky) (kas_desc f p (m + 1) 0) fun r => r.1 = p ∧ r.2.2 = 0 ∧ m + 1 ≤ r.2.1 ∧ r.2.1 ≤ m + 1 + f ∧ Down ky p r.2.1
  | 0, m, hn, h => ⟨rfl, rfl, Nat.le_refl _, by show m + 1 ≤ _; omega, h⟩
  | f + 1, m, hn, h => by
    refine ⟨hp.below (by omega), hp.below (by omega), fun z => absurd (hp.inj (by omega) (by omega) z) (by omega), ?_⟩
    show Ok n (ltK ky) (if decide (kp ky p (m + 1) < kp ky p m) = true then _ else _) _
    by_cases c : kp ky p (m + 1) < kp ky p m
    · rw [if_pos (decide_eq_true c), if_neg (by omega)]
      refine Ok.mono (fun r z => ?_) (desc_ok hp f (m + 1) (by omega) (h.succ c))
      exact ⟨z.1, z.2.1, by omega, by omega, z.2.2.2.2⟩
    · rw [if_neg (by simpa using c)]
      have c2 : kp ky p m < kp ky p (m + 1) := by
        have := ne_keys hk hp (i := m) (j := m + 1) (by omega) (by omega) (by omega)
        omega
      refine ⟨hp.below (by omega), hp.below (by omega), fun z => absurd (hp.inj (by omega) (by omega) z) (by omega), ?_⟩
      show Ok n (ltK ky) (if decide (kp ky p m < kp ky p (m + 1)) = true then _ else _) _
      rw [if_pos (decide_eq_true c2)]
      exact ⟨rfl, rfl, Nat.le_refl _, by show m + 1 ≤ _; omega, h⟩
omit hk in
theorem rev_pm {p : Array Nat} (hp : Pm n p) (i j : Nat) : Pm n (kas_rev p i j) := ⟨(mirror_perm _ _ _ _).trans hp.perm⟩
omit hk in
theorem kp_rev {p : Array Nat} {r : Nat} (hr : r ≤ p.size) (i : Nat) : kp ky (kas_rev p 0 r) i = if i < r then kp ky p (r - 1 - i) else kp ky p i := by
  have e := getElem?_mirror_all (xs := p) (i := 0) (j := r) hr i
  have g : ∀ (q : Array Nat) (k : Nat), q.getD k 0 = (q[k]?).getD 0 := fun q k => by simp
  unfold kp kas_rev
  rw [g, e]
  by_cases h : i < r
  · rw [if_pos ⟨by omega, h⟩, if_pos h, g, show 0 + r - 1 - i = r - 1 - i by omega]
  · rw [if_neg (by omega), if_neg h, g]
omit hk in
theorem rev_up {p : Array Nat} {r : Nat} (hr : r ≤ p.size) (h : Down ky p r) : Up ky (kas_rev p 0 r) r := fun i j hij hj => by
  rw [kp_rev hr, kp_rev hr, if_pos (by omega), if_pos hj]
  exact h _ _ (by omega) (by omega)
theorem count_ok (h1 : 1 ≤ n) {p : Array Nat} (hp : Pm n p) : Ok n (ltK ky) (kas_count n p) fun r => Pm n r.2 ∧ 1 ≤ r.1 ∧ r.1 ≤ n ∧ Up ky r.2 r.1 := by
  unfold kas_count
  refine Ok.bind (Ok.mono (fun r z => ?_) (asc_ok hk hp (n - 1) 0 (by omega) (fun i j hij hj => by omega)))
  obtain ⟨z1, z2, z3, z4⟩ := z
  by_cases e : r = n
  · subst e
    rw [if_pos (by simp)]
    exact ⟨hp, by omega, Nat.le_refl _, z3⟩
  · rw [if_neg (by simpa using e)]
    by_cases e2 : r > 1
    · rw [if_pos e2]
      refine ⟨hp.below (by omega), hp.below (by omega), fun z => absurd (hp.inj (by omega) (by omega) z) (by omega), ?_⟩
      have c : kp ky p 0 < kp ky p (r - 1) := z3 0 (r - 1) (by omega) (by omega)
      show Ok n (ltK ky) (if decide (kp ky p 0 < kp ky p (r - 1)) = true then _ else _) _
      rw [if_pos (decide_eq_true c)]
      exact ⟨hp, by show 1 ≤ r; omega, by show r ≤ n; omega, z3⟩
    · rw [if_neg e2]
      have er : r = 1 := by omega
      subst er
      have c := z4 (by omega)
      unfold kas_descPart
      refine Ok.bind (Ok.mono (fun q y => ?_) (desc_ok hk hp (n - (1 + 1)) 1 (by omega) (fun i j hij hj => ?_)))
      · obtain ⟨y1, y2, y3, y4, y5⟩ := y
        rw [if_neg (by omega), y1]
        unfold kas_tail3
        have hq : q.2.1 ≤ p.size := by rw [hp.size]; omega
        obtain ⟨m, hm⟩ : ∃ m, q.2.1 = m + 1 := ⟨q.2.1 - 1, by omega⟩
        have U := rev_up hq y5
        rw [hm] at U ⊢
        refine Ok.bind (Ok.mono (fun r' x => ?_) (asc_ok hk (rev_pm hp 0 (m + 1)) (n - (m + 1)) m (by omega) U))
        exact ⟨rev_pm hp _ _, by show 1 ≤ r'; omega, by show r' ≤ n; omega, x.2.2.1⟩
      · have ei : i = 0 := by omega
        have ej : j = 1 := by omega
        subst ei; subst ej
        exact c
theorem place_ok {p : Array Nat} (hp : Pm n p) {k : Nat} (hkn : k < n) (hU : Up ky p k) : ∀ (f l r : Nat), l ≤ r → r ≤ k → r - l ≤ f → (∀ i, i < l → kp ky p i < kp ky p k) → (∀ i, r ≤ i → i < k → kp ky p k < kp ky p i) →
    Ok n (ltK ky) (kas_place p k f l r) fun m => m ≤ k ∧ (∀ i, i < m → kp ky p i < kp ky p k) ∧ ∀ i, m ≤ i → i < k → kp ky p k < kp ky p i
  | 0, l, r, h1, h2, h3, a, b => ⟨by omega, a, fun i hi hik => b i (by omega) hik⟩
  | f + 1, l, r, h1, h2, h3, a, b => by
    unfold kas_place
    by_cases c : l ≥ r
    · rw [if_pos c]
      exact ⟨by omega, a, fun i hi hik => b i (by omega) hik⟩
    · rw [if_neg c]
      refine ⟨hp.below hkn, hp.below (by omega), fun z => absurd (hp.inj (by omega) (by omega) z) (by omega), ?_⟩
      show Ok n (ltK ky) (if decide (kp ky p k < kp ky p ((l + r) / 2)) = true then _ else _) _
      by_cases d : kp ky p k < kp ky p ((l + r) / 2)
      · rw [if_pos (decide_eq_true d)]
        refine place_ok hp hkn hU f l ((l + r) / 2) (by omega) (by omega) (by omega) a fun i hi hik => ?_
        by_cases e : i = (l + r) / 2
        · subst e; exact d
        · exact Int.lt_trans d (hU _ _ (by omega) hik)
      · rw [if_neg (by simpa using d)]
        have d2 : kp ky p ((l + r) / 2) < kp ky p k := by
          have := ne_keys hk hp (i := (l + r) / 2) (j := k) (by omega) hkn (by omega)
          omega
        refine place_ok hp hkn hU f ((l + r) / 2 + 1) r (by omega) h2 (by omega) (fun i hi => ?_) b
        by_cases e : i = (l + r) / 2
        · subst e; exact d2
        · exact Int.lt_trans (hU i ((l + r) / 2) (by omega) (by omega)) d2
omit hk in
theorem kp_bubble {p : Array Nat} {k l : Nat} (hkp : k < p.size) (hl : l ≤ k) (i : Nat) : kp ky (bubble p k (k - l)) i = if i = l then kp ky p k else if l < i ∧ i ≤ k then kp ky p (i - 1) else kp ky p i := by
  have e := getElem?_bubble hkp (k - l) (by omega) i
  have g : ∀ (q : Array Nat) (k : Nat), q.getD k 0 = (q[k]?).getD 0 := fun q k => by simp
  rw [show k - (k - l) = l by omega] at e
  unfold kp
  rw [g, e]
  by_cases h : i = l
  · rw [if_pos h, if_pos h, g]
  · rw [if_neg h, if_neg h]
    by_cases h2 : l < i ∧ i ≤ k
    · rw [if_pos h2, if_pos h2, g]
    · rw [if_neg h2, if_neg h2, g]
theorem bin_ok : ∀ (f : Nat) {p : Array Nat} {k : Nat}, Pm n p → k + f = n → Up ky p k → Ok n (ltK ky) (kas_bin f p k) fun q => Pm n q ∧ Up ky q n
  | 0, p, k, hp, e, h => by
    have : k = n := by omega
    subst this
    exact ⟨hp, h⟩
  | f + 1, p, k, hp, e, h => by
    unfold kas_bin
    refine Ok.bind (Ok.mono (fun l z => ?_) (place_ok hk hp (k := k) (by omega) h k 0 k (by omega) (by omega) (by omega) (fun i hi => by omega) (fun i hi hik => by omega)))
    obtain ⟨z1, z2, z3⟩ := z
    have hkp : k < p.size := by rw [hp.size]; omega
    refine bin_ok f ⟨(bubble_perm _ _ _).trans hp.perm⟩ (by omega) fun i j hij hj => ?_
    rw [kp_bubble hkp z1, kp_bubble hkp z1]
    by_cases ei : i = l
    · rw [if_pos ei, if_neg (by omega), if_pos ⟨by omega, by omega⟩]
      exact z3 _ (by omega) (by omega)
    · rw [if_neg ei]
      by_cases ej : j = l
      · rw [if_pos ej, if_neg (by omega)]
        exact z2 _ (by omega)
      · rw [if_neg ej]
        by_cases c1 : l < i ∧ i ≤ k
        · rw [if_pos c1, if_pos ⟨by omega, by omega⟩]
          exact h _ _ (by omega) (by omega)
        · rw [if_neg c1]
          by_cases c2 : l < j ∧ j ≤ k
          · rw [if_pos c2]
            exact h _ _ (by omega) (by omega)
          · rw [if_neg c2]
            exact h _ _ hij (by omega)
theorem sort_ok (h1 : 1 ≤ n) : Ok n (ltK ky) (kas_sort n) fun q => Pm n q ∧ Up ky q n := by
  unfold kas_sort
  refine Ok.bind (Ok.mono (fun r z => ?_) (count_ok hk h1 (p := List.toArray (List.range n)) ⟨Array.Perm.refl _⟩))
  obtain ⟨z1, z2, z3, z4⟩ := z
  by_cases c : r.1 < n
  · rw [if_pos c]
    have e : max r.1 1 = r.1 := by omega
    rw [e]
    exact bin_ok hk (n - r.1) z1 (by omega) z4
  · rw [if_neg c]
    have e : r.1 = n := by omega
    rw [e] at z4
    exact ⟨z1, z4⟩
end GS


set_option Elab.async false
set_option linter.all false
set_option maxRecDepth 100000
/-! sorted(..) of tuples whose first parts are whole numbers, no two alike -/
namespace GS
open PySem PySem.W PyProof.Rows
theorem kt_at {h : Heap} : ∀ {vs fs : List Value} {i : Nat}, KatTups h vs fs → i < vs.length → ∃ (a : Addr) (o : Obj) (xs : Array Value) (n : Nat) (f : Value), vs.getD i Value.none = .ref a ∧ h.get? a = some o ∧ o.data = .seq xs n ∧ xs[0]? = some f ∧ fs[i]? = some f
  | v :: vs, f :: fs, 0, t, _ => by
    obtain ⟨⟨a, o, xs, n, rfl, ho, hc, hd, hf⟩, _⟩ := t
    exact ⟨a, o, xs, n, f, rfl, ho, hd, hf, rfl⟩
  | v :: vs, f :: fs, i + 1, t, hi => by
    obtain ⟨a, o, xs, n, g, e1, e2, e3, e4, e5⟩ := kt_at (i := i) t.2 (by simpa using hi)
    exact ⟨a, o, xs, n, g, by simpa using e1, e2, e3, e4, by simpa using e5⟩
  | [], _, _, _, hi => by simp at hi
  | _ :: _, [], _, t, _ => t.elim
section
variable {prog : Program} {w : World} {A : Around} {E : Value → Shared → Prop} {s : Shared} {ky : Nat → Int} {vs fs : List Value}
/-- the first parts are the keys -/
noncomputable def Keys (ky : Nat → Int) (fs : List Value) : Prop := ∀ (i : Nat) (f : Value), fs[i]? = some f → ∃ t, f = .int (ky i) t
theorem first_cons {xs : Array Value} {f : Value} (h : xs[0]? = some f) : ∃ r, xs.toList = f :: r := by
  cases e : xs.toList with
  | nil =>
    have : xs.toList[0]? = some f := by rw [Array.getElem?_toList]; exact h
    rw [e] at this; cases this
  | cons x r =>
    have : xs.toList[0]? = some f := by rw [Array.getElem?_toList]; exact h
    rw [e] at this
    cases this
    exact ⟨r, rfl⟩
theorem ask_ok (T : KatTups s.heap vs fs) (hf : Keys ky fs) (hk : ∀ i j, i < vs.length → j < vs.length → ky i = ky j → i = j) {i j : Nat} {C : Bool → Shared → Prop} (hi : i < vs.length) (hj : j < vs.length) (hij : i ≠ j) (h : C (ltK ky i j) s) :
    kas_ask prog w A (tuples' true) vs i j C s := by
  obtain ⟨a, o, xs, n, f, e1, e2, e3, e4, e5⟩ := kt_at T hi
  obtain ⟨b, o', ys, m, g, d1, d2, d3, d4, d5⟩ := kt_at T hj
  obtain ⟨t, rfl⟩ := hf i f e5
  obtain ⟨u, rfl⟩ := hf j g d5
  obtain ⟨r, hr⟩ := first_cons e4
  obtain ⟨q, hq⟩ := first_cons d4
  unfold kas_ask
  rw [e1, d1]
  refine kat_lt e2 e3 d2 d3 ?_
  rw [hr, hq, List.zip_cons_cons]
  refine kat_cons (wpAny_eqBool_int ?_)
  have ne : (ky i == ky j) = false := by
    cases z : ky i == ky j with
    | false => rfl
    | true => exact absurd (hk i j hi hj (beq_iff_eq.mp z)) hij
  rw [ne]
  exact kat_no (oneLt_int h)
theorem kind_ok (T : KatTups s.heap vs fs) (hf : Keys ky fs) (h0 : 0 < fs.length) {Q : SortKind → Shared → Prop} (h : Q (tuples' true) s) : wpAny (model prog w) A (keyKind' vs.toArray) Q E s := by
  refine kat_kind (T := .type "int") T h0 (fun v hv => ?_) rfl h
  obtain ⟨i, hi, e⟩ := List.mem_iff_getElem.mp hv
  obtain ⟨t, rfl⟩ := hf i v (by rw [List.getElem?_eq_getElem hi, e])
  exact Looks.of_pure rfl
theorem kt_len {h : Heap} : ∀ {vs fs : List Value}, KatTups h vs fs → fs.length = vs.length
  | [], [], _ => rfl
  | _ :: _, _ :: _, t => by rw [List.length_cons, List.length_cons, kt_len t.2]
  | [], _ :: _, t => t.elim
  | _ :: _, [], t => t.elim
theorem kt_keep {h h' : Heap} {a : Addr} (hn : ∀ v ∈ vs, v ≠ .ref a) (hk : ∀ b o, b ≠ a → h.get? b = some o → h'.get? b = some o) : ∀ {fs : List Value}, KatTups h vs fs → KatTups h' vs fs := by
  induction vs with
  | nil =>
    intro fs t
    cases fs with
    | nil => exact trivial
    | cons _ _ => exact t.elim
  | cons v vs ih =>
    intro fs t
    cases fs with
    | nil => exact t.elim
    | cons f fs =>
      obtain ⟨⟨b, o, xs, n, e, ho, hc, hd, hf⟩, t2⟩ := t
      exact ⟨⟨b, o, xs, n, e, hk b o (fun z => hn v (by simp) (by rw [e, z])) ho, hc, hd, hf⟩, ih (fun v hv => hn v (by simp [hv])) t2⟩
/-- what comes out: the same, rising -/
noncomputable def Out (ky : Nat → Int) (vs out : List Value) : Prop := ∃ p : Array Nat, Pm vs.length p ∧ Up ky p vs.length ∧ out = p.toList.map fun i => vs.getD i Value.none
theorem out_short (hv : vs.length < 2) : Out ky vs vs := by
  refine ⟨List.toArray (List.range vs.length), ⟨Array.Perm.refl _⟩, fun i j hij hj => by omega, ?_⟩
  match vs, hv with
  | [], _ => rfl
  | [v], _ => rfl
theorem sort_tups {a : Addr} {n : Nat} {P : PySem.Fin → Shared → Prop} (ho : s.heap.get? a = some (seqObj "list" vs.toArray n)) (T : KatTups s.heap vs fs) (hn : ∀ v ∈ vs, v ≠ .ref a) (hf : Keys ky fs)
    (hk : ∀ i j, i < vs.length → j < vs.length → ky i = ky j → i = j) (h64 : vs.length < 64) (fin : ∀ out, Out ky vs out → P (.done (.ret .none)) { s with heap := sortedHeap s.heap a vs out.toArray }) :
    wpAny (model prog w) A (Builtin.«list.sort» ⟨[.ref a], []⟩) P E s := by
  have lo : vs.length ≤ sizeLine := by rw [sizeLine_eq]; omega
  have hlt := Heap.lt_size ho
  obtain ⟨c, hc⟩ : ∃ c, (s.heap.update a (Obj.mapSeq fun _ => (#[] : Array Value))).get? a = some (seqObj "list" #[] c) :=
    ⟨_, get?_update_seq ho fun _ => #[]⟩
  have keep : ∀ b o, b ≠ a → s.heap.get? b = some o →
      (((s.heap.update a (Obj.mapSeq fun _ => (#[] : Array Value))).push (seqObj "tuple" vs.toArray 0)).push (seqObj "list" #[] 0)).get? b = some o := fun b o hb e =>
    Heap.get?_push_of_some _ (Heap.get?_push_of_some _ (by rw [Heap.get?_update_ne _ _ _ _ hb]; exact e))
  have hc2 : (((s.heap.update a (Obj.mapSeq fun _ => (#[] : Array Value))).push (seqObj "tuple" vs.toArray 0)).push (seqObj "list" #[] 0)).get? a = some (seqObj "list" #[] c) :=
    Heap.get?_push_of_some _ (Heap.get?_push_of_some _ hc)
  rw [list_sort_plain]
  refine wpAny_bind (listItems_at ho rfl (wpAny_bind (listUpdate_at ho rfl ?_ (by rw [List.size_toArray]; exact lo) (Nat.zero_le _))))
  refine wpAny_bind (seqEpoch_at hc rfl (wpAny_bind (wpAny_newTuple ?_ (by show vs.length ≤ _; exact lo))))
  refine wpAny_bind (wpAny_newList (wpAny_holding ?_) (Nat.zero_le _))
  show wpAny _ _ _ P E { s with heap := ((s.heap.update a (Obj.mapSeq fun _ => (#[] : Array Value))).push (seqObj "tuple" vs.toArray 0)).push (seqObj "list" #[] 0) }
  have tail : ∀ (st : SortSt) (out : List Value), Out ky vs out → (arrOf st).map (·.2) = out.toArray → failedOf st = none → wpAny (model prog w) A (do
      let touched := (← seqEpoch a) != c
      Builtin.List.listUpdate (.ref a) fun _ => (arrOf st).map (·.2)
      if let some e := failedOf st then rule "list.sort.comparison-raised"; throw e
      if touched then rule "list.sort.modified"; raiseError "ValueError" "list modified during sort"
      ret .none) P E { s with heap := ((s.heap.update a (Obj.mapSeq fun _ => (#[] : Array Value))).push (seqObj "tuple" vs.toArray 0)).push (seqObj "list" #[] 0) } := fun st out hO e1 e2 => by
    have lz : out.toArray.size ≤ sizeLine + 1 := by
      obtain ⟨p, hp, _, rfl⟩ := hO
      rw [List.size_toArray, List.length_map, Array.length_toList, hp.size]; omega
    rw [e1, e2]
    refine wpAny_bind (seqEpoch_at hc2 rfl (wpAny_bind (listUpdate_at hc2 rfl ?_ (Nat.zero_le _) lz)))
    simp only [bne_self_eq_false, Bool.false_eq_true, if_false]
    exact wpAny_pure (fin out hO)
  dsimp only
  by_cases h2 : vs.length < 2
  · have hs2 : vs.toArray.size < 2 := by rw [List.size_toArray]; exact h2
    rw [if_pos hs2, if_pos hs2]
    refine wpAny_bind (wpAny_pure ?_)
    rw [StateT.run_pure]
    refine wpAny_bind (wpAny_pure ?_)
    refine tail _ vs (out_short h2) ?_ rfl
    show (vs.toArray.zip vs.toArray).map (·.2) = _
    refine Array.toList_inj.mp ?_
    rw [Array.toList_map, Array.toList_zip]
    exact List.map_snd_zip (by simp)
  · have hs2 : ¬ vs.toArray.size < 2 := by rw [List.size_toArray]; exact h2
    rw [if_neg hs2, if_neg hs2]
    have T2 := kt_keep hn keep T
    refine wpAny_bind (kind_ok (s := { s with heap := _ }) T2 hf (by rw [kt_len T]; omega) ?_)
    refine wpAny_bind (wpAny_mono (kat_run (G := fun p s' => (Pm vs.length p ∧ Up ky p vs.length) ∧ s' = { s with heap := ((s.heap.update a (Obj.mapSeq fun _ => (#[] : Array Value))).push (seqObj "tuple" vs.toArray 0)).push (seqObj "list" #[] 0) }) (Q := fun st' s' => ∃ out, Out ky vs out ∧ (arrOf st').map (·.2) = out.toArray ∧ failedOf st' = none ∧ s' = { s with heap := ((s.heap.update a (Obj.mapSeq fun _ => (#[] : Array Value))).push (seqObj "tuple" vs.toArray 0)).push (seqObj "list" #[] 0) }) rfl (by omega) h64 (fun p st' s' a1 a2 a3 a4 => ?_) ?_) (fun r s' hr => ?_) fun _ _ e => e)
    · exact ⟨_, ⟨p, a4.1.1, a4.1.2, rfl⟩, kat_snds rfl a2, a3, a4.2⟩
    · refine Ok.wp (St := fun s' => s' = { s with heap := ((s.heap.update a (Obj.mapSeq fun _ => (#[] : Array Value))).push (seqObj "tuple" vs.toArray 0)).push (seqObj "list" #[] 0) }) (fun i j C s1 hi hj hij e h => ?_) (fun p s1 hp e => ⟨hp, e⟩) _ _ (sort_ok hk (by omega)) rfl
      subst e
      exact ask_ok T2 hf hk hi hj hij (h _ rfl)
    · obtain ⟨⟨⟩, st'⟩ := r
      obtain ⟨out, hO, e1, e2, rfl⟩ := hr
      exact tail st' out hO e1 e2
theorem sorted_tups {l : Addr} {Q : Value → Shared → Prop} (hl : s.heap.IsList l vs.toArray) (T : KatTups s.heap vs fs) (hf : Keys ky fs) (hk : ∀ i j, i < vs.length → j < vs.length → ky i = ky j → i = j) (h64 : vs.length < 64)
    (h : ∀ out, Out ky vs out → Q (.ref (s.heap.objs.size + 1)) { s with heap := sortedAll s.heap vs out.toArray }) : wpAny (model prog w) A (call (.builtin "sorted") [.ref l]) Q E s := by
  have lo : vs.length ≤ sizeLine := by rw [sizeLine_eq]; omega
  have sz : ((s.heap.push (seqObj "list" #[] 0)).update s.heap.objs.size (Obj.mapSeq (· ++ vs.toArray))).objs.size = s.heap.objs.size + 1 :=
    (Heap.size_update _ _ _).trans (size_push' _ _)
  have old : ∀ b o, s.heap.get? b = some o →
      (((s.heap.push (seqObj "list" #[] 0)).update s.heap.objs.size (Obj.mapSeq (· ++ vs.toArray))).push (seqObj "list" vs.toArray 0)).get? b = some o := fun b o e => by
    have hb := Heap.lt_size e
    refine Heap.get?_push_of_some _ ?_
    rw [Heap.get?_update_ne _ _ _ _ (Nat.ne_of_lt hb)]
    exact Heap.get?_push_of_some _ e
  refine Calls.call_function_entry kind_sorted plain_sorted entry_sorted (args_sorted1 _) ?_
  unfold Builtin.«sorted»
  refine wpAny_bind (m := checkCount "sorted" 1 1 _) (wpAny_pure (wpAny_bind (collect_list hl (wpAny_bind (wpAny_newList ?_ lo)) lo)))
  show wpAny _ _ _ _ _ { s with heap := ((s.heap.push (seqObj "list" #[] 0)).update s.heap.objs.size (Obj.mapSeq (· ++ vs.toArray))).push (seqObj "list" vs.toArray 0) }
  rw [sz]
  have at1 : (((s.heap.push (seqObj "list" #[] 0)).update s.heap.objs.size (Obj.mapSeq (· ++ vs.toArray))).push (seqObj "list" vs.toArray 0)).get? (s.heap.objs.size + 1) = some (seqObj "list" vs.toArray 0) := by
    have := Heap.get?_push_size ((s.heap.push (seqObj "list" #[] 0)).update s.heap.objs.size (Obj.mapSeq (· ++ vs.toArray))) (o := seqObj "list" vs.toArray 0) rfl
    rw [sz] at this
    exact this
  refine wpAny_bind (wpAny_holding (wpAny_call_entry slot_list_sort ⟨_, at1, rfl⟩ entry_list_sort (sort_tups (fs := fs) (ky := ky) at1 ?_ ?_ hf hk h64 fun out hO => ⟨_, rfl, ?_⟩) (args_list_sort _)))
  · refine kt_keep (a := s.heap.objs.size + 1) (fun v hv e => ?_) (fun b o _ e => old b o e) T
    subst e
    obtain ⟨i, hi, e⟩ := List.mem_iff_getElem.mp hv
    obtain ⟨b, o, xs, n, f, e1, e2, _⟩ := kt_at T hi
    rw [List.getD_eq_getElem?_getD, List.getElem?_eq_getElem hi] at e1
    have e1 : vs[i] = .ref b := e1
    rw [e] at e1
    cases e1
    exact absurd (Heap.lt_size e2) (Nat.not_lt_of_le (Nat.le_succ _))
  · intro v hv e
    subst e
    obtain ⟨i, hi, e⟩ := List.mem_iff_getElem.mp hv
    obtain ⟨b, o, xs, n, f, e1, e2, _⟩ := kt_at T hi
    rw [List.getD_eq_getElem?_getD, List.getElem?_eq_getElem hi] at e1
    have e1 : vs[i] = .ref b := e1
    rw [e] at e1
    cases e1
    exact absurd (Heap.lt_size e2) (Nat.not_lt_of_le (Nat.le_succ _))
  · exact wpAny_pure ⟨_, rfl, h out hO⟩
end
end GS
namespace L2
open PySem PySem.Spec PyProof.Rows GS
theorem refs_are : ∀ {ps : List Addr} {us : List Value}, Vals (ps.map V.ref) us → us = ps.map Value.ref
  | [], _, h => by cases h; rfl
  | p :: ps, _, h => by
    cases h with
    | cons r t =>
      cases r
      rw [refs_are t]; rfl
theorem pairs_kt {X : Cx} {pins : List (Addr × Obj)} {σ : St} {H : Hp} {s : Shared} (I : Inv X pins σ H s) : ∀ {ps : List Addr} {xs : List (Nat × Int)}, ps.length = xs.length → (∀ (i : Nat) (p : Addr) (x : Nat × Int), ps[i]? = some p → xs[i]? = some x → H p = some (.tup [.int x.1, .int x.2])) →
    ∃ fs, W.KatTups s.heap (ps.map Value.ref) fs ∧ Keys (fun i => (((xs[i]?).getD (0, 0)).1 : Int)) fs
  | [], [], _, _ => ⟨[], trivial, fun i f e => by simp at e⟩
  | [], _ :: _, hl, _ => by simp at hl
  | _ :: _, [], hl, _ => by simp at hl
  | p :: ps, x :: xs, hl, h => by
    obtain ⟨fs, T, hf⟩ := pairs_kt I (ps := ps) (xs := xs) (by simpa using hl) (fun i p x a b => h (i + 1) p x (by simpa using a) (by simpa using b))
    obtain ⟨its, r, ht, _⟩ := I.tuple (SqT.of (h 0 p x rfl rfl))
    obtain ⟨o, ho, hc, n, hd⟩ := ht
    cases r with
    | cons r1 r2 =>
      obtain ⟨t, rfl⟩ := r1
      refine ⟨.int x.1 t :: fs, ⟨⟨p, o, _, n, rfl, ho, hc, hd, rfl⟩, T⟩, fun i f e => ?_⟩
      match i, e with
      | 0, e => cases e; exact ⟨t, rfl⟩
      | i + 1, e => exact hf i f (by simpa using e)
section
variable {X : Cx}
/-- sorted(l): pairs, no two of whose first parts are alike -/
theorem call_sortedP : CallR X (.builtin "sorted") (fun us H Q => ∃ (l : Addr) (xs : List (Nat × Int)) (ps : List Addr), us = [.ref l] ∧ Pairs H l xs ps ∧ xs.length < 64 ∧ (xs.map Prod.fst).Nodup ∧
    ∀ r ys qs, H r = none → ys.Perm xs → ys.Pairwise (fun a b => a.1 < b.1) → Pairs (upd H r (.lst (qs.map V.ref))) r ys qs → Q (.ref r) (upd H r (.lst (qs.map V.ref)))) := by
  intro pins s σ H us vs Q I r h
  obtain ⟨l, xs, ps, rfl, ⟨hl, hlen, hat⟩, h64, hnd, q⟩ := h
  obtain ⟨u, rfl, rx⟩ := vals1 r
  cases rx
  obtain ⟨its, r', pl, hz⟩ := I.list (SqL.of hl)
  obtain rfl := refs_are r'
  obtain ⟨fs, T, hf⟩ := pairs_kt I hlen hat
  have hn : (ps.map Value.ref).length = xs.length := by rw [List.length_map]; exact hlen
  refine sorted_tups (ky := fun i => (((xs[i]?).getD (0, 0)).1 : Int)) pl.isList T hf (fun i j hi hj e => ?_) (by omega) fun out hO => ?_
  · rw [hn] at hi hj
    have e1 : xs[i]? = some xs[i] := List.getElem?_eq_getElem hi
    have e2 : xs[j]? = some xs[j] := List.getElem?_eq_getElem hj
    rw [e1, e2] at e
    have e : ((xs[i].1 : Nat) : Int) = ((xs[j].1 : Nat) : Int) := e
    have e3 : (xs.map Prod.fst)[i]'(by simpa using hi) = (xs.map Prod.fst)[j]'(by simpa using hj) := by
      rw [List.getElem_map, List.getElem_map]; omega
    exact (List.getElem_inj hnd).mp e3
  · obtain ⟨p, hp, hU, rfl⟩ := hO
    rw [hn] at hp hU
    have hpl : p.toList.length = xs.length := by rw [Array.length_toList, hp.size]
    have hb : ∀ i ∈ p.toList, i < xs.length := fun i hi => by
      have : p.toList.Perm (List.range xs.length) := by simpa using Array.perm_iff_toList_perm.mp hp.perm
      simpa using this.mem_iff.mp hi
    have ev : (p.toList.map fun i => (ps.map Value.ref).getD i Value.none) = (p.toList.map fun i => (ps[i]?).getD 0).map Value.ref := by
      rw [List.map_map]
      refine List.map_congr_left fun i hi => ?_
      have := hb i hi
      have e : ps[i]? = some (ps[i]'(by omega)) := List.getElem?_eq_getElem (by omega)
      rw [List.getD_eq_getElem?_getD, List.getElem?_map, e]
      show Value.ref _ = Value.ref ((ps[i]?).getD 0)
      rw [e]; rfl
    rw [ev]
    obtain ⟨e, he⟩ := sortedAll_at s.heap (ps.map Value.ref) ((p.toList.map fun i => (ps[i]?).getD 0).map Value.ref).toArray
    have hr0 : H (s.heap.objs.size + 1) = none := I.hok.fresh (Nat.le_succ _)
    have vr : ∀ qs : List Addr, Vals (qs.map V.ref) (qs.map Value.ref) := fun qs => by
      induction qs with
      | nil => exact .nil
      | cons a qs ih => exact .cons rfl ih
    refine ⟨.ref (s.heap.objs.size + 1), _, I.laid (t' := s.toks) (o := .lst ((p.toList.map fun i => (ps[i]?).getD 0).map V.ref)) (fun b o => sortedAll_old) (Nat.le_succ _) ?_, rfl, q _ (p.toList.map fun i => (xs[i]?).getD (0, 0)) _ hr0 ?_ ?_ ?_⟩
    · refine ⟨?_, _, e, vr _, he⟩
      rw [List.length_map, List.length_map, hpl, sizeLine_eq]; omega
    · have h1 : p.toList.Perm (List.range xs.length) := by simpa using Array.perm_iff_toList_perm.mp hp.perm
      have h2 := h1.map fun i => (xs[i]?).getD (0, 0)
      have h3 : ((List.range xs.length).map fun i => (xs[i]?).getD (0, 0)) = xs := by
        refine List.ext_getElem (by simp) fun i a b => ?_
        simp [b]
      rw [h3] at h2
      exact h2
    · rw [List.pairwise_iff_getElem]
      intro i j hi hj hij
      rw [List.length_map, hpl] at hi hj
      have := hU i j hij hj
      unfold kp at this
      have g : ∀ k (hk : k < xs.length), p.getD k 0 = p.toList[k]'(by omega) := fun k hk => by
        have : k < p.size := by rw [hp.size]; exact hk
        simp [Array.getD, this]
      rw [g i hi, g j hj] at this
      rw [List.getElem_map, List.getElem_map]
      dsimp only at this ⊢
      omega
    · refine ⟨upd_same, by rw [List.length_map, List.length_map], fun i b x a1 a2 => ?_⟩
      rw [List.getElem?_map] at a1 a2
      obtain ⟨k, hk, rfl⟩ := Option.map_eq_some_iff.mp a1
      rw [hk] at a2
      cases a2
      have hkb := hb k (List.mem_of_getElem? hk)
      have e1 : xs[k]? = some (xs[k]) := List.getElem?_eq_getElem hkb
      have e2 : ps[k]? = some (ps[k]'(by omega)) := List.getElem?_eq_getElem (by omega)
      have e3 := hat k _ _ e2 e1
      dsimp only
      rw [e1, e2]
      show upd H _ _ (ps[k]'(by omega)) = _
      rw [upd_ne (ne_of_none e3 hr0)]
      exact e3
end
end L2


set_option Elab.async false
set_option linter.all false
set_option maxRecDepth 100000
/-! one list, or one tuple, ahead of another -/
namespace GL
open PySem PySem.SeqAt PySem.AutoSeq1 PySem.MeetsSeq PySem.MeetsSeq2 PySem.MeetsSeq3 PySem.SeqRoads2
noncomputable def LtAt (A : Around) (s : Shared) (y x : Value) (b : Bool) : Prop :=
  ∀ (prog : Program) (w : World) (E : Value → Shared → Prop) (Q : Value → Shared → Prop), Q (.bool b) s → wpAny (model prog w) A (richCompare .Lt y x) Q E s
/-- by the first place that differs, from place i on; k places are left -/
noncomputable def byFirst (e lt : Nat → Bool) : Nat → Nat → Bool
  | 0, _ => false
  | k + 1, i => if e i = true then byFirst e lt k (i + 1) else lt i
theorem tup_lt (l b : Addr) (xs ys : Array Value) (n m : Nat) (dd dd2 : Option Addr) (sl sl2 : Array (Option Value)) (hz : xs.size = ys.size) (e lt : Nat → Bool) :
    Meets (Builtin.«tuple.__lt__» ⟨[.ref l, .ref b], []⟩)
      (fun A R s => s.heap.get? l = some { cls := .type "tuple", dict := dd, data := .seq xs n, slots := sl } ∧ s.heap.get? b = some { cls := .type "tuple", dict := dd2, data := .seq ys m, slots := sl2 } ∧
        (∀ j (h1 : j < xs.size) (h2 : j < ys.size), EqAt A.in1 s xs[j] ys[j] (e j)) ∧ (∀ j (h1 : j < xs.size) (h2 : j < ys.size), e j = false → LtAt A.in1 s xs[j] ys[j] (lt j)) ∧
        R (.ok (.ret (.bool (byFirst e lt xs.size 0)))) s) :=
  .of_wp fun prog w A R s h => by
    obtain ⟨hp, g, d, tk, os⟩ := s
    obtain ⟨hl, hb, he, hlt, h⟩ := h
    have f2 := AutoSeq1.sub_tuple_tuple
    have hZ : (xs.toList.zip ys.toList).length = xs.size := by simp [hz]
    wp_walk using wpAny_loadPart' hl, wpAny_loadPart' hb, wpAny_forIn_list _ (fun rest b s' => b.1 = none ∧ s' = ⟨hp, g, d, tk, os⟩ ∧ ∃ i, i ≤ xs.size ∧ rest = (xs.toList.zip ys.toList).drop i ∧
      R (.ok (.ret (.bool (byFirst e lt (xs.size - i) i)))) ⟨hp, g, d, tk, os⟩) _
    case turn =>
      rintro ⟨y, x⟩ rest b s' ⟨hb', rfl, i, hi, hr, hR⟩
      have hlt1 : i < (xs.toList.zip ys.toList).length := by
        rcases Nat.lt_or_ge i (xs.toList.zip ys.toList).length with q | q
        · exact q
        · rw [List.drop_of_length_le q] at hr; cases hr
      have h1 : i < xs.size := by omega
      have h2 : i < ys.size := by omega
      rw [List.drop_eq_getElem_cons hlt1] at hr
      injection hr with hyx hrest
      obtain rfl : y = xs[i] := by have := congrArg Prod.fst hyx; simpa using this
      obtain rfl : x = ys[i] := by have := congrArg Prod.snd hyx; simpa using this
      have hs : xs.size - i = (xs.size - (i + 1)) + 1 := by omega
      rw [hs] at hR
      unfold byFirst at hR
      refine wpAny_bind (he i h1 h2 prog w _ _ ?_)
      cases hy : e i with
      | true =>
        rw [hy, if_pos rfl] at hR
        wp_walk
        exact ⟨rfl, rfl, i + 1, h1, hrest, hR⟩
      | false =>
        rw [hy, if_neg (by decide)] at hR
        simp only [Bool.not_false, if_true]
        refine wpAny_bind (wpAny_rule (wpAny_bind (hlt i h1 h2 hy prog w _ _ ?_)))
        wp_walk
        exact ⟨_, rfl, hR⟩
    case fin =>
      rintro ⟨b1, b2⟩ s' ⟨hb', rfl, i, hi, hr, hR⟩
      simp only at hb'
      subst hb'
      have hge : xs.size ≤ i := by
        rcases Nat.lt_or_ge i (xs.toList.zip ys.toList).length with q | q
        · rw [List.drop_eq_getElem_cons q] at hr; cases hr
        · omega
      have hs : xs.size - i = 0 := by omega
      rw [hs] at hR
      wp_walk
      refine ⟨_, rfl, ?_⟩
      have z : Builtin.Tuple.tupleCompareSizes .Lt xs.size ys.size = .bool false := by
        show Value.bool (decide (xs.size < ys.size)) = _
        rw [hz, decide_eq_false (Nat.lt_irrefl _)]
      rw [z]
      exact hR
    case h =>
      exact ⟨rfl, rfl, 0, Nat.zero_le _, rfl, by simpa using h⟩
theorem loop_lt (l b : Addr) (xs ys : Array Value) (n m : Nat) (dd dd2 : Option Addr) (sl sl2 : Array (Option Value)) (hz : xs.size = ys.size) (e lt : Nat → Bool) (k : Nat) :
    ∀ i : Nat, xs.size - i = k → Meets (Builtin.«list.__eq__.loop» ⟨[.ref l, .ref b, rawInt i, rawInt 0], []⟩)
      (fun A R s => s.heap.get? l = some { cls := .type "list", dict := dd, data := .seq xs n, slots := sl } ∧ s.heap.get? b = some { cls := .type "list", dict := dd2, data := .seq ys m, slots := sl2 } ∧
        (∀ j (h1 : j < xs.size) (h2 : j < ys.size), EqAt A.in1 s xs[j] ys[j] (e j)) ∧ (∀ j (h1 : j < xs.size) (h2 : j < ys.size), e j = false → LtAt A.in1 s xs[j] ys[j] (lt j)) ∧
        R (.ok (.ret (.bool (byFirst e lt k i)))) s) := by
  induction k with
  | zero =>
    intro i hk prog w A R s h
    obtain ⟨hp, g, d, tk, os⟩ := s
    obtain ⟨hl, hb, he, hlt, h⟩ := h
    wp_walk using wpAny_loadPart' hl, wpAny_loadPart' hb
    have n1 : xs[((i : Nat) : Int).toNat]? = none := by simp; omega
    have n2 : ys[((i : Nat) : Int).toNat]? = none := by simp; omega
    rw [n1, n2]
    wp_walk using wpAny_loadPart' hl, wpAny_loadPart' hb
    show R (.ok (.ret (.bool (decide (xs.size < ys.size))))) _
    rw [hz, decide_eq_false (Nat.lt_irrefl _)]
    exact h
  | succ k ih =>
    intro i hk prog w A R s h
    obtain ⟨hp, g, d, tk, os⟩ := s
    obtain ⟨hl, hb, he, hlt, h⟩ := h
    wp_walk using wpAny_loadPart' hl, wpAny_loadPart' hb
    have h1 : i < xs.size := by omega
    have h2 : i < ys.size := by omega
    have n1 : xs[((i : Nat) : Int).toNat]? = some xs[i] := by simp [h1]
    have n2 : ys[((i : Nat) : Int).toNat]? = some ys[i] := by simp [h2]
    have hc : ((i : Int) + 1) = ((i + 1 : Nat) : Int) := by push_cast; rfl
    unfold byFirst at h
    rw [n1, n2]
    refine wpAny_bind (he i h1 h2 prog w _ _ ?_)
    cases hy : e i with
    | true =>
      rw [hy, if_pos rfl] at h
      wp_walk
      rw [hc]
      exact ⟨plainId_quiet plain_eq_loop _, codeAny_builtin entry_eq_loop (by
        rw [Around.under_plainId plain_eq_loop _]
        exact ih (i + 1) (by omega) prog w A R _ ⟨hl, hb, he, hlt, h⟩)⟩
    | false =>
      rw [hy, if_neg (by decide)] at h
      simp only [Bool.false_eq_true, if_false]
      refine wpAny_bind (PyProof.Rows.listItems_at hl rfl (wpAny_bind (PyProof.Rows.listItems_at hb rfl ?_)))
      rw [n1, n2]
      refine wpAny_bind (hlt i h1 h2 hy prog w _ _ ?_)
      wp_walk
      exact h
theorem list_lt (l b : Addr) (xs ys : Array Value) (n m : Nat) (dd dd2 : Option Addr) (sl sl2 : Array (Option Value)) (hz : xs.size = ys.size) (e lt : Nat → Bool) :
    Meets (Builtin.«list.__lt__» ⟨[.ref l, .ref b], []⟩)
      (fun A R s => s.heap.get? l = some { cls := .type "list", dict := dd, data := .seq xs n, slots := sl } ∧ s.heap.get? b = some { cls := .type "list", dict := dd2, data := .seq ys m, slots := sl2 } ∧
        (∀ j (h1 : j < xs.size) (h2 : j < ys.size), EqAt A.in1 s xs[j] ys[j] (e j)) ∧ (∀ j (h1 : j < xs.size) (h2 : j < ys.size), e j = false → LtAt A.in1 s xs[j] ys[j] (lt j)) ∧
        R (.ok (.ret (.bool (byFirst e lt xs.size 0)))) s) := by
  intro prog w A R s h
  obtain ⟨hp, g, d, tk, os⟩ := s
  obtain ⟨hl, hb, he, hlt, h⟩ := h
  have f3 := AutoSeq1.sub_list_list
  wp_walk using wpAny_loadPart' hl, wpAny_loadPart' hb
  exact ⟨plainId_quiet plain_eq_loop _, codeAny_builtin entry_eq_loop (by
    rw [Around.under_plainId plain_eq_loop _]
    exact loop_lt l b xs ys n m dd dd2 sl sl2 hz e lt xs.size 0 rfl prog w A R _ ⟨hl, hb, he, hlt, h⟩)⟩
section
variable {A : Around} {s : Shared} {l b : Addr} {xs ys : Array Value} {e lt : Nat → Bool}
theorem LtAt.lists (hl : s.heap.IsList l xs) (hb : s.heap.IsList b ys) (hz : xs.size = ys.size) (hu : A.units < cLine) (he : ∀ j (h1 : j < xs.size) (h2 : j < ys.size), EqAt A.in1 s xs[j] ys[j] (e j))
    (hlt : ∀ j (h1 : j < xs.size) (h2 : j < ys.size), e j = false → LtAt A.in1 s xs[j] ys[j] (lt j)) : LtAt A s (.ref l) (.ref b) (byFirst e lt xs.size 0) := fun prog w E Q h => by
  obtain ⟨⟨c1, dd, d1, sl⟩, ho, hc, n, hd⟩ := id hl
  obtain ⟨⟨c2, dd2, d2, sl2⟩, ho2, hc2, n2, hd2⟩ := id hb
  simp only at hc hd hc2 hd2
  subst hc hd hc2 hd2
  exact richCompare_meets_room (op := .Lt) ⟨_, ho, rfl⟩ ⟨_, ho2, rfl⟩ F.slot_list_lt F.entry_list_lt (F.args_list_lt_2 _ _) (list_lt l b xs ys n n2 dd dd2 sl sl2 hz e lt)
    ⟨ho, ho2, he, hlt, show _ ≠ Value.notImplemented ∧ Q _ s from ⟨(fun x => nomatch x), h⟩⟩ hu
theorem LtAt.tuples (hl : s.heap.IsTuple l xs) (hb : s.heap.IsTuple b ys) (hz : xs.size = ys.size) (hu : A.units < cLine) (he : ∀ j (h1 : j < xs.size) (h2 : j < ys.size), EqAt A.in1 s xs[j] ys[j] (e j))
    (hlt : ∀ j (h1 : j < xs.size) (h2 : j < ys.size), e j = false → LtAt A.in1 s xs[j] ys[j] (lt j)) : LtAt A s (.ref l) (.ref b) (byFirst e lt xs.size 0) := fun prog w E Q h => by
  obtain ⟨⟨c1, dd, d1, sl⟩, ho, hc, n, hd⟩ := id hl
  obtain ⟨⟨c2, dd2, d2, sl2⟩, ho2, hc2, n2, hd2⟩ := id hb
  simp only at hc hd hc2 hd2
  subst hc hd hc2 hd2
  exact richCompare_meets_room (op := .Lt) ⟨_, ho, rfl⟩ ⟨_, ho2, rfl⟩ F.slot_tuple_lt F.entry_tuple_lt (F.args_tuple_lt_2 _ _) (tup_lt l b xs ys n n2 dd dd2 sl sl2 hz e lt)
    ⟨ho, ho2, he, hlt, show _ ≠ Value.notImplemented ∧ Q _ s from ⟨(fun x => nomatch x), h⟩⟩ hu
theorem LtAt.ints {i j : Int} {t u : Tok} : LtAt A s (.int i t) (.int j u) (decide (i < j)) := fun prog w E Q h => PyProof.Rows.lt_int h
end
end GL


set_option Elab.async false
set_option linter.all false
set_option maxRecDepth 100000
/-! min(xs) of lists of pairs -/
namespace L2
open PySem PySem.Spec PyProof.Rows GL
section
variable {prog : Program} {w : World} {A : Around} {R : Result → Shared → Prop} {I : Addr} {fp wr : List Addr} {n : Nat} {P : Nat → Value → Prop} {St' : Nat → Heap → Prop} {kw : List (Str × Value)} {Gd : Heap → Prop}
/-- values are told apart where the heap is good -/
noncomputable def CmpAt (A : Around) (Gd : Heap → Prop) (P : Nat → Value → Prop) (bt : Nat → Nat → Bool) : Prop := ∀ i j vi vj (s : Shared), Gd s.heap → P i vi → P j vj → LtAt A s vi vj (bt i j)
theorem gv_mn (W : Walks prog w A.in1 I fp wr n P St') (bt : Nat → Nat → Bool) (cmp : CmpAt A.in1 Gd P bt) {S : Addr} (nf : S ∉ fp) (gd : ∀ h h', Gd h → (∀ b o, b ∉ wr → b ≠ S → h.get? b = some o → h'.get? b = some o) → Gd h') :
    ∀ (k j : Nat) (s : Shared) (vb : Value) (c : Nat), (j + 1) + k = n → St' (j + 1) s.heap → Gd s.heap → P (argBest bt j) vb → s.heap.get? S = some { cls := .type "list", dict := none, data := .seq #[vb, vb] c, slots := #[] } →
      (∀ v h' tk, P (argBest bt (n - 1)) v → (∀ b o, b ∉ wr → b ≠ S → s.heap.get? b = some o → h'.get? b = some o) → R (.ok (.ret v)) { s with heap := h', toks := tk }) →
      codeAny (model prog w) A (.builtin "min.loop" ⟨[.ref I, .none, .ref S], kw⟩) R s := by
  have nw : S ∉ wr := fun z => nf (W.sub _ z)
  have nm : (toString "min" ++ toString ".loop" : String) = "min.loop" := by decide
  intro k
  induction k with
  | zero =>
    intro j s vb c e0 st g0 pb hS hR
    have e1 : n = j + 1 := by omega
    subst e1
    refine codeAny_builtin F.entry_min_loop ?_; rw [Around.under_plainId F.plain_min_loop _]; show wpAny _ A.in1 (seqItems? (.ref S) >>= _) _ _ s; refine wpAny_bind (wpAny_seqItems hS rfl ?_); show wpAny _ A.in1 (tryCatch (pyNext (.ref I)) _ >>= _) _ _ s
    refine wpAny_bind (wpAny_tryCatch (W.done s _ _ st fun g tk keep => ?_))
    show wpAny _ A.in1 (updateSeq S (fun _ => #[]) >>= _) _ _ _
    refine wpAny_bind (wpAny_updateSeq (keep S _ nw hS) rfl (wpAny_bind (wpAny_letGo (wpAny_pure (hR vb _ tk pb fun b o q1 q2 e => ?_)))))
    exact (Heap.get?_update_other _ _ (Ne.symm q2)).trans (keep b o q1 e)
  | succ k ih =>
    intro j s vb c e0 st g0 pb hS hR
    refine codeAny_builtin F.entry_min_loop ?_; rw [Around.under_plainId F.plain_min_loop _]; show wpAny _ A.in1 (seqItems? (.ref S) >>= _) _ _ s; refine wpAny_bind (wpAny_seqItems hS rfl ?_); show wpAny _ A.in1 (tryCatch (pyNext (.ref I)) _ >>= _) _ _ s
    refine wpAny_bind (wpAny_tryCatch (W.item (j + 1) s _ _ (by omega) st fun v g tk pv st2 keep => ?_))
    have hS2 := keep S _ nw hS
    have g1 : Gd g := gd _ _ g0 fun b o q1 _ e => keep b o q1 e
    show wpAny _ A.in1 (tryCatch (holding [v, v] (richCompare .Lt v vb >>= _)) _ >>= _) _ _ _
    refine wpAny_bind (wpAny_tryCatch (wpAny_holding (wpAny_bind (cmp (j + 1) (argBest bt j) v vb _ g1 pv pb _ _ _ _ (wpAny_bind (wpAny_holding (wpAny_truthy_bool (wpAny_bind (wpAny_letGo (wpAny_pure ?_))))))))))
    have ea : argBest bt (j + 1) = if bt (j + 1) (argBest bt j) = true then j + 1 else argBest bt j := rfl
    by_cases hb : bt (j + 1) (argBest bt j) = true
    · rw [if_pos hb] at ea ⊢
      refine wpAny_bind (wpAny_updateSeq hS2 rfl (wpAny_bind (wpAny_letGo ?_)))
      rw [nm]
      refine wpAny_pure ⟨plainId_quiet F.plain_min_loop _, ih (j + 1) _ v _ (by omega) (W.frame _ _ _ st2 fun b q o e => ?_) (gd _ _ g1 fun b o _ q2 e => ?_) (by rw [ea]; exact pv) (Heap.get?_update_self _ hS2 rfl) fun v' g' tk' pv' keep' => ?_⟩
      · exact (Heap.get?_update_other _ _ (fun z : S = b => nf (z ▸ q))).trans e
      · exact (Heap.get?_update_other _ _ (Ne.symm q2)).trans e
      · exact hR v' g' tk' pv' fun b o q1 q2 e => keep' b o q1 q2 ((Heap.get?_update_other _ _ (Ne.symm q2)).trans (keep b o q1 e))
    · rw [if_neg hb] at ea ⊢
      refine wpAny_bind (wpAny_letGo ?_)
      rw [nm]
      refine wpAny_pure ⟨plainId_quiet F.plain_min_loop _, ih (j + 1) _ vb c (by omega) st2 g1 (by rw [ea]; exact pb) hS2 fun v' g' tk' pv' keep' => ?_⟩
      exact hR v' g' tk' pv' fun b o q1 q2 e => keep' b o q1 q2 (keep b o q1 e)
theorem gv_mn0 (W : Walks prog w A.in1 I fp wr n P St') (bt : Nat → Nat → Bool) (cmp : CmpAt A.in1 Gd P bt) {S : Addr} (nf : S ∉ fp) (gd : ∀ h h', Gd h → (∀ b o, b ∉ wr → b ≠ S → h.get? b = some o → h'.get? b = some o) → Gd h') {s : Shared} {c : Nat} (st : St' 0 s.heap) (g0 : Gd s.heap) (h0 : 0 < n)
    (hS : s.heap.get? S = some { cls := .type "list", dict := none, data := .seq #[] c, slots := #[] })
    (hR : ∀ v h' tk, P (argBest bt (n - 1)) v → (∀ b o, b ∉ wr → b ≠ S → s.heap.get? b = some o → h'.get? b = some o) → R (.ok (.ret v)) { s with heap := h', toks := tk }) :
    codeAny (model prog w) A (.builtin "min.loop" ⟨[.ref I, .none, .ref S], kw⟩) R s := by
  have nw : S ∉ wr := fun z => nf (W.sub _ z)
  have nm : (toString "min" ++ toString ".loop" : String) = "min.loop" := by decide
  refine codeAny_builtin F.entry_min_loop ?_; rw [Around.under_plainId F.plain_min_loop _]; show wpAny _ A.in1 (seqItems? (.ref S) >>= _) _ _ s; refine wpAny_bind (wpAny_seqItems hS rfl ?_); show wpAny _ A.in1 (tryCatch (pyNext (.ref I)) _ >>= _) _ _ s
  refine wpAny_bind (wpAny_tryCatch (W.item 0 s _ _ h0 st fun v g tk pv st2 keep => ?_))
  have hS2 := keep S _ nw hS
  have g1 : Gd g := gd _ _ g0 fun b o q1 _ e => keep b o q1 e
  show wpAny _ A.in1 (updateSeq S (fun _ => #[v, v]) >>= _) _ _ _
  refine wpAny_bind (wpAny_updateSeq hS2 rfl ?_)
  rw [nm]
  refine wpAny_pure ⟨plainId_quiet F.plain_min_loop _, gv_mn W bt cmp nf gd (n - 1) 0 _ v _ (by omega) (W.frame _ _ _ st2 fun b q o e => ?_) (gd _ _ g1 fun b o _ q2 e => ?_) pv (Heap.get?_update_self _ hS2 rfl) fun v' g' tk' pv' keep' => ?_⟩
  · exact (Heap.get?_update_other _ _ (fun z : S = b => nf (z ▸ q))).trans e
  · exact (Heap.get?_update_other _ _ (Ne.symm q2)).trans e
  · exact hR v' g' tk' pv' fun b o q1 q2 e => keep' b o q1 q2 ((Heap.get?_update_other _ _ (Ne.symm q2)).trans (keep b o q1 e))
end
/-! ### pairs, and lists of them -/
noncomputable def pLt (x y : Int × Int) : Bool := if x.1 = y.1 then decide (x.2 < y.2) else decide (x.1 < y.1)
noncomputable def wLt : List (Int × Int) → List (Int × Int) → Bool
  | x :: u, y :: v => if x = y then wLt u v else pLt x y
  | _, _ => false
/-- a list of pairs of whole numbers, in a heap -/
noncomputable def PrW (h : Heap) (v : Value) (u : List (Int × Int)) : Prop := ∃ (a : Addr) (ps : List Addr), v = .ref a ∧ h.IsList a (ps.map Value.ref).toArray ∧ ps.length = u.length ∧ ∀ (i : Nat) (p : Addr) (x : Int × Int), ps[i]? = some p → u[i]? = some x → ∃ t t', h.IsTuple p #[.int x.1 t, .int x.2 t']
theorem PrW.keep {h h' : Heap} {v : Value} {u : List (Int × Int)} (k : ∀ b o, h.get? b = some o → h'.get? b = some o) (p : PrW h v u) : PrW h' v u := by
  obtain ⟨a, ps, e, ⟨o, ho, hc⟩, hl, hat⟩ := p
  refine ⟨a, ps, e, ⟨o, k _ _ ho, hc⟩, hl, fun i p x e1 e2 => ?_⟩
  obtain ⟨t, t', o2, ho2, hc2⟩ := hat i p x e1 e2
  exact ⟨t, t', o2, k _ _ ho2, hc2⟩
section
variable {A : Around} {s : Shared}
theorem pair_eqAt {p q : Addr} {x y : Int × Int} {t1 t2 t3 t4 : Tok} (hu : A.units + 8 < cLine) (hp : s.heap.IsTuple p #[.int x.1 t1, .int x.2 t2]) (hq : s.heap.IsTuple q #[.int y.1 t3, .int y.2 t4]) : SeqAt.EqAt A s (.ref p) (.ref q) (decide (x = y)) := by
  by_cases e : p = q
  · subst e
    have ex : x = y := by
      obtain ⟨o, ho, _, n, hd⟩ := hp
      obtain ⟨o', ho', _, n', hd'⟩ := hq
      rw [ho] at ho'; cases ho'
      rw [hd] at hd'
      injection hd' with z _
      have z2 := congrArg Array.toList z
      injection z2 with z3 z4
      injection z4 with z5 _
      injection z3 with z6 _
      injection z5 with z7 _
      exact Prod.ext z6 z7
    rw [decide_eq_true ex]
    exact SeqAt.EqAt.same _
  · have h := SeqAt.RcAt.tuples (A := A) (s := s) (e := fun j => if j = 0 then x.1 == y.1 else x.2 == y.2) hp hq (by omega) (fun j h1 h2 => ?_)
    · refine SeqAt.EqAt.of_refs e ?_
      have er : ((List.range (min (#[Value.int x.1 t1, Value.int x.2 t2]).size (#[Value.int y.1 t3, Value.int y.2 t4]).size)).all (fun j => if j = 0 then x.1 == y.1 else x.2 == y.2) && (#[Value.int x.1 t1, Value.int x.2 t2]).size == (#[Value.int y.1 t3, Value.int y.2 t4]).size) = decide (x = y) := by
        show ((List.range 2).all _ && true) = _
        rw [Bool.and_true, show List.range 2 = [0, 1] from rfl]
        simp only [List.all_cons, List.all_nil, Bool.and_true, if_true]
        rw [if_neg (by decide)]
        obtain ⟨x1, x2⟩ := x
        obtain ⟨y1, y2⟩ := y
        by_cases a : x1 = y1
        · by_cases b : x2 = y2
          · subst a; subst b; simp
          · simp [b]
        · simp [a]
      rw [er] at h
      exact h
    · match j, h1 with
      | 0, _ => exact (MeetsSeq.EqGives.int x.1 y.1 t1 t3).at _ _
      | 1, _ => exact (MeetsSeq.EqGives.int x.2 y.2 t2 t4).at _ _
theorem pair_ltAt {p q : Addr} {x y : Int × Int} {t1 t2 t3 t4 : Tok} (hu : A.units + 8 < cLine) (hp : s.heap.IsTuple p #[.int x.1 t1, .int x.2 t2]) (hq : s.heap.IsTuple q #[.int y.1 t3, .int y.2 t4]) : LtAt A s (.ref p) (.ref q) (pLt x y) := by
  have h := LtAt.tuples (A := A) (s := s) (e := fun j => if j = 0 then x.1 == y.1 else x.2 == y.2) (lt := fun j => if j = 0 then decide (x.1 < y.1) else decide (x.2 < y.2)) hp hq rfl (by omega) (fun j h1 h2 => ?_) (fun j h1 h2 _ => ?_)
  · have er : byFirst (fun j => if j = 0 then x.1 == y.1 else x.2 == y.2) (fun j => if j = 0 then decide (x.1 < y.1) else decide (x.2 < y.2)) (#[Value.int x.1 t1, Value.int x.2 t2]).size 0 = pLt x y := by
      show byFirst _ _ 2 0 = _
      unfold byFirst byFirst byFirst pLt
      by_cases a : x.1 = y.1
      · rw [if_pos a]
        by_cases b : x.2 = y.2
        · simp [a, b]
        · simp [a, b]
      · simp [a]
    rw [er] at h
    exact h
  · match j, h1 with
    | 0, _ => exact (MeetsSeq.EqGives.int x.1 y.1 t1 t3).at _ _
    | 1, _ => exact (MeetsSeq.EqGives.int x.2 y.2 t2 t4).at _ _
  · match j, h1 with
    | 0, _ => exact LtAt.ints
    | 1, _ => exact LtAt.ints
noncomputable def eW (u v : List (Int × Int)) (j : Nat) : Bool := decide ((u[j]?).getD (0, 0) = (v[j]?).getD (0, 0))
noncomputable def lW (u v : List (Int × Int)) (j : Nat) : Bool := pLt ((u[j]?).getD (0, 0)) ((v[j]?).getD (0, 0))
theorem byFirst_succ (e lt e' lt' : Nat → Bool) (he : ∀ j, e (j + 1) = e' j) (hl : ∀ j, lt (j + 1) = lt' j) : ∀ k i, byFirst e lt k (i + 1) = byFirst e' lt' k i
  | 0, _ => rfl
  | k + 1, i => by
    unfold byFirst
    rw [he, hl, byFirst_succ e lt e' lt' he hl k (i + 1)]
theorem byFirst_w : ∀ {u v : List (Int × Int)}, u.length = v.length → byFirst (eW u v) (lW u v) u.length 0 = wLt u v
  | [], [], _ => rfl
  | [], _ :: _, h => by simp at h
  | _ :: _, [], h => by simp at h
  | x :: u, y :: v, h => by
    rw [List.length_cons]
    unfold byFirst wLt
    rw [byFirst_succ _ _ (eW u v) (lW u v) (fun j => rfl) (fun j => rfl), byFirst_w (u := u) (v := v) (by simpa using h)]
    have e0 : eW (x :: u) (y :: v) 0 = decide (x = y) := rfl
    have l0 : lW (x :: u) (y :: v) 0 = pLt x y := rfl
    rw [e0, l0]
    by_cases e : x = y
    · rw [if_pos (decide_eq_true e), if_pos e]
    · rw [if_neg (by simpa using e), if_neg e]
theorem ws_ltAt {v v' : Value} {u u' : List (Int × Int)} (hu : A.units + 16 < cLine) (h1 : PrW s.heap v u) (h2 : PrW s.heap v' u') (hl : u.length = u'.length) : LtAt A s v v' (wLt u u') := by
  obtain ⟨a, ps, rfl, ha, hpl, hat⟩ := h1
  obtain ⟨b, qs, rfl, hb, hql, hbt⟩ := h2
  have zs : (ps.map Value.ref).toArray.size = u.length := by rw [List.size_toArray, List.length_map]; exact hpl
  have zt : (qs.map Value.ref).toArray.size = u'.length := by rw [List.size_toArray, List.length_map]; exact hql
  have at1 : ∀ j (h : j < (ps.map Value.ref).toArray.size), ∃ p t t', (ps.map Value.ref).toArray[j] = .ref p ∧ s.heap.IsTuple p #[.int ((u[j]?).getD (0, 0)).1 t, .int ((u[j]?).getD (0, 0)).2 t'] := fun j h => by
    have hj : j < u.length := by omega
    have hp : ps[j]? = some (ps[j]'(by omega)) := List.getElem?_eq_getElem (by omega)
    have hx : u[j]? = some u[j] := List.getElem?_eq_getElem hj
    obtain ⟨t, t', ht⟩ := hat j _ _ hp hx
    exact ⟨ps[j]'(by omega), t, t', by simp, by rw [hx]; exact ht⟩
  have at2 : ∀ j (h : j < (qs.map Value.ref).toArray.size), ∃ p t t', (qs.map Value.ref).toArray[j] = .ref p ∧ s.heap.IsTuple p #[.int ((u'[j]?).getD (0, 0)).1 t, .int ((u'[j]?).getD (0, 0)).2 t'] := fun j h => by
    have hj : j < u'.length := by omega
    have hp : qs[j]? = some (qs[j]'(by omega)) := List.getElem?_eq_getElem (by omega)
    have hx : u'[j]? = some u'[j] := List.getElem?_eq_getElem hj
    obtain ⟨t, t', ht⟩ := hbt j _ _ hp hx
    exact ⟨qs[j]'(by omega), t, t', by simp, by rw [hx]; exact ht⟩
  have h := LtAt.lists (A := A) (s := s) (e := eW u u') (lt := lW u u') ha hb (by omega) (by omega) (fun j h1 h2 => ?_) (fun j h1 h2 _ => ?_)
  · rw [zs, byFirst_w hl] at h
    exact h
  · obtain ⟨p, t1, t2, e1, hp⟩ := at1 j h1
    obtain ⟨q, t3, t4, e2, hq⟩ := at2 j h2
    rw [e1, e2]
    exact pair_eqAt (by show A.units + 1 + 8 < cLine; omega) hp hq
  · obtain ⟨p, t1, t2, e1, hp⟩ := at1 j h1
    obtain ⟨q, t3, t4, e2, hq⟩ := at2 j h2
    rw [e1, e2]
    exact pair_ltAt (by show A.units + 1 + 8 < cLine; omega) hp hq
end
theorem pLt_iff {x y : Int × Int} : pLt x y = true ↔ x.1 < y.1 ∨ (x.1 = y.1 ∧ x.2 < y.2) := by
  unfold pLt
  by_cases e : x.1 = y.1
  · rw [if_pos e, decide_eq_true_eq]
    exact ⟨fun h => .inr ⟨e, h⟩, fun h => by rcases h with h | h <;> omega⟩
  · rw [if_neg e, decide_eq_true_eq]
    exact ⟨fun h => .inl h, fun h => by rcases h with h | h <;> omega⟩
theorem wLt_irrefl : ∀ u, wLt u u = false
  | [] => rfl
  | x :: u => by unfold wLt; rw [if_pos rfl]; exact wLt_irrefl u
theorem wLt_trans : ∀ {a b c : List (Int × Int)}, wLt a b = true → wLt b c = true → wLt a c = true
  | [], _, _, h, _ => by unfold wLt at h; cases h
  | _ :: _, [], _, h, _ => by unfold wLt at h; cases h
  | _ :: _, _ :: _, [], _, h => by unfold wLt at h; cases h
  | x :: a, y :: b, z :: c, h1, h2 => by
    unfold wLt at h1 h2 ⊢
    by_cases e1 : x = y
    · subst e1
      rw [if_pos rfl] at h1
      by_cases e2 : x = z
      · rw [if_pos e2] at h2 ⊢; exact wLt_trans h1 h2
      · rw [if_neg e2] at h2 ⊢; exact h2
    · rw [if_neg e1] at h1
      by_cases e2 : y = z
      · subst e2
        rw [if_neg e1]; exact h1
      · rw [if_neg e2] at h2
        rw [pLt_iff] at h1 h2
        by_cases e3 : x = z
        · subst e3
          exfalso
          rcases h1 with h1 | h1 <;> rcases h2 with h2 | h2 <;> omega
        · rw [if_neg e3, pLt_iff]
          rcases h1 with h1 | h1 <;> rcases h2 with h2 | h2
          · exact .inl (by omega)
          · exact .inl (by omega)
          · exact .inl (by omega)
          · exact .inr ⟨by omega, by omega⟩
theorem argBest_least (us : Nat → List (Int × Int)) : ∀ k j, j ≤ k → wLt (us j) (us (argBest (fun i j => wLt (us i) (us j)) k)) = false
  | 0, j, h => by
    have : j = 0 := by omega
    subst this; exact wLt_irrefl _
  | k + 1, j, h => by
    have ih := argBest_least us k
    unfold argBest
    by_cases hb : wLt (us (k + 1)) (us (argBest (fun i j => wLt (us i) (us j)) k)) = true
    · rw [if_pos hb]
      by_cases hj : j = k + 1
      · subst hj; exact wLt_irrefl _
      · cases z : wLt (us j) (us (k + 1)) with
        | false => rfl
        | true =>
          have := wLt_trans z hb
          rw [ih j (by omega)] at this; cases this
    · rw [if_neg hb]
      by_cases hj : j = k + 1
      · subst hj
        cases z : wLt (us (k + 1)) (us (argBest (fun i j => wLt (us i) (us j)) k)) with
        | false => rfl
        | true => exact absurd z hb
      · exact ih j (by omega)
/-- a list of pairs of whole numbers -/
noncomputable def PL (H : Hp) (a : Addr) (u : List (Int × Int)) : Prop := ∃ ps : List Addr, H a = some (.lst (ps.map V.ref)) ∧ ps.length = u.length ∧ ∀ (i : Nat) (p : Addr) (x : Int × Int), ps[i]? = some p → u[i]? = some x → H p = some (.tup [.int x.1, .int x.2])
section
variable {X : Cx} {pins : List (Addr × Obj)} {σ : St} {H : Hp} {s : Shared}
theorem pl_prw (I : Inv X pins σ H s) {a : Addr} {u : List (Int × Int)} (h : PL H a u) : PrW s.heap (.ref a) u := by
  obtain ⟨ps, ha, hl, hat⟩ := h
  obtain ⟨its, r, pl, _⟩ := I.list (SqL.of ha)
  obtain rfl := refs_are r
  refine ⟨a, ps, rfl, pl.isList, hl, fun i p x e1 e2 => ?_⟩
  obtain ⟨its, r, ht, _⟩ := I.tuple (SqT.of (hat i p x e1 e2))
  cases r with
  | cons r1 r2 =>
    cases r2 with
    | cons r2 r3 =>
      cases r3
      obtain ⟨t, rfl⟩ := r1
      obtain ⟨t', rfl⟩ := r2
      exact ⟨t, t', ht⟩
/-- min(xs): the first of the least lists -/
theorem call_minW (hc : X.calm = true) (hu : X.A.units + 64 < cLine) : CallR X (.builtin "min") (fun xs H Q => ∃ (p : Addr) (as : List Addr) (us : List (List (Int × Int))) (m : Nat), xs = [.ref p] ∧ H p = some (.lst (as.map V.ref)) ∧ as.length = us.length ∧ 0 < us.length ∧
    (∀ (i : Nat) (a : Addr) (u : List (Int × Int)), as[i]? = some a → us[i]? = some u → u.length = m ∧ PL H a u) ∧ ∀ (i : Nat) (a : Addr) (u : List (Int × Int)), as[i]? = some a → us[i]? = some u → (∀ u' ∈ us, wLt u' u = false) → Q (.ref a) H) := by
  intro pins s σ H xs vs Q I r h
  obtain ⟨p, as, us, m, rfl, hp, hl, h0, hat, q⟩ := h
  obtain ⟨u, rfl, rx⟩ := vals1 r
  cases rx
  obtain ⟨its, r', pl, hz⟩ := I.list (SqL.of hp)
  obtain rfl := refs_are r'
  have hlt : p < s.heap.objs.size := by obtain ⟨_, e, _⟩ := pl.isList; exact Heap.lt_size e
  have nm : (toString "min" ++ toString ".loop" : String) = "min.loop" := by decide
  have hI : p ≠ s.heap.objs.size := Nat.ne_of_lt hlt
  have hsz : (s.heap.push { cls := .type "list_iterator", data := .fields #[.ref p, .int 0 0] }).objs.size = s.heap.objs.size + 1 := Heap.size_push ..
  have hn : (as.map Value.ref).toArray.size = us.length := by rw [List.size_toArray, List.length_map]; exact hl
  have val : ∀ i v, (as.map Value.ref).toArray[i]? = some v → ∃ (a : Addr) (u : List (Int × Int)), v = Value.ref a ∧ as[i]? = some a ∧ us[i]? = some u := fun i v e => by
    rw [List.getElem?_toArray, List.getElem?_map] at e
    obtain ⟨a, ea, rfl⟩ := Option.map_eq_some_iff.mp e
    have hi : i < us.length := by have := (List.getElem?_eq_some_iff.mp ea).1; omega
    exact ⟨a, us[i], rfl, ea, List.getElem?_eq_getElem hi⟩
  refine kmk_tree PySem.F.kind_min PySem.F.plain_min PySem.F.entry_min (PySem.F.args_min1 _) ?_
  show wpAny _ X.A.in1 (Builtin.Builtins.bindParams "min" ["key", "default"] 0 ⟨[], []⟩ >>= _) _ _ s
  refine wpAny_bind (wpAny_of_eq (show Builtin.Builtins.bindParams "min" ["key", "default"] 0 ⟨[], []⟩ = pure [none, none] from rfl) (wpAny_bind (wpAny_pure ?_)))
  refine wpAny_bind (wpAny_pyIter_list pl.isList (wpAny_bind (wpAny_newObj_type ?_)))
  rw [nm]
  refine wpAny_pure ⟨plainId_quiet F.plain_min_loop _, gv_mn0 (Gd := fun h => ∀ b o, s.heap.get? b = some o → h.get? b = some o) (Walks.list (A := X.A.in1) (I.ok.hd hc) s.heap.objs.size p hI (as.map Value.ref).toArray) (fun i j => wLt ((us[i]?).getD []) ((us[j]?).getD [])) (fun i j vi vj s' gd hi hj => ?_) ?_ (fun h h' g k b o e => ?_) ?_ (fun b o e => Heap.get?_push_of_some _ (Heap.get?_push_of_some _ e)) (by omega) (Heap.get?_push_size _ rfl) ?_⟩
  · obtain ⟨a, u, rfl, ea, eu⟩ := val i vi hi
    obtain ⟨b, v, rfl, eb, ev⟩ := val j vj hj
    obtain ⟨l1, P1⟩ := hat i a u ea eu
    obtain ⟨l2, P2⟩ := hat j b v eb ev
    dsimp only
    rw [eu, ev]
    exact ws_ltAt (by show X.A.units + 1 + 16 < cLine; omega) ((pl_prw I P1).keep gd) ((pl_prw I P2).keep gd) (l1.trans l2.symm)
  · intro z
    rw [hsz] at z
    rcases List.mem_cons.mp z with z | z
    · exact absurd z (Nat.ne_of_gt (Nat.lt_succ_self _))
    · have z' := List.mem_singleton.mp z
      exact absurd z'.symm (Nat.ne_of_lt (Nat.lt_succ_of_lt hlt))
  · refine k b o (fun z => ?_) (fun z => ?_) (g b o e)
    · rw [List.mem_singleton.mp z] at e; exact absurd (Heap.lt_size e) (Nat.lt_irrefl _)
    · rw [z, hsz] at e; exact absurd (Nat.lt_of_succ_lt (Heap.lt_size e)) (Nat.lt_irrefl _)
  · exact ⟨⟨_, Heap.get?_push_of_some _ (Heap.get?_push_size _ rfl), rfl, rfl⟩, (pl.isList.push _).push _⟩
  · intro v g tk hv keep
    have J' : Inv X pins σ H { s with heap := g, toks := tk } := by
      refine I.kept fun b o e => keep b o (fun z => ?_) (fun z => ?_) (Heap.get?_push_of_some _ (Heap.get?_push_of_some _ e))
      · rw [List.mem_singleton.mp z] at e; exact absurd (Heap.lt_size e) (Nat.lt_irrefl _)
      · rw [z, hsz] at e; exact absurd (Nat.lt_of_succ_lt (Heap.lt_size e)) (Nat.lt_irrefl _)
    obtain ⟨a, u, rfl, ea, eu⟩ := val _ v hv
    refine ⟨.ref a, H, J', rfl, q _ a u ea eu fun u' hu' => ?_⟩
    obtain ⟨j, hj, rfl⟩ := List.mem_iff_getElem.mp hu'
    have := argBest_least (fun i => (us[i]?).getD []) ((as.map Value.ref).toArray.size - 1) j (by omega)
    rw [eu, List.getElem?_eq_getElem hj] at this
    exact this
end
end L2


set_option Elab.async false
set_option linter.all false
/-! the first of the best plans, by the least of their keys; what the others have without one -/
namespace GP
open L2
noncomputable def key (w : List (Nat × Int)) : List (Int × Int) := w.map fun c => (-c.2, (c.1 : Int))
theorem key_len (w : List (Nat × Int)) : (key w).length = w.length := List.length_map ..
theorem key_app (u v : List (Nat × Int)) : key (u ++ v) = key u ++ key v := List.map_append
theorem lex_of_key : ∀ {a b : List (Nat × Int)}, a.length = b.length → wLt (key b) (key a) = false → lexLe a b
  | [], _, _, _ => trivial
  | _ :: _, [], h, _ => by simp at h
  | c :: a, d :: b, h, hw => by
    have hw : wLt ((-d.2, (d.1 : Int)) :: key b) ((-c.2, (c.1 : Int)) :: key a) = false := hw
    unfold wLt at hw
    by_cases e : ((-d.2, (d.1 : Int)) : Int × Int) = (-c.2, (c.1 : Int))
    · rw [if_pos e] at hw
      obtain ⟨e1, e2⟩ := Prod.mk.injEq .. ▸ e
      have ec : c = d := Prod.ext (by omega) (by omega)
      exact .inr ⟨ec, lex_of_key (by simpa using h) hw⟩
    · rw [if_neg e] at hw
      refine .inl ?_
      have hn : ¬ pLt (-d.2, (d.1 : Int)) (-c.2, (c.1 : Int)) = true := by rw [hw]; decide
      rw [pLt_iff] at hn
      have hn : ¬ (-d.2 < -c.2 ∨ (-d.2 = -c.2 ∧ (d.1 : Int) < (c.1 : Int))) := hn
      unfold clt
      by_cases e1 : c.2 = d.2
      · refine .inr ⟨e1, ?_⟩
        have : c.1 ≠ d.1 := fun z => e (by rw [e1, z])
        omega
      · exact .inl (by omega)
/-- by a list of all ways: the least key among the best -/
theorem first_of {os : List Off} {rows : List (List (Nat × Int))} (hr : ∀ w, w ∈ rows ↔ IsWay 0 os w) {best : Int} (hb : IsMax (rows.map worth) best) {ch : List (Nat × Int)} (hc : ch ∈ rows) (he : worth ch = best)
    (hl : ∀ w ∈ rows, worth w = best → wLt (key w) (key ch) = false) : IsFirst 0 os ch := by
  have hw := (hr ch).mp hc
  refine ⟨hw, fun w h => ?_, fun w h e => ?_⟩
  · rw [he]
    exact hb.2 _ (List.mem_map_of_mem ((hr w).mpr h))
  · exact lex_of_key (by rw [hw.length, h.length]) (hl w ((hr w).mpr h) (by rw [e, he]))
theorem best_of {os : List Off} {rows : List (List (Nat × Int))} (hr : ∀ w, w ∈ rows ↔ IsWay 0 os w) {best : Int} (hb : IsMax (rows.map worth) best) : best = bestW 0 os := by
  obtain ⟨w, hw, e⟩ := bestW_is 0 os
  have h1 := hb.2 _ (List.mem_map_of_mem ((hr w).mpr hw))
  obtain ⟨v, hv, e2⟩ := List.mem_map.mp hb.1
  have h2 := bestW_ge ((hr v).mp hv)
  omega
/-- what a bidder pays -/
noncomputable def payOf (os : List Off) (ch : List (Nat × Int)) (i : Nat) : Int := bestW 0 (os.set i []) - (bestW 0 os - ((ch[i]?).getD (0, 0)).2)
/-- pays of two halls side by side -/
theorem pay_beside {n : Nat} {os ps : List Off} {a b : List (Nat × Int)} (hb : ∀ o ∈ os, ∀ c ∈ o, c.1 < 2 ^ n) (h1 : IsFirst 0 os a) (h2 : IsFirst 0 ps b) :
    (∀ i, i < os.length → payOf (os ++ ps.map fun o => o.map (sh n)) (a ++ b.map (sh n)) i = payOf os a i) ∧ ∀ i, i < ps.length → payOf (os ++ ps.map fun o => o.map (sh n)) (a ++ b.map (sh n)) (os.length + i) = payOf ps b i := by
  have la := h1.way.length
  have lb := h2.way.length
  have eW := best_beside (ps := ps) hb
  refine ⟨fun i hi => ?_, fun i hi => ?_⟩
  · have es : (os ++ ps.map fun o => o.map (sh n)).set i [] = os.set i [] ++ ps.map fun o => o.map (sh n) := List.set_append_left _ _ hi
    have hb2 : ∀ o ∈ os.set i [], ∀ c ∈ o, c.1 < 2 ^ n := fun o ho => by
      rcases List.mem_or_eq_of_mem_set ho with z | rfl
      · exact hb o z
      · intro c hc; simp at hc
    unfold payOf
    rw [es, best_beside hb2, eW, List.getElem?_append_left (by omega)]
    omega
  · have es : (os ++ ps.map fun o => o.map (sh n)).set (os.length + i) [] = os ++ (ps.set i []).map fun o => o.map (sh n) := by
      rw [List.set_append_right _ _ (by omega), List.map_set, show os.length + i - os.length = i by omega]
      rfl
    unfold payOf
    have ei : (a ++ b.map (sh n))[os.length + i]? = (b[i]?).map (sh n) := by
      rw [List.getElem?_append_right (by omega), List.getElem?_map, show os.length + i - a.length = i by omega]
    have e2 : (((b[i]?).map (sh n)).getD (0, 0)).2 = ((b[i]?).getD (0, 0)).2 := by
      cases b[i]? <;> rfl
    rw [es, best_beside hb, eW, ei, e2]
    omega
end GP


set_option Elab.async false
set_option linter.all false
set_option maxRecDepth 100000
/-! offers of a hall: a list of lists of pairs; == and != of two of the same content -/
namespace L2
open PySem PySem.Spec PyProof.Rows
/-- as: where each bidder's list lies -/
noncomputable def HallAt (H : Hp) (l : Addr) (os : List (List (Nat × Int))) (as : List Addr) : Prop := H l = some (.lst (as.map V.ref)) ∧ as.length = os.length ∧ ∀ (i : Nat) (a : Addr) (o : List (Nat × Int)), as[i]? = some a → os[i]? = some o → ∃ ps, Pairs H a o ps
theorem HallAt.same {H H' : Hp} {l : Addr} {os : List (List (Nat × Int))} {as : List Addr} (h : HallAt H l os as) (S : Same H H') : HallAt H' l os as :=
  ⟨S _ _ h.1, h.2.1, fun i a o e1 e2 => by obtain ⟨ps, hp⟩ := h.2.2 i a o e1 e2; exact ⟨ps, hp.same S⟩⟩
section
variable {X : Cx}
end
end L2


set_option Elab.async false
set_option linter.all false
set_option maxRecDepth 100000
/-! for x in reversed(xs); comprehensions of up to 1000 turns; halls, tables of the greatest worths -/
namespace L2
open PySem PySem.Spec PyProof.Rows PySem.W
noncomputable def Itv (K : PySem.W.Frag) (a : Addr) (xs : List V) : It :=
  ⟨fun i H => SqL K H a xs ∧ i < xs.length, fun i H x H' => H' = H ∧ xs[xs.length - 1 - i]? = some x, fun i _ => xs.length ≤ i⟩
theorem turn_rev {P : Program} {w : World} {K : PySem.W.Frag} {tg : Expr} (a it : Addr) (xs : List V) : Turn P w K tg (Itv K a xs) [it] it (fun i h => i ≤ xs.length ∧ h.IsRevIter it a ((xs.length : Int) - 1 - (i : Int))) where
  mem := by simp
  obj := fun i h st b hb => by
    have e : b = it := by simpa using hb
    subst e
    obtain ⟨_, o, e, c, d⟩ := st
    exact ⟨o, e, fun v z => by rw [d] at z; cases z⟩
  keep := fun i h h' st k => ⟨st.1, st.2.at fun o e => k it (by simp) o e⟩
  item := by
    intro X hP hw hK hc i pins s σ H E I hf st hg
    subst hP hw hK
    obtain ⟨hq, hi⟩ := hg
    obtain ⟨its, rv, p, hz⟩ := I.list hq
    obtain ⟨f0, f1, f2, f3, f4, f5⟩ := hf it (by simp)
    have hl := rv.length
    have hx : xs[xs.length - 1 - i]? = some (xs[xs.length - 1 - i]'(by omega)) := List.getElem?_eq_getElem (by omega)
    obtain ⟨ux, hux, rux⟩ := rv.get hx
    have hit := st.2
    have e1 : (xs.length : Int) - 1 - (i : Int) = ((xs.length - 1 - i : Nat) : Int) := by omega
    rw [e1] at hit
    refine wpAny_pyNext_rev_item hit p.isList (x := ux) (by simpa using hux) fun h' hit' hs' => ?_
    have e2 : ((xs.length - 1 - i : Nat) : Int) - 1 = (xs.length : Int) - 1 - ((i + 1 : Nat) : Int) := by omega
    rw [e2] at hit'
    have I1 : Inv X pins σ H { s with heap := h', toks := s.toks } := I.turned (t' := s.toks) (fun b o hb e => (hs'.2 b hb).trans e) f0 f1 f3 f4 f5
    obtain ⟨o, e, c, d⟩ := id hit'
    exact ⟨_, rfl, go_of (s := { s with heap := h' }) e c d (by decide) ⟨_, H, I1, rux, ⟨rfl, hx⟩, ⟨hi, hit'⟩, fun b hb => (hf b hb).1⟩⟩
  done := by
    intro X hP hw hK hc i pins s σ H E I hf st hg
    subst hP hw hK
    have hg : xs.length ≤ i := hg
    obtain ⟨f0, f1, f2, f3, f4, f5⟩ := hf it (by simp)
    have hit := st.2
    have e1 : (xs.length : Int) - 1 - (i : Int) = -1 := by have := st.1; omega
    rw [e1] at hit
    exact wpAny_pyNext_rev_end (I.ok.hd hc) hit fun h' eb => ⟨rfl, I.turned (t' := s.toks) (fun b o hb e => eb b o hb e) f0 f1 f3 f4 f5⟩
  self := fun _ _ _ _ _ st h => wpAny_pyIter_revIter st.2 h
noncomputable def iRev (K : PySem.W.Frag) (ta : TA) : TI := fun σ H R => ta σ H fun vs H1 => ∃ a xs, vs = [.ref a] ∧ SqL K H1 a xs ∧ R (Itv K a xs) H1
theorem pi_rev {X : Cx} {tg a : Expr} {ta : TA} {p pos : Pos} (hg : Gl X "reversed") (hm : X.mg "reversed" = none) (ha : PA X [a] ta) (hs : noStar a = true) :
    PI X tg (.Call (.Name "reversed" p) [a] [] pos) (iRev X.K ta) := by
  intro pins s σ H R I h
  refine Call_ (ld_blt I hg hm boot_reversed (PyProof.Rows.callWith_type1 (thn (ha pos pins s σ H _ I h) fun us s1 zz => ?_) (by rw [star_cons hs]) rfl))
  obtain ⟨vs, H1, I1, r1, q1⟩ := zz
  obtain ⟨a1, xs, e, hq1, q⟩ := q1
  subst e
  obtain ⟨u, rfl, ru⟩ := vals1 r1
  cases ru
  obtain ⟨its, rv, p1, _⟩ := I1.list hq1
  have hl := rv.length
  refine call_reversed_list p1.isList ?_
  have hit : (s1.heap.push (revObj a1 ((its.toArray.size : Int) - 1))).IsRevIter s1.heap.objs.size a1 ((xs.length : Int) - 1 - ((0 : Nat) : Int)) :=
    ⟨_, Heap.get?_push_size _ rfl, rfl, by show Data.fields _ = Data.fields _; simp [hl]⟩
  refine wpAny_pyIter_revIter hit ?_
  refine ⟨s1.heap.objs.size, [s1.heap.objs.size], _, _, H1, rfl, I1.kept (t' := s1.toks) fun b o e => Heap.get?_push_of_some _ e, turn_rev a1 _ xs, ⟨Nat.zero_le _, hit⟩, fun b hb => ?_, q⟩
  have e : b = s1.heap.objs.size := by simpa using hb
  subst e
  exact I1.fpOk (Nat.le_refl _) (I1.hok.fresh (Nat.le_refl _))
theorem for_rev {K : PySem.W.Frag} {a : Addr} {xs : List V} {g : TG} {tb : TS} {D : Ends} {σ : St} {H : Hp} (Pv : Nat → St → Hp → Prop) (h0 : Pv 0 σ H) (hl : ∀ i σ H, i ≤ xs.length → Pv i σ H → SqL K H a xs)
    (hs : ∀ i x σ H, i < xs.length → xs[xs.length - 1 - i]? = some x → Pv i σ H → g x σ H fun σ2 H2 => tb { D with nx := Pv (i + 1), ct := Pv (i + 1), bk := D.nx } σ2 H2) (hd : ∀ σ H, Pv xs.length σ H → D.nx σ H) :
    ∃ W : Nat → Nat → St → Hp → Prop, (∃ m, W 0 m σ H) ∧ ∀ i m σ H, W i m σ H →
      ((Itv K a xs).stop i H ∧ D.nx σ H) ∨ ((Itv K a xs).go i H ∧ ∃ N : St → Hp → Prop, (∀ σ' H', N σ' H' → ∃ m', m' < m ∧ W (i + 1) m' σ' H') ∧ ∀ x H', (Itv K a xs).yld i H x H' → g x σ H' fun σ2 H2 => tb { D with nx := N, ct := N, bk := D.nx } σ2 H2) := by
  refine ⟨fun i m σ H => m = xs.length - i ∧ i ≤ xs.length ∧ Pv i σ H, ⟨xs.length, by simp, Nat.zero_le _, h0⟩, ?_⟩
  rintro i m σ H ⟨rfl, hi, p⟩
  have q := hl i σ H hi p
  by_cases hlt : i < xs.length
  · refine .inr ⟨⟨q, hlt⟩, Pv (i + 1), fun σ' H' p' => ⟨xs.length - (i + 1), by omega, rfl, hlt, p'⟩, fun x H' y => ?_⟩
    obtain ⟨rfl, hx⟩ := y
    exact hs i x σ _ hlt hx p
  · have e : i = xs.length := by omega
    subst e
    exact .inl ⟨Nat.le_refl _, hd σ H p⟩
namespace R
variable {X : Cx}
theorem pi_rev {tg a : Expr} {ta : TA} {p pos : Pos} (hg : Gl X "reversed") (hm : X.mg "reversed" = none) (ha : QA X [a] ta) (hs : noStar a = true := by rfl) : QI X tg (.Call (.Name "reversed" p) [a] [] pos) (iRev X.K ta) := ⟨L2.pi_rev hg hm ha.h hs⟩
end R
/-! ### comprehensions with more turns -/
section
variable {K : PySem.W.Frag} {fr : List Nat} {tt : TT} {te : TE} {σ : St} {Q : VK} {H1 : Hp} {l : Addr}
theorem comp_lst_mapB {α : Type} {a : Addr} (emb : α → V) (xs : List α) (p : α → Bool) (f : α → V) (hS : SqL K H1 a (xs.map emb)) (hn : xs.length ≤ 1000) (hl : H1 l = none)
    (ht : ∀ x ∈ xs, ∀ H, Same H1 H → ∀ C, (∀ H', Same H H' → C (p x) H') → tt (some (emb x) :: inner σ fr) H C)
    (he : ∀ x ∈ xs, p x = true → ∀ H, Same H1 H → ∀ C, (∀ H', Same H H' → C (f x) H') → te (some (emb x) :: inner σ fr) H C)
    (hd : ∀ H, Same H1 H → H l = some (.lst ((xs.filter p).map f)) → Q (.ref l) H) : CompGoal (Itl K a) 1 (gName 0) fr tt te σ Q H1 l := by
  refine comp_lst1 (xs := xs.map emb) (fun k H => Same H1 H ∧ H l = some (.lst (((xs.take k).filter p).map f))) ⟨same_new hl _, upd_same⟩ (fun k H _ z => z.1.seq hS) ?_ fun H z => hd H z.1 (by have e := z.2; rw [List.length_map, List.take_length] at e; exact e)
  rintro k v H hv ⟨s, e⟩ K1 K0 h1 h0
  rw [List.getElem?_map] at hv
  obtain ⟨x, hx, rfl⟩ := Option.map_eq_some_iff.mp hv
  have hm : x ∈ xs := List.mem_of_getElem? hx
  refine ht x hm H s _ fun H' s' => ?_
  have e' : (xs.take (k + 1)).filter p = (xs.take k).filter p ++ (if p x = true then [x] else []) := by
    rw [List.take_add_one, hx, List.filter_append]
    cases hp : p x <;> simp [hp]
  have hkl : k < xs.length := (List.getElem?_eq_some_iff.mp hx).1
  cases hp : p x with
  | false =>
    rw [if_neg Bool.false_ne_true]
    refine h0 _ ⟨s.trans s', ?_⟩
    rw [e', hp, if_neg Bool.false_ne_true, List.append_nil]
    exact s' _ _ e
  | true =>
    rw [if_pos rfl]
    refine he x hm hp H' (s.trans s') _ fun H'' s'' => ?_
    refine h1 _ _ _ (s'' _ _ (s' _ _ e)) ?_ ⟨((s.trans s').trans s'').upd hl _, ?_⟩
    · rw [List.length_map]
      have h1 := List.length_filter_le p (xs.take k)
      have h2 := List.length_take_le k xs
      exact small1000 (by omega)
    · rw [upd_same, e', hp, if_pos rfl, List.map_append]; rfl
end
end L2


set_option Elab.async false
set_option linter.all false
set_option maxRecDepth 100000
/-! tables of the greatest worths by what is free; the laws' own rows of ways -/
namespace GP
open L2 PySem
/-- the offers of one bidder -/
structure OffOk (n m : Nat) (o : Off) : Prop where
  few : o.length ≤ m
  part : ∀ c ∈ o, 0 < c.1 ∧ c.1 < 2 ^ n
  amt : ∀ c ∈ o, 0 < c.2
  rise : o.Pairwise (fun a b => a.1 < b.1)
theorem compl_sub : ∀ n < 7, ∀ f < 2 ^ n, ∀ c < 2 ^ n, ((2 ^ n - 1 - f) &&& c = 0 ↔ f &&& c = c) := by decide +kernel
theorem compl_or : ∀ n < 7, ∀ f < 2 ^ n, ∀ c < 2 ^ n, f &&& c = c → (2 ^ n - 1 - f) ||| c = 2 ^ n - 1 - (f - c) ∧ c ≤ f := by decide +kernel
noncomputable def choices (o : Off) (f : Nat) : Off := (0, 0) :: o.filter fun c => decide (f &&& c.1 = c.1)
noncomputable def tabW (n : Nat) (os : List Off) : List Int := (List.range (2 ^ n)).map fun f => bestW (2 ^ n - 1 - f) os
theorem tabW_len (n : Nat) (os : List Off) : (tabW n os).length = 2 ^ n := by unfold tabW; rw [List.length_map, List.length_range]
theorem tabW_at {n f : Nat} (os : List Off) (h : f < 2 ^ n) : (tabW n os).getD f 0 = bestW (2 ^ n - 1 - f) os := by
  rw [List.getD_eq_getElem?_getD]
  unfold tabW
  rw [List.getElem?_map, List.getElem?_range h]; rfl
theorem choices_le {n : Nat} {o : Off} {f : Nat} {c : Nat × Int} (hn : n < 7) (hf : f < 2 ^ n) (hp : ∀ c ∈ o, c.1 < 2 ^ n) (hc : c ∈ choices o f) : c.1 ≤ f ∧ f &&& c.1 = c.1 := by
  rcases List.mem_cons.mp hc with rfl | hc
  · exact ⟨Nat.zero_le _, Nat.and_zero _⟩
  · have h1 := List.mem_filter.mp hc
    have h2 : f &&& c.1 = c.1 := of_decide_eq_true h1.2
    exact ⟨(compl_or n hn f hf c.1 (hp c h1.1) h2).2, h2⟩
theorem opt_choices {n : Nat} {o : Off} {f : Nat} {c : Nat × Int} (hn : n < 7) (hf : f < 2 ^ n) (hp : ∀ c ∈ o, c.1 < 2 ^ n) : c ∈ choices o f ↔ Opt (2 ^ n - 1 - f) o c := by
  unfold choices Opt
  rw [List.mem_cons, List.mem_filter]
  constructor
  · rintro (h | ⟨h1, h2⟩)
    · exact .inl h
    · exact .inr ⟨h1, (compl_sub n hn f hf c.1 (hp c h1)).mpr (of_decide_eq_true h2)⟩
  · rintro (h | ⟨h1, h2⟩)
    · exact .inl h
    · exact .inr ⟨h1, decide_eq_true ((compl_sub n hn f hf c.1 (hp c h1)).mp h2)⟩
theorem choice_val {n : Nat} {o : Off} {os : List Off} {f : Nat} {c : Nat × Int} (hn : n < 7) (hf : f < 2 ^ n) (hp : ∀ c ∈ o, c.1 < 2 ^ n) (hc : c ∈ choices o f) : (tabW n os).getD (f - c.1) 0 = bestW ((2 ^ n - 1 - f) ||| c.1) os := by
  rw [tabW_at os (by omega)]
  rcases List.mem_cons.mp hc with rfl | hc
  · show bestW (2 ^ n - 1 - (f - 0)) os = bestW ((2 ^ n - 1 - f) ||| 0) os
    rw [Nat.or_zero, Nat.sub_zero]
  · have h1 := List.mem_filter.mp hc
    rw [(compl_or n hn f hf c.1 (hp c h1.1) (of_decide_eq_true h1.2)).1]
theorem best_le {tk : Nat} {o : Off} {os : List Off} {c : Nat × Int} (h : Opt tk o c) : c.2 + bestW (tk ||| c.1) os ≤ bestW tk (o :: os) := by
  obtain ⟨w, hw, e⟩ := bestW_is (tk ||| c.1) os
  have := bestW_ge (tk := tk) (os := o :: os) (w := c :: w) ⟨h, hw⟩
  rw [worth_cons, e] at this
  exact this
theorem best_some (tk : Nat) (o : Off) (os : List Off) : ∃ c, Opt tk o c ∧ c.2 + bestW (tk ||| c.1) os = bestW tk (o :: os) := by
  obtain ⟨w, hw, e⟩ := bestW_is tk (o :: os)
  match w, hw with
  | [], hw => exact hw.elim
  | c :: cs, hw =>
    refine ⟨c, hw.1, ?_⟩
    have h1 := best_le (os := os) hw.1
    have h2 := bestW_ge hw.2
    rw [worth_cons] at e
    omega
/-- one table out of the one behind -/
theorem tab_max {n : Nat} {o : Off} {os : List Off} {f : Nat} (hn : n < 7) (hf : f < 2 ^ n) (hp : ∀ c ∈ o, c.1 < 2 ^ n) : IsMax ((choices o f).map fun c => c.2 + (tabW n os).getD (f - c.1) 0) (bestW (2 ^ n - 1 - f) (o :: os)) := by
  constructor
  · obtain ⟨c, hc, e⟩ := best_some (2 ^ n - 1 - f) o os
    have hm := (opt_choices hn hf hp).mpr hc
    exact List.mem_map.mpr ⟨c, hm, by rw [choice_val hn hf hp hm]; exact e⟩
  · intro x hx
    obtain ⟨c, hc, rfl⟩ := List.mem_map.mp hx
    rw [choice_val hn hf hp hc]
    exact best_le ((opt_choices hn hf hp).mp hc)
theorem max_uniq {ns : List Int} {a b : Int} (h1 : IsMax ns a) (h2 : IsMax ns b) : a = b := by
  have := h1.2 b h2.1
  have := h2.2 a h1.1
  omega
theorem tab_nil (n : Nat) : tabW n [] = List.replicate (2 ^ n) 0 := by
  unfold tabW
  refine List.ext_getElem? fun i => ?_
  rw [List.getElem?_map]
  by_cases h : i < 2 ^ n
  · rw [List.getElem?_range h, List.getElem?_replicate, if_pos h]; rfl
  · rw [List.getElem?_eq_none (by rw [List.length_range]; omega), List.getElem?_replicate, if_neg h]; rfl
theorem bits_pos : ∀ n < 7, ∀ b < 2 ^ n, 0 < b → 1 ≤ ((List.range n).map fun k => ((((b / 2 ^ k) &&& 1 : Nat)) : Int)).sum := by decide +kernel
/-! ### rows of ways -/
noncomputable abbrev Way := List (Nat × Int)
noncomputable def RowAt (m : Addr) (H : Hp) (t : Addr) (w : Way) : Prop :=
  ∃ (a b : Addr) (ps : List Addr), a ≠ m ∧ b ≠ m ∧ H t = some (.tup [.ref a, .ref b, .int (taken w : Int), .int (worth w)]) ∧ H a = some (.lst (ps.map V.ref)) ∧ ps.length = (key w).length ∧
    (∀ (i : Nat) (p : Addr) (x : Int × Int), ps[i]? = some p → (key w)[i]? = some x → H p = some (.tup [.int x.1, .int x.2])) ∧ H b = some (.lst (w.map fun c => V.int (c.1 : Int)))
theorem RowAt.same {m : Addr} {H H' : Hp} {t : Addr} {w : Way} (h : RowAt m H t w) (S : Same H H') : RowAt m H' t w := by
  obtain ⟨a, b, ps, h1, h2, h3, h4, h5, h6, h7⟩ := h
  exact ⟨a, b, ps, h1, h2, S _ _ h3, S _ _ h4, h5, fun i p x e1 e2 => S _ _ (h6 i p x e1 e2), S _ _ h7⟩
theorem RowAt.put {m : Addr} {H : Hp} {t : Addr} {w : Way} {zs : List V} {o : HO} (h : RowAt m H t w) (hm : H m = some (.lst zs)) : RowAt m (upd H m o) t w := by
  obtain ⟨a, b, ps, h1, h2, h3, h4, h5, h6, h7⟩ := h
  refine ⟨a, b, ps, h1, h2, ?_, ?_, h5, fun i p x e1 e2 => ?_, ?_⟩
  · rw [upd_ne (fun z => by rw [z, hm] at h3; cases h3)]; exact h3
  · rw [upd_ne h1]; exact h4
  · have := h6 i p x e1 e2
    rw [upd_ne (fun z => by rw [z, hm] at this; cases this)]; exact this
  · rw [upd_ne h2]; exact h7
theorem RowAt.fresh {m m' : Addr} {H : Hp} {t : Addr} {w : Way} (h : RowAt m H t w) (hm : H m' = none) : RowAt m' H t w := by
  obtain ⟨a, b, ps, h1, h2, h3, h4, h5, h6, h7⟩ := h
  exact ⟨a, b, ps, ne_of_none h4 hm, ne_of_none h7 hm, h3, h4, h5, h6, h7⟩
theorem RowAt.pl {m : Addr} {H : Hp} {t : Addr} {w : Way} (h : RowAt m H t w) : ∃ a b, H t = some (.tup [.ref a, .ref b, .int (taken w : Int), .int (worth w)]) ∧ PL H a (key w) ∧ H b = some (.lst (w.map fun c => V.int (c.1 : Int))) := by
  obtain ⟨a, b, ps, h1, h2, h3, h4, h5, h6, h7⟩ := h
  exact ⟨a, b, h3, ⟨ps, h4, h5, h6⟩, h7⟩
/-- the row with one choice more -/
theorem RowAt.more {m : Addr} {H H' : Hp} {w : Way} {a b t' a' b' p : Addr} {ps : List Addr} {zs : List V} {c : Nat × Int} (S : Same H H') (hm : H m = some (.lst zs))
    (h4 : H a = some (.lst (ps.map V.ref))) (h5 : ps.length = (key w).length) (h6 : ∀ (i : Nat) (p : Addr) (x : Int × Int), ps[i]? = some p → (key w)[i]? = some x → H p = some (.tup [.int x.1, .int x.2]))
    (hp : H' p = some (.tup [.int (-c.2), .int (c.1 : Int)])) (na : H a' = none) (nb : H b' = none) (ha : H' a' = some (.lst (ps.map V.ref ++ [V.ref p]))) (hb : H' b' = some (.lst ((w.map fun c => V.int (c.1 : Int)) ++ [V.int (c.1 : Int)])))
    (ht : H' t' = some (.tup [.ref a', .ref b', .int ((taken w ||| c.1 : Nat) : Int), .int (worth w + c.2)])) : RowAt m H' t' (w ++ [c]) := by
  refine ⟨a', b', ps ++ [p], fun z => ?_, fun z => ?_, ?_, ?_, ?_, fun i q x e1 e2 => ?_, ?_⟩
  · rw [z, hm] at na; cases na
  · rw [z, hm] at nb; cases nb
  · rw [taken_app, worth_app, show worth [c] = c.2 by unfold worth; simp]; exact ht
  · rw [List.map_append]; exact ha
  · rw [key_app, List.length_append, List.length_append, h5]; rfl
  · rw [key_app] at e2
    by_cases hi : i < ps.length
    · rw [List.getElem?_append_left hi] at e1
      rw [List.getElem?_append_left (by rw [← h5]; exact hi)] at e2
      exact S _ _ (h6 i q x e1 e2)
    · have hi' : i = ps.length := by
        have := (List.getElem?_eq_some_iff.mp e1).1
        rw [List.length_append, List.length_singleton] at this; omega
      subst hi'
      rw [List.getElem?_append_right (Nat.le_refl _), Nat.sub_self] at e1
      rw [h5, List.getElem?_append_right (Nat.le_refl _), Nat.sub_self] at e2
      have e1' : p = q := Option.some.inj e1
      have e2' : (-c.2, (c.1 : Int)) = x := Option.some.inj e2
      subst e1' e2'
      exact hp
  · rw [List.map_append]; exact hb
noncomputable def Rows (m : Addr) (H : Hp) (tw : List (Addr × Way)) : Prop := ∀ z ∈ tw, RowAt m H z.1 z.2
theorem Rows.fresh {m m' : Addr} {H : Hp} {tw : List (Addr × Way)} (h : Rows m H tw) (hm : H m' = none) : Rows m' H tw := fun z hz => (h z hz).fresh hm
noncomputable def rowV (z : Addr × Way) : V := .ref z.1
/-- what one row grows to -/
noncomputable def grow1 (o : Off) (w : Way) : List Way := (w ++ [(0, 0)]) :: (o.filter fun c => decide (taken w &&& c.1 = 0)).map fun c => w ++ [c]
theorem grow1_len (o : Off) (w : Way) : (grow1 o w).length ≤ o.length + 1 := by
  unfold grow1
  rw [List.length_cons, List.length_map]
  have := List.length_filter_le (fun c : Nat × Int => decide (taken w &&& c.1 = 0)) o
  omega
theorem grow_len (o : Off) : ∀ rows : List Way, (rows.flatMap (grow1 o)).length ≤ rows.length * (o.length + 1)
  | [] => by simp
  | w :: rows => by
    rw [List.flatMap_cons, List.length_append, List.length_cons, Nat.succ_mul]
    have h1 := grow1_len o w
    have h2 := grow_len o rows
    omega
theorem flat_take {rows : List Way} {o : Off} {k : Nat} {w : Way} (h : rows[k]? = some w) : (rows.take (k + 1)).flatMap (grow1 o) = (rows.take k).flatMap (grow1 o) ++ grow1 o w := by
  rw [List.take_add_one, h, List.flatMap_append]
  simp
theorem ways_take {os : List Off} {k : Nat} {o : Off} (h : os[k]? = some o) : allWays (os.take (k + 1)) = (allWays (os.take k)).flatMap (grow1 o) := by
  unfold allWays
  rw [List.take_add_one, h]
  show (os.take k ++ [o]).foldl grow [[]] = _
  rw [List.foldl_append]; rfl
theorem ways_len {m : Nat} : ∀ (os : List Off), (∀ o ∈ os, o.length ≤ m) → ∀ k, k ≤ os.length → (allWays (os.take k)).length ≤ (m + 1) ^ k
  | os, hm, 0, _ => by rw [List.take_zero]; exact Nat.le_refl 1
  | os, hm, k + 1, hk => by
    have e : os[k]? = some (os[k]'(by omega)) := List.getElem?_eq_getElem (by omega)
    rw [ways_take e]
    have h1 := grow_len (os[k]'(by omega)) (allWays (os.take k))
    have h2 := ways_len os hm k (by omega)
    have h3 := hm _ (List.getElem_mem (l := os) (by omega : k < os.length))
    refine Nat.le_trans h1 ?_
    rw [Nat.pow_succ]
    exact Nat.mul_le_mul h2 (by omega)
end GP
namespace L2
open PySem PySem.Spec PyProof.Rows PySem.W
theorem call_listK {X : Cx} (K : PySem.W.Frag) (h : X.K = K := by rfl) : CallR X (.type "list") (fun xs H Q => ∃ p ys, xs = [V.ref p] ∧ (SqL K H p ys ∨ SqT K H p ys) ∧ ∀ (l : Addr), H l = none → Q (V.ref l) (upd H l (HO.lst ys))) := by
  subst h; exact call_list_of
theorem fnilT {σ : St} {H : Hp} {A B : Hp → Prop} (h : A H) : fNil σ H (fun b H' => if b = true then A H' else B H') := by
  show if true = true then A H else B H
  rw [if_pos rfl]; exact h
/-! ### lists of pairs -/
theorem pairs_put {H : Hp} {l m : Addr} {xs : List (Nat × Int)} {ps : List Addr} {zs : List V} {o : HO} (P : Pairs H l xs ps) (h : H m = some (.lst zs)) (ne : l ≠ m) : Pairs (upd H m o) l xs ps := by
  refine ⟨by rw [upd_ne ne]; exact P.1, P.2.1, fun i p x a b => ?_⟩
  have q := P.2.2 i p x a b
  rw [upd_ne (fun z => by rw [z, h] at q; cases q)]; exact q
theorem pairs_snoc {H : Hp} {l t : Addr} {xs : List (Nat × Int)} {ps : List Addr} {x : Nat × Int} (P : Pairs H l xs ps) (ht : H t = some (.tup [.int x.1, .int x.2])) : Pairs (upd H l (.lst (ps.map V.ref ++ [V.ref t]))) l (xs ++ [x]) (ps ++ [t]) := by
  have ne : ∀ p y, H p = some (.tup y) → p ≠ l := fun p y e z => by rw [z, P.1] at e; cases e
  refine ⟨by rw [upd_same, List.map_append]; rfl, by rw [List.length_append, List.length_append, P.2.1]; rfl, fun i p y e1 e2 => ?_⟩
  by_cases hi : i < ps.length
  · rw [List.getElem?_append_left hi] at e1
    rw [List.getElem?_append_left (by rw [← P.2.1]; exact hi)] at e2
    have q := P.2.2 i p y e1 e2
    rw [upd_ne (ne p _ q)]; exact q
  · have hi' : i = ps.length := by
      have := (List.getElem?_eq_some_iff.mp e1).1
      rw [List.length_append, List.length_singleton] at this; omega
    subst hi'
    rw [List.getElem?_append_right (Nat.le_refl _), Nat.sub_self] at e1
    rw [P.2.1, List.getElem?_append_right (Nat.le_refl _), Nat.sub_self] at e2
    have e1' : t = p := Option.some.inj e1
    have e2' : x = y := Option.some.inj e2
    subst e1' e2'
    rw [upd_ne (ne t _ ht)]; exact ht
theorem pairs_nil {H : Hp} {l : Addr} (h : H l = some (.lst [])) : Pairs H l [] [] := ⟨h, rfl, fun i p x e => by simp at e⟩
/-- another list with the same tuples -/
theorem pairs_copy {H : Hp} {l r : Addr} {xs : List (Nat × Int)} {ps : List Addr} (P : Pairs H l xs ps) (hr : H r = none) : Pairs (upd H r (.lst (ps.map V.ref))) r xs ps :=
  ⟨upd_same, P.2.1, fun i p x a b => by
    have q := P.2.2 i p x a b
    rw [upd_ne (ne_of_none q hr)]; exact q⟩
theorem pairs_cons {H : Hp} {l p t : Addr} {xs : List (Nat × Int)} {qs : List Addr} {x : Nat × Int} (P : Pairs H l xs qs) (ht : H t = some (.tup [.int x.1, .int x.2])) (hp : H p = none) : Pairs (upd H p (.lst ([V.ref t] ++ qs.map V.ref))) p (x :: xs) (t :: qs) := by
  refine ⟨upd_same, by rw [List.length_cons, List.length_cons, P.2.1], fun i q y e1 e2 => ?_⟩
  have h : H q = some (.tup [.int y.1, .int y.2]) := by
    cases i with
    | zero =>
      have e1' : t = q := Option.some.inj e1
      have e2' : x = y := Option.some.inj e2
      subst e1' e2'
      exact ht
    | succ i => exact P.2.2 i q y e1 e2
  rw [upd_ne (ne_of_none h hp)]; exact h
theorem at_end {α : Type} {xs : List α} {k : Nat} {v : α} (hl : xs.length = k + 1) (h : xs[k]? = some v) : atI xs (-1) = some v := by
  have e : xs = xs.take k ++ [v] := by
    have h1 := List.take_add_one (l := xs) (i := k)
    rw [h, ← hl, List.take_length] at h1
    exact h1
  rw [e]; exact atI_last _ _
noncomputable def pairV (z : Addr × (Nat × Int)) : V := .ref z.1
theorem pairs_zip {H : Hp} {l : Addr} {xs : List (Nat × Int)} {ps : List Addr} (P : Pairs H l xs ps) : H l = some (.lst ((ps.zip xs).map pairV)) ∧ (∀ z ∈ ps.zip xs, H z.1 = some (.tup [.int z.2.1, .int z.2.2])) ∧ (ps.zip xs).map Prod.snd = xs := by
  refine ⟨?_, fun z hz => ?_, List.map_snd_zip (by rw [P.2.1]; exact Nat.le_refl _)⟩
  · rw [P.1]
    congr 2
    have : (ps.zip xs).map pairV = ((ps.zip xs).map Prod.fst).map V.ref := by rw [List.map_map]; rfl
    rw [this, List.map_fst_zip (by rw [P.2.1]; exact Nat.le_refl _)]
  · obtain ⟨i, hi⟩ := List.mem_iff_getElem?.mp hz
    rw [List.getElem?_zip_eq_some] at hi
    exact P.2.2 i z.1 z.2 hi.1 hi.2
/-- a hall with one bidder more -/
theorem hall_snoc {H : Hp} {l r : Addr} {os : List (List (Nat × Int))} {as : List Addr} {o : List (Nat × Int)} {ps : List Addr} (h : HallAt H l os as) (ha : ∀ a ∈ as, a ≠ l) (hr : Pairs H r o ps) (ne : r ≠ l) :
    HallAt (upd H l (.lst (as.map V.ref ++ [V.ref r]))) l (os ++ [o]) (as ++ [r]) ∧ ∀ a ∈ as ++ [r], a ≠ l := by
  refine ⟨⟨by rw [upd_same, List.map_append]; rfl, by rw [List.length_append, List.length_append, h.2.1]; rfl, fun i a o' e1 e2 => ?_⟩, fun a hm => ?_⟩
  · by_cases hi : i < as.length
    · rw [List.getElem?_append_left hi] at e1
      rw [List.getElem?_append_left (by rw [← h.2.1]; exact hi)] at e2
      obtain ⟨qs, hq⟩ := h.2.2 i a o' e1 e2
      exact ⟨qs, pairs_put hq h.1 (ha a (List.mem_of_getElem? e1))⟩
    · have hi' : i = as.length := by
        have := (List.getElem?_eq_some_iff.mp e1).1
        rw [List.length_append, List.length_singleton] at this; omega
      subst hi'
      rw [List.getElem?_append_right (Nat.le_refl _), Nat.sub_self] at e1
      rw [h.2.1, List.getElem?_append_right (Nat.le_refl _), Nat.sub_self] at e2
      have e1' : r = a := Option.some.inj e1
      have e2' : o = o' := Option.some.inj e2
      subst e1' e2'
      exact ⟨ps, pairs_put hr h.1 ne⟩
  · rcases List.mem_append.mp hm with hm | hm
    · exact ha a hm
    · rw [List.mem_singleton.mp hm]; exact ne
theorem HallAt.lives {H : Hp} {l b : Addr} {os : List (List (Nat × Int))} {as : List Addr} (h : HallAt H l os as) (hb : b ∈ as) : ∃ zs, H b = some (.lst zs) := by
  obtain ⟨i, hi⟩ := List.mem_iff_getElem?.mp hb
  have hl := (List.getElem?_eq_some_iff.mp hi).1
  have ho : os[i]? = some (os[i]'(by rw [← h.2.1]; exact hl)) := List.getElem?_eq_getElem _
  obtain ⟨ps, hp⟩ := h.2.2 i b _ hi ho
  exact ⟨_, hp.1⟩
theorem nodup_snoc {α : Type} {xs : List α} {x : α} (h : xs.Nodup) (hx : x ∉ xs) : (xs ++ [x]).Nodup := by
  rw [List.nodup_append]
  refine ⟨h, by simp, fun u hu w hw => ?_⟩
  have : w = x := by simpa using hw
  subst this
  exact fun z => hx (z ▸ hu)
theorem hall_nil {H : Hp} {l : Addr} (h : H l = some (.lst [])) : HallAt H l [] [] := ⟨h, rfl, fun i a o e => by simp at e⟩
theorem HallAt.at {H : Hp} {l : Addr} {os : List (List (Nat × Int))} {as : List Addr} (h : HallAt H l os as) {i : Nat} {v : V} (hv : (as.map V.ref)[i]? = some v) : ∃ a o ps, v = .ref a ∧ as[i]? = some a ∧ os[i]? = some o ∧ Pairs H a o ps := by
  rw [List.getElem?_map] at hv
  obtain ⟨a, ha, rfl⟩ := Option.map_eq_some_iff.mp hv
  have hi : i < as.length := (List.getElem?_eq_some_iff.mp ha).1
  have ho : os[i]? = some (os[i]'(by rw [← h.2.1]; exact hi)) := List.getElem?_eq_getElem _
  obtain ⟨ps, hp⟩ := h.2.2 i a _ ha ho
  exact ⟨a, _, ps, rfl, ha, ho, hp⟩
end L2


set_option Elab.async false
set_option linter.all false
set_option maxRecDepth 100000
/-! max(xs) of tuples of whole numbers -/
namespace GL
open PySem PySem.SeqAt PySem.AutoSeq1 PySem.MeetsSeq PySem.MeetsSeq2 PySem.MeetsSeq3 PySem.SeqRoads2
noncomputable def GtAt (A : Around) (s : Shared) (y x : Value) (b : Bool) : Prop :=
  ∀ (prog : Program) (w : World) (E : Value → Shared → Prop) (Q : Value → Shared → Prop), Q (.bool b) s → wpAny (model prog w) A (richCompare .Gt y x) Q E s
theorem tup_gt (l b : Addr) (xs ys : Array Value) (n m : Nat) (dd dd2 : Option Addr) (sl sl2 : Array (Option Value)) (hz : xs.size = ys.size) (e lt : Nat → Bool) :
    Meets (Builtin.«tuple.__gt__» ⟨[.ref l, .ref b], []⟩)
      (fun A R s => s.heap.get? l = some { cls := .type "tuple", dict := dd, data := .seq xs n, slots := sl } ∧ s.heap.get? b = some { cls := .type "tuple", dict := dd2, data := .seq ys m, slots := sl2 } ∧
        (∀ j (h1 : j < xs.size) (h2 : j < ys.size), EqAt A.in1 s xs[j] ys[j] (e j)) ∧ (∀ j (h1 : j < xs.size) (h2 : j < ys.size), e j = false → GtAt A.in1 s xs[j] ys[j] (lt j)) ∧
        R (.ok (.ret (.bool (byFirst e lt xs.size 0)))) s) :=
  .of_wp fun prog w A R s h => by
    obtain ⟨hp, g, d, tk, os⟩ := s
    obtain ⟨hl, hb, he, hlt, h⟩ := h
    have f2 := AutoSeq1.sub_tuple_tuple
    have hZ : (xs.toList.zip ys.toList).length = xs.size := by simp [hz]
    wp_walk using wpAny_loadPart' hl, wpAny_loadPart' hb, wpAny_forIn_list _ (fun rest b s' => b.1 = none ∧ s' = ⟨hp, g, d, tk, os⟩ ∧ ∃ i, i ≤ xs.size ∧ rest = (xs.toList.zip ys.toList).drop i ∧
      R (.ok (.ret (.bool (byFirst e lt (xs.size - i) i)))) ⟨hp, g, d, tk, os⟩) _
    case turn =>
      rintro ⟨y, x⟩ rest b s' ⟨hb', rfl, i, hi, hr, hR⟩
      have hlt1 : i < (xs.toList.zip ys.toList).length := by
        rcases Nat.lt_or_ge i (xs.toList.zip ys.toList).length with q | q
        · exact q
        · rw [List.drop_of_length_le q] at hr; cases hr
      have h1 : i < xs.size := by omega
      have h2 : i < ys.size := by omega
      rw [List.drop_eq_getElem_cons hlt1] at hr
      injection hr with hyx hrest
      obtain rfl : y = xs[i] := by have := congrArg Prod.fst hyx; simpa using this
      obtain rfl : x = ys[i] := by have := congrArg Prod.snd hyx; simpa using this
      have hs : xs.size - i = (xs.size - (i + 1)) + 1 := by omega
      rw [hs] at hR
      unfold byFirst at hR
      refine wpAny_bind (he i h1 h2 prog w _ _ ?_)
      cases hy : e i with
      | true =>
        rw [hy, if_pos rfl] at hR
        wp_walk
        exact ⟨rfl, rfl, i + 1, h1, hrest, hR⟩
      | false =>
        rw [hy, if_neg (by decide)] at hR
        simp only [Bool.not_false, if_true]
        refine wpAny_bind (wpAny_rule (wpAny_bind (hlt i h1 h2 hy prog w _ _ ?_)))
        wp_walk
        exact ⟨_, rfl, hR⟩
    case fin =>
      rintro ⟨b1, b2⟩ s' ⟨hb', rfl, i, hi, hr, hR⟩
      simp only at hb'
      subst hb'
      have hge : xs.size ≤ i := by
        rcases Nat.lt_or_ge i (xs.toList.zip ys.toList).length with q | q
        · rw [List.drop_eq_getElem_cons q] at hr; cases hr
        · omega
      have hs : xs.size - i = 0 := by omega
      rw [hs] at hR
      wp_walk
      refine ⟨_, rfl, ?_⟩
      have z : Builtin.Tuple.tupleCompareSizes .Gt xs.size ys.size = .bool false := by
        show Value.bool (decide (ys.size < xs.size)) = _
        rw [hz, decide_eq_false (Nat.lt_irrefl _)]
      rw [z]
      exact hR
    case h =>
      exact ⟨rfl, rfl, 0, Nat.zero_le _, rfl, by simpa using h⟩
section
variable {A : Around} {s : Shared} {l b : Addr} {xs ys : Array Value} {e lt : Nat → Bool}
theorem GtAt.tuples (hl : s.heap.IsTuple l xs) (hb : s.heap.IsTuple b ys) (hz : xs.size = ys.size) (hu : A.units < cLine) (he : ∀ j (h1 : j < xs.size) (h2 : j < ys.size), EqAt A.in1 s xs[j] ys[j] (e j))
    (hlt : ∀ j (h1 : j < xs.size) (h2 : j < ys.size), e j = false → GtAt A.in1 s xs[j] ys[j] (lt j)) : GtAt A s (.ref l) (.ref b) (byFirst e lt xs.size 0) := fun prog w E Q h => by
  obtain ⟨⟨c1, dd, d1, sl⟩, ho, hc, n, hd⟩ := id hl
  obtain ⟨⟨c2, dd2, d2, sl2⟩, ho2, hc2, n2, hd2⟩ := id hb
  simp only at hc hd hc2 hd2
  subst hc hd hc2 hd2
  exact richCompare_meets_room (op := .Gt) ⟨_, ho, rfl⟩ ⟨_, ho2, rfl⟩ F.slot_tuple_gt F.entry_tuple_gt (F.args_tuple_gt_2 _ _) (tup_gt l b xs ys n n2 dd dd2 sl sl2 hz e lt)
    ⟨ho, ho2, he, hlt, show _ ≠ Value.notImplemented ∧ Q _ s from ⟨(fun x => nomatch x), h⟩⟩ hu
theorem GtAt.ints {i j : Int} {t u : Tok} : GtAt A s (.int i t) (.int j u) (decide (i > j)) := fun prog w E Q h => PyProof.Rows.gt_int h
end
end GL
namespace L2
open PySem PySem.Spec PyProof.Rows GL
section
variable {prog : Program} {w : World} {A : Around} {R : Result → Shared → Prop} {I : Addr} {fp wr : List Addr} {n : Nat} {P : Nat → Value → Prop} {St' : Nat → Heap → Prop} {kw : List (Str × Value)} {Gd : Heap → Prop}
/-- values are told apart where the heap is good -/
noncomputable def CmpGt (A : Around) (Gd : Heap → Prop) (P : Nat → Value → Prop) (bt : Nat → Nat → Bool) : Prop := ∀ i j vi vj (s : Shared), Gd s.heap → P i vi → P j vj → GtAt A s vi vj (bt i j)
theorem gv_mg (W : Walks prog w A.in1 I fp wr n P St') (bt : Nat → Nat → Bool) (cmp : CmpGt A.in1 Gd P bt) {S : Addr} (nf : S ∉ fp) (gd : ∀ h h', Gd h → (∀ b o, b ∉ wr → b ≠ S → h.get? b = some o → h'.get? b = some o) → Gd h') :
    ∀ (k j : Nat) (s : Shared) (vb : Value) (c : Nat), (j + 1) + k = n → St' (j + 1) s.heap → Gd s.heap → P (argBest bt j) vb → s.heap.get? S = some { cls := .type "list", dict := none, data := .seq #[vb, vb] c, slots := #[] } →
      (∀ v h' tk, P (argBest bt (n - 1)) v → (∀ b o, b ∉ wr → b ≠ S → s.heap.get? b = some o → h'.get? b = some o) → R (.ok (.ret v)) { s with heap := h', toks := tk }) →
      codeAny (model prog w) A (.builtin "max.loop" ⟨[.ref I, .none, .ref S], kw⟩) R s := by
  have nw : S ∉ wr := fun z => nf (W.sub _ z)
  have nm : (toString "max" ++ toString ".loop" : String) = "max.loop" := by decide
  intro k
  induction k with
  | zero =>
    intro j s vb c e0 st g0 pb hS hR
    have e1 : n = j + 1 := by omega
    subst e1
    refine codeAny_builtin F.entry_max_loop ?_; rw [Around.under_plainId F.plain_max_loop _]; show wpAny _ A.in1 (seqItems? (.ref S) >>= _) _ _ s; refine wpAny_bind (wpAny_seqItems hS rfl ?_); show wpAny _ A.in1 (tryCatch (pyNext (.ref I)) _ >>= _) _ _ s
    refine wpAny_bind (wpAny_tryCatch (W.done s _ _ st fun g tk keep => ?_))
    show wpAny _ A.in1 (updateSeq S (fun _ => #[]) >>= _) _ _ _
    refine wpAny_bind (wpAny_updateSeq (keep S _ nw hS) rfl (wpAny_bind (wpAny_letGo (wpAny_pure (hR vb _ tk pb fun b o q1 q2 e => ?_)))))
    exact (Heap.get?_update_other _ _ (Ne.symm q2)).trans (keep b o q1 e)
  | succ k ih =>
    intro j s vb c e0 st g0 pb hS hR
    refine codeAny_builtin F.entry_max_loop ?_; rw [Around.under_plainId F.plain_max_loop _]; show wpAny _ A.in1 (seqItems? (.ref S) >>= _) _ _ s; refine wpAny_bind (wpAny_seqItems hS rfl ?_); show wpAny _ A.in1 (tryCatch (pyNext (.ref I)) _ >>= _) _ _ s
    refine wpAny_bind (wpAny_tryCatch (W.item (j + 1) s _ _ (by omega) st fun v g tk pv st2 keep => ?_))
    have hS2 := keep S _ nw hS
    have g1 : Gd g := gd _ _ g0 fun b o q1 _ e => keep b o q1 e
    show wpAny _ A.in1 (tryCatch (holding [v, v] (richCompare .Gt v vb >>= _)) _ >>= _) _ _ _
    refine wpAny_bind (wpAny_tryCatch (wpAny_holding (wpAny_bind (cmp (j + 1) (argBest bt j) v vb _ g1 pv pb _ _ _ _ (wpAny_bind (wpAny_holding (wpAny_truthy_bool (wpAny_bind (wpAny_letGo (wpAny_pure ?_))))))))))
    have ea : argBest bt (j + 1) = if bt (j + 1) (argBest bt j) = true then j + 1 else argBest bt j := rfl
    by_cases hb : bt (j + 1) (argBest bt j) = true
    · rw [if_pos hb] at ea ⊢
      refine wpAny_bind (wpAny_updateSeq hS2 rfl (wpAny_bind (wpAny_letGo ?_)))
      rw [nm]
      refine wpAny_pure ⟨plainId_quiet F.plain_max_loop _, ih (j + 1) _ v _ (by omega) (W.frame _ _ _ st2 fun b q o e => ?_) (gd _ _ g1 fun b o _ q2 e => ?_) (by rw [ea]; exact pv) (Heap.get?_update_self _ hS2 rfl) fun v' g' tk' pv' keep' => ?_⟩
      · exact (Heap.get?_update_other _ _ (fun z : S = b => nf (z ▸ q))).trans e
      · exact (Heap.get?_update_other _ _ (Ne.symm q2)).trans e
      · exact hR v' g' tk' pv' fun b o q1 q2 e => keep' b o q1 q2 ((Heap.get?_update_other _ _ (Ne.symm q2)).trans (keep b o q1 e))
    · rw [if_neg hb] at ea ⊢
      refine wpAny_bind (wpAny_letGo ?_)
      rw [nm]
      refine wpAny_pure ⟨plainId_quiet F.plain_max_loop _, ih (j + 1) _ vb c (by omega) st2 g1 (by rw [ea]; exact pb) hS2 fun v' g' tk' pv' keep' => ?_⟩
      exact hR v' g' tk' pv' fun b o q1 q2 e => keep' b o q1 q2 (keep b o q1 e)
theorem gv_mg0 (W : Walks prog w A.in1 I fp wr n P St') (bt : Nat → Nat → Bool) (cmp : CmpGt A.in1 Gd P bt) {S : Addr} (nf : S ∉ fp) (gd : ∀ h h', Gd h → (∀ b o, b ∉ wr → b ≠ S → h.get? b = some o → h'.get? b = some o) → Gd h') {s : Shared} {c : Nat} (st : St' 0 s.heap) (g0 : Gd s.heap) (h0 : 0 < n)
    (hS : s.heap.get? S = some { cls := .type "list", dict := none, data := .seq #[] c, slots := #[] })
    (hR : ∀ v h' tk, P (argBest bt (n - 1)) v → (∀ b o, b ∉ wr → b ≠ S → s.heap.get? b = some o → h'.get? b = some o) → R (.ok (.ret v)) { s with heap := h', toks := tk }) :
    codeAny (model prog w) A (.builtin "max.loop" ⟨[.ref I, .none, .ref S], kw⟩) R s := by
  have nw : S ∉ wr := fun z => nf (W.sub _ z)
  have nm : (toString "max" ++ toString ".loop" : String) = "max.loop" := by decide
  refine codeAny_builtin F.entry_max_loop ?_; rw [Around.under_plainId F.plain_max_loop _]; show wpAny _ A.in1 (seqItems? (.ref S) >>= _) _ _ s; refine wpAny_bind (wpAny_seqItems hS rfl ?_); show wpAny _ A.in1 (tryCatch (pyNext (.ref I)) _ >>= _) _ _ s
  refine wpAny_bind (wpAny_tryCatch (W.item 0 s _ _ h0 st fun v g tk pv st2 keep => ?_))
  have hS2 := keep S _ nw hS
  have g1 : Gd g := gd _ _ g0 fun b o q1 _ e => keep b o q1 e
  show wpAny _ A.in1 (updateSeq S (fun _ => #[v, v]) >>= _) _ _ _
  refine wpAny_bind (wpAny_updateSeq hS2 rfl ?_)
  rw [nm]
  refine wpAny_pure ⟨plainId_quiet F.plain_max_loop _, gv_mg W bt cmp nf gd (n - 1) 0 _ v _ (by omega) (W.frame _ _ _ st2 fun b q o e => ?_) (gd _ _ g1 fun b o _ q2 e => ?_) pv (Heap.get?_update_self _ hS2 rfl) fun v' g' tk' pv' keep' => ?_⟩
  · exact (Heap.get?_update_other _ _ (fun z : S = b => nf (z ▸ q))).trans e
  · exact (Heap.get?_update_other _ _ (Ne.symm q2)).trans e
  · exact hR v' g' tk' pv' fun b o q1 q2 e => keep' b o q1 q2 ((Heap.get?_update_other _ _ (Ne.symm q2)).trans (keep b o q1 e))
end
/-- the first of two tuples of one length is the greater one -/
noncomputable def lGt : List Int → List Int → Bool
  | x :: u, y :: v => if x = y then lGt u v else decide (x > y)
  | _, _ => false
noncomputable def eL (u v : List Int) (j : Nat) : Bool := u.getD j 0 == v.getD j 0
noncomputable def gL (u v : List Int) (j : Nat) : Bool := decide (u.getD j 0 > v.getD j 0)
theorem byFirst_l : ∀ {u v : List Int}, u.length = v.length → byFirst (eL u v) (gL u v) u.length 0 = lGt u v
  | [], [], _ => rfl
  | [], _ :: _, h => by simp at h
  | _ :: _, [], h => by simp at h
  | x :: u, y :: v, h => by
    rw [List.length_cons]
    unfold byFirst lGt
    rw [byFirst_succ _ _ (eL u v) (gL u v) (fun j => rfl) (fun j => rfl), byFirst_l (u := u) (v := v) (by simpa using h)]
    have e0 : eL (x :: u) (y :: v) 0 = (x == y) := rfl
    have l0 : gL (x :: u) (y :: v) 0 = decide (x > y) := rfl
    rw [e0, l0]
    by_cases e : x = y
    · rw [if_pos (by simpa using e), if_pos e]
    · rw [if_neg (by simpa using e), if_neg e]
/-- a tuple of whole numbers, in a heap -/
noncomputable def TuW (h : Heap) (v : Value) (u : List Int) : Prop := ∃ (a : Addr) (vs : List Value), v = .ref a ∧ h.IsTuple a vs.toArray ∧ vs.length = u.length ∧ ∀ (i : Nat) (x : Value) (k : Int), vs[i]? = some x → u[i]? = some k → ∃ t, x = .int k t
theorem TuW.keep {h h' : Heap} {v : Value} {u : List Int} (k : ∀ b o, h.get? b = some o → h'.get? b = some o) (p : TuW h v u) : TuW h' v u := by
  obtain ⟨a, vs, e, ⟨o, ho, hc⟩, hl, hat⟩ := p
  exact ⟨a, vs, e, ⟨o, k _ _ ho, hc⟩, hl, hat⟩
theorem tu_gtAt {A : Around} {s : Shared} {v v' : Value} {u u' : List Int} (hu : A.units + 16 < cLine) (h1 : TuW s.heap v u) (h2 : TuW s.heap v' u') (hl : u.length = u'.length) : GtAt A s v v' (lGt u u') := by
  obtain ⟨a, ps, rfl, ha, hpl, hat⟩ := h1
  obtain ⟨b, qs, rfl, hb, hql, hbt⟩ := h2
  have zs : ps.toArray.size = u.length := by rw [List.size_toArray]; exact hpl
  have zt : qs.toArray.size = u'.length := by rw [List.size_toArray]; exact hql
  have at1 : ∀ j (h : j < ps.toArray.size), ∃ t, ps.toArray[j] = .int (u.getD j 0) t := fun j h => by
    have hj : j < u.length := by omega
    obtain ⟨t, e⟩ := hat j ps[j] u[j] (List.getElem?_eq_getElem _) (List.getElem?_eq_getElem hj)
    refine ⟨t, ?_⟩
    rw [List.getD_eq_getElem?_getD, List.getElem?_eq_getElem hj]
    simpa using e
  have at2 : ∀ j (h : j < qs.toArray.size), ∃ t, qs.toArray[j] = .int (u'.getD j 0) t := fun j h => by
    have hj : j < u'.length := by omega
    obtain ⟨t, e⟩ := hbt j qs[j] u'[j] (List.getElem?_eq_getElem _) (List.getElem?_eq_getElem hj)
    refine ⟨t, ?_⟩
    rw [List.getD_eq_getElem?_getD, List.getElem?_eq_getElem hj]
    simpa using e
  have h := GtAt.tuples (A := A) (s := s) (e := eL u u') (lt := gL u u') ha hb (by omega) (by omega) (fun j h1 h2 => ?_) (fun j h1 h2 _ => ?_)
  · rw [zs, byFirst_l hl] at h
    exact h
  · obtain ⟨t1, e1⟩ := at1 j h1
    obtain ⟨t2, e2⟩ := at2 j h2
    rw [e1, e2]
    exact (MeetsSeq.EqGives.int _ _ t1 t2).at _ _
  · obtain ⟨t1, e1⟩ := at1 j h1
    obtain ⟨t2, e2⟩ := at2 j h2
    rw [e1, e2]
    exact GtAt.ints
theorem lGt_irrefl : ∀ u, lGt u u = false
  | [] => rfl
  | x :: u => by unfold lGt; rw [if_pos rfl]; exact lGt_irrefl u
theorem lGt_trans : ∀ {a b c : List Int}, lGt a b = true → lGt b c = true → lGt a c = true
  | [], _, _, h, _ => by unfold lGt at h; cases h
  | _ :: _, [], _, h, _ => by unfold lGt at h; cases h
  | _ :: _, _ :: _, [], _, h => by unfold lGt at h; cases h
  | x :: a, y :: b, z :: c, h1, h2 => by
    unfold lGt at h1 h2 ⊢
    by_cases e1 : x = y
    · subst e1
      rw [if_pos rfl] at h1
      by_cases e2 : x = z
      · rw [if_pos e2] at h2 ⊢; exact lGt_trans h1 h2
      · rw [if_neg e2] at h2 ⊢; exact h2
    · rw [if_neg e1] at h1
      by_cases e2 : y = z
      · subst e2
        rw [if_neg e1]; exact h1
      · rw [if_neg e2] at h2
        have h1' : x > y := of_decide_eq_true h1
        have h2' : y > z := of_decide_eq_true h2
        rw [if_neg (by omega)]
        exact decide_eq_true (by omega)
theorem argBest_most (us : Nat → List Int) : ∀ k j, j ≤ k → lGt (us j) (us (argBest (fun i j => lGt (us i) (us j)) k)) = false
  | 0, j, h => by
    have : j = 0 := by omega
    subst this; exact lGt_irrefl _
  | k + 1, j, h => by
    have ih := argBest_most us k
    unfold argBest
    by_cases hb : lGt (us (k + 1)) (us (argBest (fun i j => lGt (us i) (us j)) k)) = true
    · rw [if_pos hb]
      by_cases hj : j = k + 1
      · subst hj; exact lGt_irrefl _
      · cases z : lGt (us j) (us (k + 1)) with
        | false => rfl
        | true =>
          have := lGt_trans z hb
          rw [ih j (by omega)] at this; cases this
    · rw [if_neg hb]
      by_cases hj : j = k + 1
      · subst hj
        cases z : lGt (us (k + 1)) (us (argBest (fun i j => lGt (us i) (us j)) k)) with
        | false => rfl
        | true => exact absurd z hb
      · exact ih j (by omega)
section
variable {X : Cx} {pins : List (Addr × Obj)} {σ : St} {H : Hp} {s : Shared}
theorem vals_intsT : ∀ {u : List Int} {vs : List Value}, Vals (u.map V.int) vs → vs.length = u.length ∧ ∀ (i : Nat) (x : Value) (k : Int), vs[i]? = some x → u[i]? = some k → ∃ t, x = .int k t
  | [], [], _ => ⟨rfl, fun i x k e => by simp at e⟩
  | [], _ :: _, h => by cases h
  | _ :: _, [], h => by cases h
  | k :: u, v :: vs, h => by
    cases h with
    | cons h1 h2 =>
      obtain ⟨e, f⟩ := vals_intsT h2
      refine ⟨by rw [List.length_cons, List.length_cons, e], fun i x k' e1 e2 => ?_⟩
      cases i with
      | zero =>
        have e1' : v = x := Option.some.inj e1
        have e2' : k = k' := Option.some.inj e2
        subst e1' e2'
        exact h1
      | succ i => exact f i x k' e1 e2
theorem tu_tuw (I : Inv X pins σ H s) {a : Addr} {u : List Int} (h : H a = some (.tup (u.map V.int))) : TuW s.heap (.ref a) u := by
  obtain ⟨its, r, ht, _⟩ := I.tuple (SqT.of h)
  obtain ⟨e, f⟩ := vals_intsT r
  exact ⟨a, its, rfl, ht, e, f⟩
/-- min(xs): the first of the greatest tuples -/
theorem call_maxT (hc : X.calm = true) (hu : X.A.units + 64 < cLine) : CallR X (.builtin "max") (fun xs H Q => ∃ (p : Addr) (as : List Addr) (us : List (List Int)) (m : Nat), xs = [.ref p] ∧ H p = some (.lst (as.map V.ref)) ∧ as.length = us.length ∧ 0 < us.length ∧
    (∀ (i : Nat) (a : Addr) (u : List Int), as[i]? = some a → us[i]? = some u → u.length = m ∧ H a = some (.tup (u.map V.int))) ∧ ∀ (i : Nat) (a : Addr) (u : List Int), as[i]? = some a → us[i]? = some u → (∀ u' ∈ us, lGt u' u = false) → Q (.ref a) H) := by
  intro pins s σ H xs vs Q I r h
  obtain ⟨p, as, us, m, rfl, hp, hl, h0, hat, q⟩ := h
  obtain ⟨u, rfl, rx⟩ := vals1 r
  cases rx
  obtain ⟨its, r', pl, hz⟩ := I.list (SqL.of hp)
  obtain rfl := refs_are r'
  have hlt : p < s.heap.objs.size := by obtain ⟨_, e, _⟩ := pl.isList; exact Heap.lt_size e
  have nm : (toString "max" ++ toString ".loop" : String) = "max.loop" := by decide
  have hI : p ≠ s.heap.objs.size := Nat.ne_of_lt hlt
  have hsz : (s.heap.push { cls := .type "list_iterator", data := .fields #[.ref p, .int 0 0] }).objs.size = s.heap.objs.size + 1 := Heap.size_push ..
  have hn : (as.map Value.ref).toArray.size = us.length := by rw [List.size_toArray, List.length_map]; exact hl
  have val : ∀ i v, (as.map Value.ref).toArray[i]? = some v → ∃ (a : Addr) (u : List Int), v = Value.ref a ∧ as[i]? = some a ∧ us[i]? = some u := fun i v e => by
    rw [List.getElem?_toArray, List.getElem?_map] at e
    obtain ⟨a, ea, rfl⟩ := Option.map_eq_some_iff.mp e
    have hi : i < us.length := by have := (List.getElem?_eq_some_iff.mp ea).1; omega
    exact ⟨a, us[i], rfl, ea, List.getElem?_eq_getElem hi⟩
  refine kmk_tree PySem.F.kind_max PySem.F.plain_max PySem.F.entry_max (PySem.F.args_max1 _) ?_
  show wpAny _ X.A.in1 (Builtin.Builtins.bindParams "max" ["key", "default"] 0 ⟨[], []⟩ >>= _) _ _ s
  refine wpAny_bind (wpAny_of_eq (show Builtin.Builtins.bindParams "max" ["key", "default"] 0 ⟨[], []⟩ = pure [none, none] from rfl) (wpAny_bind (wpAny_pure ?_)))
  refine wpAny_bind (wpAny_pyIter_list pl.isList (wpAny_bind (wpAny_newObj_type ?_)))
  rw [nm]
  refine wpAny_pure ⟨plainId_quiet F.plain_max_loop _, gv_mg0 (Gd := fun h => ∀ b o, s.heap.get? b = some o → h.get? b = some o) (Walks.list (A := X.A.in1) (I.ok.hd hc) s.heap.objs.size p hI (as.map Value.ref).toArray) (fun i j => lGt ((us[i]?).getD []) ((us[j]?).getD [])) (fun i j vi vj s' gd hi hj => ?_) ?_ (fun h h' g k b o e => ?_) ?_ (fun b o e => Heap.get?_push_of_some _ (Heap.get?_push_of_some _ e)) (by omega) (Heap.get?_push_size _ rfl) ?_⟩
  · obtain ⟨a, u, rfl, ea, eu⟩ := val i vi hi
    obtain ⟨b, v, rfl, eb, ev⟩ := val j vj hj
    obtain ⟨l1, P1⟩ := hat i a u ea eu
    obtain ⟨l2, P2⟩ := hat j b v eb ev
    dsimp only
    rw [eu, ev]
    exact tu_gtAt (by show X.A.units + 1 + 16 < cLine; omega) ((tu_tuw I P1).keep gd) ((tu_tuw I P2).keep gd) (l1.trans l2.symm)
  · intro z
    rw [hsz] at z
    rcases List.mem_cons.mp z with z | z
    · exact absurd z (Nat.ne_of_gt (Nat.lt_succ_self _))
    · have z' := List.mem_singleton.mp z
      exact absurd z'.symm (Nat.ne_of_lt (Nat.lt_succ_of_lt hlt))
  · refine k b o (fun z => ?_) (fun z => ?_) (g b o e)
    · rw [List.mem_singleton.mp z] at e; exact absurd (Heap.lt_size e) (Nat.lt_irrefl _)
    · rw [z, hsz] at e; exact absurd (Nat.lt_of_succ_lt (Heap.lt_size e)) (Nat.lt_irrefl _)
  · exact ⟨⟨_, Heap.get?_push_of_some _ (Heap.get?_push_size _ rfl), rfl, rfl⟩, (pl.isList.push _).push _⟩
  · intro v g tk hv keep
    have J' : Inv X pins σ H { s with heap := g, toks := tk } := by
      refine I.kept fun b o e => keep b o (fun z => ?_) (fun z => ?_) (Heap.get?_push_of_some _ (Heap.get?_push_of_some _ e))
      · rw [List.mem_singleton.mp z] at e; exact absurd (Heap.lt_size e) (Nat.lt_irrefl _)
      · rw [z, hsz] at e; exact absurd (Nat.lt_of_succ_lt (Heap.lt_size e)) (Nat.lt_irrefl _)
    obtain ⟨a, u, rfl, ea, eu⟩ := val _ v hv
    refine ⟨.ref a, H, J', rfl, q _ a u ea eu fun u' hu' => ?_⟩
    obtain ⟨j, hj, rfl⟩ := List.mem_iff_getElem.mp hu'
    have := argBest_most (fun i => (us[i]?).getD []) ((as.map Value.ref).toArray.size - 1) j (by omega)
    rw [eu, List.getElem?_eq_getElem hj] at this
    exact this
end
end L2


set_option Elab.async false
set_option linter.all false
set_option maxRecDepth 100000
/-! dict(xs) of a list of pairs -/
namespace L2
open PySem PySem.Spec PyProof.Rows PySem.W
theorem keys_miss : typeLookup (.type "list") "keys" = pure none := by rw [typeLookup_type, builtinLookup_eq_fast]; kernel_rfl
theorem list_ga_none : typeLookup (.type "list") "__getattr__" = pure none := by rw [typeLookup_type, builtinLookup_eq_fast]; kernel_rfl
section
variable {prog : Program} {w : World} {A : Around} {E : Value → Shared → Prop} {s : Shared} {a : Addr}
theorem meets_miss_list (its : Array Value) (n : Nat) (u : Tok) : Meets (Builtin.«object.__getattribute__» ⟨[.ref a, .str "keys" u], []⟩) (fun A R s => s.heap.get? a = some { cls := .type "list", data := .seq its n } ∧ raisesAttr (.ref a) "keys" A R s) :=
  Meets.of_wp fun prog w A R s hs => by
    obtain ⟨hp, g, d, tk, os⟩ := s
    obtain ⟨hx, hs⟩ := hs
    have hT : ∀ tk', (⟨hp, g, d, tk', os⟩ : Shared).TypeIs (.ref a) "list" := fun _ => ⟨_, hx, rfl⟩
    have f1 := keys_miss
    unfold Builtin.«object.__getattribute__»
    repeat (any_goals (first | assumption | wp_step))
    exact wpAny_raiseAttrError hs.1 hs.2 (attrMsg_fits (by decide +kernel) (by size_fits))
theorem keys_none {Q : Option Value → Shared → Prop} {its : Array Value} {n : Nat} (hx : s.heap.get? a = some { cls := .type "list", data := .seq its n }) (hA : A.handled = none) (h : ∀ h' tk, (∀ b o, s.heap.get? b = some o → h'.get? b = some o) → Q none { s with heap := h', toks := tk }) : wpAny (model prog w) A (getAttr? (.ref a) "keys") Q E s := by
  obtain ⟨hp, g, d, tk, os⟩ := s
  have hT : ∀ tk', (⟨hp, g, d, tk', os⟩ : Shared).TypeIs (.ref a) "list" := fun _ => ⟨_, hx, rfl⟩
  have f1 := sub_AttributeError
  have f3 := F.slot_list_getattribute.lookup
  have f4 := F.slot_list_getattribute.bind (.ref a)
  have f5 := list_ga_none
  unfold getAttr? getAttrBy? getAttrBy
  repeat (any_goals (first | assumption | ((with_reducible show wpAny _ _ (call (Value.builtin "list.__getattribute__") _ _) _ _ _); refine call_meets F.slot_list_getattribute (hT _) F.entry_list_ga (F.args_list_getattribute_2 _ _) (meets_miss_list its n _) ⟨hx, hA, fun h' tk' e hx => ?_⟩) | wp_step))
  obtain ⟨t', u', he⟩ := hx.there
  have hTe : ∀ tk', (⟨h', g, d, tk', os⟩ : Shared).TypeIs (.ref e) "AttributeError" := fun _ => ⟨_, he, rfl⟩
  show wpAny _ _ (getattributeRaised _ _ _ _ _ _ _) _ _ _
  unfold getattributeRaised
  repeat (any_goals (first | assumption | wp_step))
  exact h _ _ hx.keeps
end
theorem entry_upd_loop : entryFor table "dict.update.loop" = some Builtin.«dict.update.loop» := entryFor_of_tree (by kernel_rfl)
theorem plain_upd_loop : plainId "dict.update.loop" = true := by decide +kernel
section
variable {prog : Program} {w : World} {A : Around} {R : Result → Shared → Prop} {I : Addr} {fp wr : List Addr} {n : Nat} {P : Nat → Value → Prop} {St' : Nat → Heap → Prop} {K : Type} [DecidableEq K] {knd : KeyKind prog w K}
theorem stored_new {kvs : List (K × Value)} {k : K} {v : Value} (h : k ∉ kvs.map (·.1)) : stored kvs k v = kvs ++ [(k, v)] := by
  unfold stored
  rw [if_neg]
  intro z
  obtain ⟨x, hx, e⟩ := List.any_eq_true.mp z
  exact h (List.mem_map.mpr ⟨x, hx, of_decide_eq_true e⟩)
theorem upd_loop (W : Walks prog w A.in1 I fp wr n P St') {S : Addr} (nf : S ∉ fp) {Gd : Heap → Prop} (gd : ∀ h h', Gd h → (∀ b o, b ∉ wr → b ≠ S → h.get? b = some o → h'.get? b = some o) → Gd h') (kv : List (K × Value)) (hn : kv.length = n) (nd : (kv.map (·.1)).Nodup)
    (val : ∀ i v h, Gd h → P i v → ∃ T key x k, v = .ref T ∧ h.IsTuple T #[key, x] ∧ kv[i]? = some (k, x) ∧ knd.is k key = true) (hsz : n ≤ sizeLine) :
    ∀ (k i : Nat) (s : Shared), i + k = n → St' i s.heap → Gd s.heap → s.heap.DictOf knd S (kv.take i) →
      (∀ h' tk, h'.DictOf knd S kv → (∀ b o, b ∉ wr → b ≠ S → s.heap.get? b = some o → h'.get? b = some o) → R (.ok (.ret .none)) { s with heap := h', toks := tk }) →
      codeAny (model prog w) A (.builtin "dict.update.loop" ⟨[.ref S, .ref I, rawInt i, .none], []⟩) R s := by
  have nw : S ∉ wr := fun z => nf (W.sub _ z)
  intro k
  induction k with
  | zero =>
    intro i s e0 st g0 hd hR
    have e1 : i = n := by omega
    subst e1
    refine codeAny_builtin entry_upd_loop ?_
    rw [Around.under_plainId plain_upd_loop _]
    show wpAny _ A.in1 (pyNext (.ref I) >>= _) _ _ s
    refine wpAny_bind (W.done s _ _ st fun g tk keep => ?_)
    show wpAny _ A.in1 (Builtin.Dict.addKeywords S [] >>= fun _ => ret Value.none) _ _ _
    refine wpAny_bind (wpAny_of_eq (show Builtin.Dict.addKeywords S [] = pure () from rfl) ?_)
    refine wpAny_pure (hR g tk ?_ fun b o q1 q2 e => keep b o q1 e)
    rw [← hn, List.take_length] at hd
    obtain ⟨o, es, ep, ho, r⟩ := hd
    exact ⟨o, es, ep, keep S o nw ho, r⟩
  | succ k ih =>
    intro i s e0 st g0 hd hR
    refine codeAny_builtin entry_upd_loop ?_
    rw [Around.under_plainId plain_upd_loop _]
    show wpAny _ A.in1 (pyNext (.ref I) >>= _) _ _ s
    refine wpAny_bind (W.item i s _ _ (by omega) st fun v g tk pv st2 keep => ?_)
    have g1 : Gd g := gd _ _ g0 fun b o q1 _ e => keep b o q1 e
    obtain ⟨T, key, x, kk, rfl, ⟨o, ho, hc, m, hdt⟩, hkv, hkey⟩ := val i v g g1 pv
    have hd1 : g.DictOf knd S (kv.take i) := by
      obtain ⟨o, es, ep, ho, r⟩ := hd
      exact ⟨o, es, ep, keep S o nw ho, r⟩
    have hi : i < kv.length := (List.getElem?_eq_some_iff.mp hkv).1
    have hnew : kk ∉ (kv.take i).map (·.1) := by
      intro hm
      obtain ⟨y, hy, ey⟩ := List.mem_map.mp hm
      obtain ⟨j, hj, e⟩ := List.mem_iff_getElem.mp hy
      rw [List.length_take] at hj
      rw [List.getElem_take] at e
      have e2 : (kv.map (·.1))[j]? = some kk := by rw [List.getElem?_map, List.getElem?_eq_getElem (by omega), e]; exact congrArg some ey
      have e3 : (kv.map (·.1))[i]? = some kk := by rw [List.getElem?_map, hkv]; rfl
      have := (List.getElem?_inj (i := j) (j := i) (by rw [List.length_map]; omega) nd).mp (by rw [e2, e3])
      omega
    have hT : ∀ tk', (⟨g, s.gens, s.drawn, tk', s.os⟩ : Shared).TypeIs (.ref T) "tuple" := fun _ => ⟨_, ho, hc⟩
    show wpAny _ A.in1 (holding [Value.ref T] _ >>= _) _ _ _
    refine wpAny_bind (wpAny_holding ?_)
    refine wpAny_bind (wpAny_tryCatch ?_)
    unfold Builtin.Dict.pairItems
    refine wpAny_bind (wpAny_typeOf (hT _) ?_)
    rw [if_pos (by decide)]
    refine wpAny_bind (wpAny_seqItems (s := { s with heap := g, toks := tk }) ho hdt (wpAny_pure ?_))
    show wpAny _ A.in1 (holding [key, x] (dictSet S key x)) _ _ _
    refine wpAny_holding (wpAny_dictSet_pairs (knd := knd) hkey hd1 (fun h' hd' hs => ?_) (by rw [List.length_take]; omega))
    rw [stored_new hnew] at hd'
    have et : kv.take i ++ [(kk, x)] = kv.take (i + 1) := by rw [List.take_add_one, hkv]; rfl
    rw [et] at hd'
    have hk2 : ∀ b o, b ≠ S → g.get? b = some o → h'.get? b = some o := fun b o hb e => (hs.2 b hb).trans e
    refine wpAny_pure ⟨plainId_quiet plain_upd_loop _, ?_⟩
    have ei : rawInt ((i : Int) + 1) = rawInt ((i + 1 : Nat) : Int) := by push_cast; rfl
    rw [ei]
    refine ih (i + 1) _ (by omega) (W.frame _ _ _ st2 fun b q o e => hk2 b o (fun z => nf (z ▸ q)) e) (gd _ _ g1 fun b o _ q2 e => hk2 b o q2 e) hd' fun h'' tk'' hd'' keep'' => ?_
    exact hR h'' tk'' hd'' fun b o q1 q2 e => keep'' b o q1 q2 (hk2 b o q2 (keep b o q1 e))
end
section
variable {prog : Program} {w : World} {K : Type} [DecidableEq K] {knd : KeyKind prog w K} {A : Around} {E : Value → Shared → Prop} {s : Shared}
theorem call_dict_pairs {a : Addr} {its : Array Value} {c : Nat} {kv : List (K × Value)} {Q : Value → Shared → Prop} (hx : s.heap.get? a = some { cls := .type "list", data := .seq its c }) (hA : A.handled = none)
    (hn : kv.length = its.size) (nd : (kv.map (·.1)).Nodup) (val : ∀ (i : Nat) (v : Value), its[i]? = some v → ∃ (T : Addr) (key x : Value) (k : K), v = .ref T ∧ s.heap.IsTuple T #[key, x] ∧ kv[i]? = some (k, x) ∧ knd.is k key = true) (hsz : kv.length ≤ sizeLine)
    (h : ∀ h' tk, h'.DictOf knd s.heap.objs.size kv → (∀ b o, s.heap.get? b = some o → h'.get? b = some o) → Q (.ref s.heap.objs.size) { s with heap := h', toks := tk }) :
    wpAny (model prog w) A (call (.type "dict") [.ref a]) Q E s := by
  refine callType_codes (Q₁ := fun obj s₁ => obj = .ref s.heap.objs.size ∧ s₁ = { s with heap := s.heap.push { cls := .type "dict", data := .dict #[] } }) F.kt_called_dict (F.kt_typeCall_dict_1 _) F.entry_dict_init (kt_code_dict_new _ ⟨rfl, rfl⟩) ?_
  rintro obj s₁ ⟨rfl, rfl⟩
  have hnew : (s.heap.push { cls := .type "dict", data := .dict #[] }).DictOf knd s.heap.objs.size [] := Heap.DictOf.new s.heap
  have hx1 : (s.heap.push { cls := .type "dict", data := .dict #[] }).get? a = some { cls := .type "list", data := .seq its c } := Heap.get?_push_of_some _ hx
  have alt : a < s.heap.objs.size := Heap.lt_size hx
  have hsz' : its.size ≤ sizeLine := by rw [← hn]; exact hsz
  refine ⟨hnew.typeIs, F.args_dict_init_2 _ _, ?_⟩
  unfold Builtin.«dict.__init__»
  refine wpAny_bind ?_
  unfold Builtin.Dict.selfAndRest
  refine wpAny_bind (wpAny_notOrdered_dict hnew.typeIs ?_)
  show wpAny _ _ (pure (s.heap.objs.size, [Value.ref a])) _ _ _
  refine wpAny_pure ?_
  show wpAny _ _ (Builtin.Dict.updateFrom "dict.__init__" s.heap.objs.size (.ref a) [] .none) _ _ _
  unfold Builtin.Dict.updateFrom
  refine wpAny_bind (wpAny_typeOf (T := "list") ⟨_, hx1, rfl⟩ ?_)
  rw [if_pos (by decide)]
  refine wpAny_bind (keys_none hx1 hA fun h1 tk1 k1 => ?_)
  rw [if_pos (by decide)]
  have hS1 : h1.get? s.heap.objs.size = some { cls := .type "dict", data := .dict #[] } := k1 _ _ (Heap.get?_push_size _ rfl)
  have hd1 : h1.DictOf knd s.heap.objs.size [] := by
    obtain ⟨o, es, ep, ho, r⟩ := hnew
    exact ⟨o, es, ep, k1 _ _ ho, r⟩
  have hx2 := k1 _ _ hx1
  have hL : h1.IsList a its := ⟨_, hx2, rfl, c, rfl⟩
  have slt : s.heap.objs.size < h1.objs.size := Heap.lt_size hS1
  have old : ∀ b o, s.heap.get? b = some o → h1.get? b = some o := fun b o e => k1 b o (Heap.get?_push_of_some _ e)
  refine wpAny_bind (wpAny_rule ?_)
  refine wpAny_bind (wpAny_pyIter_list hL ?_)
  refine wpAny_pure ⟨plainId_quiet plain_upd_loop _, upd_loop (A := A.in1) (knd := knd) (Gd := fun h => ∀ b o, s.heap.get? b = some o → h.get? b = some o) (Walks.list (A := A.in1.in1) hA h1.objs.size a (Nat.ne_of_lt (Nat.lt_trans alt slt)) its) (S := s.heap.objs.size) ?nf ?gd kv hn nd ?val hsz' kv.length 0 _ (by omega) ?st ?g0 ?d0 ?fin⟩
  case nf =>
    intro z
    rcases List.mem_cons.mp z with z | z
    · exact absurd z (Nat.ne_of_lt slt)
    · exact absurd (List.mem_singleton.mp z).symm (Nat.ne_of_lt alt)
  case gd =>
    intro h h' g k b o e
    have hb := Heap.lt_size e
    refine k b o (fun z => ?_) (fun z => ?_) (g b o e)
    · rw [List.mem_singleton.mp z] at hb; exact absurd (Nat.lt_trans hb slt) (Nat.lt_irrefl _)
    · rw [z] at hb; exact absurd hb (Nat.lt_irrefl _)
  case val =>
    intro i v h g hv
    obtain ⟨T, key, x, k, rfl, ⟨o, ho, r⟩, e1, e2⟩ := val i v hv
    exact ⟨T, key, x, k, rfl, ⟨o, g _ _ ho, r⟩, e1, e2⟩
  case st => exact ⟨⟨_, Heap.get?_push_size _ rfl, rfl, rfl⟩, hL.push _⟩
  case g0 => exact fun b o e => Heap.get?_push_of_some _ (old b o e)
  case d0 =>
    obtain ⟨o, es, ep, ho, r⟩ := hd1
    exact ⟨o, es, ep, Heap.get?_push_of_some _ ho, r⟩
  case fin =>
    intro h' tk hd keep
    refine ⟨rfl, h h' tk hd fun b o e => ?_⟩
    have hb := Heap.lt_size e
    refine keep b o (fun z => ?_) (fun z => ?_) (Heap.get?_push_of_some _ (old b o e))
    · rw [List.mem_singleton.mp z] at hb; exact absurd (Nat.lt_trans hb slt) (Nat.lt_irrefl _)
    · rw [z] at hb; exact absurd hb (Nat.lt_irrefl _)
end
section
variable {X : Cx} {pins : List (Addr × Obj)} {σ : St} {H : Hp} {s : Shared}
theorem kv_ints : ∀ {xs : List (Nat × Int)} {vs : List (Key × Value)}, vs.length = xs.length → (∀ (i : Nat) (x : Nat × Int) (p : Key × Value), xs[i]? = some x → vs[i]? = some p → p.1 = Sum.inl (x.1 : Int) ∧ ∃ t, p.2 = .int x.2 t) → KV (xs.map fun x => ((Sum.inl (x.1 : Int) : Key), V.int x.2)) vs
  | [], [], _, _ => .nil
  | x :: xs, p :: vs, hl, h => by
    obtain ⟨e1, t, e2⟩ := h 0 x p rfl rfl
    exact .cons ⟨e1.symm, t, e2⟩ (kv_ints (by simpa using hl) fun i y q a b => h (i + 1) y q a b)
  | [], _ :: _, hl, _ => by simp at hl
  | _ :: _, [], hl, _ => by simp at hl
/-- dict(xs): of a list of tuples with unlike first parts -/
theorem call_dictP (hc : X.calm = true) : CallR X (.type "dict") (fun us H Q => ∃ (l : Addr) (xs : List (Nat × Int)) (ps : List Addr), us = [.ref l] ∧ Pairs H l xs ps ∧ (xs.map Prod.fst).Nodup ∧ xs.length ≤ 1000 ∧
    ∀ p, H p = none → Q (.ref p) (upd H p (.dK (xs.map fun x => ((Sum.inl (x.1 : Int) : Key), V.int x.2))))) := by
  intro pins s σ H vs us Q I r h
  obtain ⟨l, xs, ps, rfl, hP, nd, hz, q⟩ := h
  obtain ⟨u, rfl, rx⟩ := vals1 r
  cases rx
  obtain ⟨z, its, c, rv, hl, e⟩ := I.lstM hP.1
  obtain rfl := refs_are rv
  have hpl := hP.2.1
  have tup : ∀ i (hi : i < xs.length), ∃ t t', s.heap.IsTuple (ps[i]'(by omega)) #[.int (xs[i]'hi).1 t, .int (xs[i]'hi).2 t'] := fun i hi =>
    tup_items I (hP.2.2 i _ _ (List.getElem?_eq_getElem (by omega)) (List.getElem?_eq_getElem hi))
  obtain ⟨kv, kvl, kvi⟩ : ∃ kv : List (Key × Value), kv.length = xs.length ∧ ∀ i (hi : i < xs.length), kv[i]? = some (Sum.inl (((xs[i]'hi).1 : Nat) : Int), Value.int (xs[i]'hi).2 (tup i hi).choose_spec.choose) := by
    refine ⟨List.ofFn fun i : Fin xs.length => (Sum.inl (((xs[i.1]'i.2).1 : Nat) : Int), Value.int (xs[i.1]'i.2).2 (tup i.1 i.2).choose_spec.choose), List.length_ofFn, fun i hi => ?_⟩
    rw [List.getElem?_ofFn, dif_pos hi]
  have kvn : (kv.map (·.1)).Nodup := by
    have ek : kv.map (·.1) = (xs.map Prod.fst).map fun b : Nat => (Sum.inl ((b : Nat) : Int) : Key) := by
      refine List.ext_getElem? fun i => ?_
      rw [List.getElem?_map, List.getElem?_map, List.getElem?_map]
      by_cases hi : i < xs.length
      · rw [kvi i hi, List.getElem?_eq_getElem hi]; rfl
      · rw [List.getElem?_eq_none (l := kv) (by omega), List.getElem?_eq_none (l := xs) (by omega)]; rfl
    rw [ek, List.nodup_iff_pairwise_ne, List.pairwise_map]
    rw [List.nodup_iff_pairwise_ne] at nd
    exact nd.imp fun hne y => hne (by have := Sum.inl.inj y; omega)
  refine call_dict_pairs (knd := mixKind X.prog X.w) (kv := kv) e (I.ok.hd hc) (by rw [kvl, List.size_toArray, List.length_map, hpl]) kvn (fun i v hv => ?_) (by rw [kvl]; exact Nat.le_of_lt (small1000 hz)) fun h' tk' hd keep => ?_
  · rw [List.getElem?_toArray, List.getElem?_map] at hv
    obtain ⟨p, hp, rfl⟩ := Option.map_eq_some_iff.mp hv
    have hi : i < xs.length := by have := (List.getElem?_eq_some_iff.mp hp).1; omega
    have ep : ps[i]'(by omega) = p := (List.getElem?_eq_some_iff.mp hp).2
    subst ep
    exact ⟨_, _, _, _, rfl, (tup i hi).choose_spec.choose_spec, kvi i hi, mixKind_int X.prog X.w _ _⟩
  · refine ⟨.ref s.heap.objs.size, _, I.laid (a := s.heap.objs.size) (o := .dK (xs.map fun x => ((Sum.inl (x.1 : Int) : Key), V.int x.2))) keep (Nat.le_refl _) (dk_new ?_ (beq_eq_false_iff_ne.mpr (Ne.symm (Nat.ne_of_lt I.big))) ?_ hd), rfl, q _ (I.hok.fresh (Nat.le_refl _))⟩
    · rw [List.length_map]; exact Nat.le_of_lt (small1000 hz)
    · refine kv_ints kvl fun i x p e1 e2 => ?_
      have hi : i < xs.length := (List.getElem?_eq_some_iff.mp e1).1
      have ex : xs[i]'hi = x := (List.getElem?_eq_some_iff.mp e1).2
      rw [kvi i hi] at e2
      cases e2
      subst ex
      exact ⟨rfl, _, rfl⟩
end
end L2


set_option Elab.async false
set_option linter.all false
set_option maxRecDepth 100000
/-! winners and pays: amounts, ranks, the first choice; lists of halls turned, one taken out; tuples of whole numbers -/
namespace GP
open L2
noncomputable def amtOf (o : Off) (b : Nat) : Int := ((o.find? fun c => decide (c.1 = b)).map Prod.snd).getD 0
/-- offers of unlike bundles, none of them of nothing -/
noncomputable def GoodO (o : Off) : Prop := (o.map Prod.fst).Nodup ∧ ∀ c ∈ o, 0 < c.1
theorem amt_zero {o : Off} (h : GoodO o) : amtOf o 0 = 0 := by
  unfold amtOf
  rw [List.find?_eq_none.mpr fun c hc => by
    have := h.2 c hc
    simp only [decide_eq_true_eq]; omega]
  rfl
theorem amt_mem {o : Off} {c : Nat × Int} (h : GoodO o) (hc : c ∈ o) : amtOf o c.1 = c.2 := by
  have key : ∀ o : Off, (o.map Prod.fst).Nodup → c ∈ o → (o.find? fun d => decide (d.1 = c.1)) = some c := by
    intro o
    induction o with
    | nil => intro _ hc; cases hc
    | cons d o ih =>
      intro nd hc
      rw [List.map_cons, List.nodup_cons] at nd
      by_cases e : d.1 = c.1
      · rw [List.find?_cons_of_pos (by simp [e])]
        rcases List.mem_cons.mp hc with rfl | hc
        · rfl
        · exact absurd (List.mem_map.mpr ⟨c, hc, e.symm⟩) nd.1
      · rw [List.find?_cons_of_neg (by simp [e])]
        rcases List.mem_cons.mp hc with rfl | hc
        · exact absurd rfl e
        · exact ih nd.2 hc
  unfold amtOf
  rw [key o h.1 hc]; rfl
theorem way_opt_from : ∀ {tk : Nat} {os : List Off} {w : List (Nat × Int)}, IsWay tk os w → ∀ {i : Nat} {o : Off} {c : Nat × Int}, os[i]? = some o → w[i]? = some c → Opt (tk ||| taken (w.take i)) o c
  | tk, o :: os, c :: cs, h, 0, o', c', ho, hc => by
    have e1 : o = o' := Option.some.inj ho
    have e2 : c = c' := Option.some.inj hc
    subst e1 e2
    show Opt (tk ||| 0) o c
    rw [Nat.or_zero]; exact h.1
  | tk, o :: os, c :: cs, h, i + 1, o', c', ho, hc => by
    have z := way_opt_from h.2 (i := i) (o := o') (c := c') ho hc
    rw [List.take_succ_cons, taken_cons, ← Nat.or_assoc]; exact z
  | _, [], _, _, _, _, _, ho, _ => by simp at ho
  | _, _ :: _, [], h, _, _, _, _, _ => h.elim
theorem way_opt {os : List Off} {w : List (Nat × Int)} (h : IsWay 0 os w) {i : Nat} {o : Off} {c : Nat × Int} (ho : os[i]? = some o) (hc : w[i]? = some c) : Opt (taken (w.take i)) o c := by
  have z := way_opt_from h ho hc
  rwa [Nat.zero_or] at z
theorem way_amt {os : List Off} {w : List (Nat × Int)} (h : IsWay 0 os w) {i : Nat} {o : Off} {c : Nat × Int} (ho : os[i]? = some o) (hc : w[i]? = some c) (g : GoodO o) : amtOf o c.1 = c.2 := by
  rcases way_opt h ho hc with rfl | ⟨z, _⟩
  · exact amt_zero g
  · exact amt_mem g z
theorem first_nil (tk : Nat) : IsFirst tk [] [] := ⟨trivial, fun w hw => by
  match w, hw with
  | [], _ => exact Int.le_refl _
  | _ :: _, hw => exact hw.elim, fun w _ _ => trivial⟩
theorem or_free : ∀ n < 7, ∀ t < 2 ^ n, ∀ c < 2 ^ n, t &&& c = 0 → 2 ^ n - 1 - t - c = 2 ^ n - 1 - (t ||| c) ∧ t ||| c < 2 ^ n := by decide +kernel
noncomputable def rank (n : Nat) (os : List Off) (f : Nat) (c : Nat × Int) : List Int := [c.2 + (tabW n os).getD (f - c.1) 0, c.2, -(c.1 : Int)]
theorem rank_gt {n : Nat} {os : List Off} {f : Nat} {c d : Nat × Int} (h : lGt (rank n os f d) (rank n os f c) = false) :
    d.2 + (tabW n os).getD (f - d.1) 0 ≤ c.2 + (tabW n os).getD (f - c.1) 0 ∧ (d.2 + (tabW n os).getD (f - d.1) 0 = c.2 + (tabW n os).getD (f - c.1) 0 → c = d ∨ clt c d) := by
  unfold rank at h
  generalize d.2 + (tabW n os).getD (f - d.1) 0 = x at h ⊢
  generalize c.2 + (tabW n os).getD (f - c.1) 0 = y at h ⊢
  simp only [lGt] at h
  by_cases e : x = y
  · refine ⟨by omega, fun _ => ?_⟩
    rw [if_pos e] at h
    unfold clt
    by_cases e2 : d.2 = c.2
    · rw [if_pos e2] at h
      by_cases e3 : (-(d.1 : Int)) = -(c.1 : Int)
      · exact .inl (Prod.ext (by omega) e2.symm)
      · rw [if_neg e3, decide_eq_false_iff_not] at h
        exact .inr (.inr ⟨e2.symm, by omega⟩)
    · rw [if_neg e2, decide_eq_false_iff_not] at h
      exact .inr (.inl (by omega))
  · rw [if_neg e, decide_eq_false_iff_not] at h
    exact ⟨by omega, fun z => absurd z e⟩
theorem pick_first {n : Nat} {o : Off} {os : List Off} {f : Nat} (hn : n < 7) (hf : f < 2 ^ n) (hp : ∀ c ∈ o, c.1 < 2 ^ n) : ∀ c ∈ choices o f, (∀ d ∈ choices o f, lGt (rank n os f d) (rank n os f c) = false) →
    c.2 + bestW ((2 ^ n - 1 - f) ||| c.1) os = bestW (2 ^ n - 1 - f) (o :: os) ∧ ∀ d ∈ choices o f, d.2 + bestW ((2 ^ n - 1 - f) ||| d.1) os = bestW (2 ^ n - 1 - f) (o :: os) → c = d ∨ clt c d := by
  intro c hc hb
  have ev : ∀ d ∈ choices o f, (tabW n os).getD (f - d.1) 0 = bestW ((2 ^ n - 1 - f) ||| d.1) os := fun d hd => choice_val hn hf hp hd
  have e1 : c.2 + bestW ((2 ^ n - 1 - f) ||| c.1) os = bestW (2 ^ n - 1 - f) (o :: os) := by
    obtain ⟨d, hd, e⟩ := best_some (2 ^ n - 1 - f) o os
    have hm := (opt_choices hn hf hp).mpr hd
    have h1 := (rank_gt (hb d hm)).1
    have h2 := best_le (os := os) ((opt_choices hn hf hp).mp hc)
    rw [ev d hm, ev c hc] at h1
    omega
  refine ⟨e1, fun d hd he => ?_⟩
  refine (rank_gt (hb d hd)).2 ?_
  rw [ev d hd, ev c hc, he, e1]
theorem OffOk.good {n m : Nat} {o : Off} (h : OffOk n m o) : GoodO o := by
  refine ⟨?_, fun c hc => (h.part c hc).1⟩
  have hr := h.rise
  rw [List.nodup_iff_pairwise_ne, List.pairwise_map]
  exact hr.imp fun z => Nat.ne_of_lt z
theorem set_ok {os : List Off} {P : Off → Prop} {i : Nat} (h : ∀ o ∈ os, P o) (h0 : P []) : ∀ o ∈ os.set i [], P o := fun o ho => by
  rcases List.mem_or_eq_of_mem_set ho with z | rfl
  · exact h o z
  · exact h0
end GP
namespace L2
open PySem PySem.Spec PyProof.Rows
theorem isD_dK {H : Hp} {a : Addr} {kvs : List (Key × V)} (e : H a = some (.dK kvs)) : IsD H a := .inl ⟨_, .inl e⟩
theorem valV_amt {b : Nat} : ∀ {o : List (Nat × Int)}, (valV (o.map fun x => ((Sum.inl (x.1 : Int) : Key), V.int x.2)) (Sum.inl (b : Int))).getD (V.int 0) = V.int (GP.amtOf o b)
  | [] => rfl
  | x :: o => by
    unfold valV GP.amtOf
    rw [List.map_cons]
    by_cases e : x.1 = b
    · rw [List.find?_cons_of_pos (by simp [e]), List.find?_cons_of_pos (by simp [e])]; rfl
    · rw [List.find?_cons_of_neg (by simp; omega), List.find?_cons_of_neg (by simp [e])]
      exact valV_amt (o := o)
/-- the first part of a tuple, where it is an address -/
noncomputable def fstRef (H : Hp) (t : Addr) : Addr :=
  match H t with
  | some (.tup (.ref a :: _)) => a
  | _ => t
theorem fstRef_eq {H : Hp} {t a : Addr} {r : List V} (h : H t = some (.tup (.ref a :: r))) : fstRef H t = a := by
  unfold fstRef; rw [h]
theorem PL.same {H H' : Hp} {a : Addr} {u : List (Int × Int)} (h : PL H a u) (S : Same H H') : PL H' a u := by
  obtain ⟨ps, h1, h2, h3⟩ := h
  exact ⟨ps, S _ _ h1, h2, fun i p x e1 e2 => S _ _ (h3 i p x e1 e2)⟩
noncomputable def plV (z : Addr × (Int × Int)) : V := .ref z.1
theorem pl_zip {H : Hp} {a : Addr} {u : List (Int × Int)} (h : PL H a u) : ∃ zs : List (Addr × (Int × Int)), H a = some (.lst (zs.map plV)) ∧ zs.map Prod.snd = u ∧ ∀ z ∈ zs, H z.1 = some (.tup [.int z.2.1, .int z.2.2]) := by
  obtain ⟨ps, h1, h2, h3⟩ := h
  refine ⟨ps.zip u, ?_, List.map_snd_zip (by omega), fun z hz => ?_⟩
  · rw [h1]
    congr 2
    have : (ps.zip u).map plV = ((ps.zip u).map Prod.fst).map V.ref := by rw [List.map_map]; rfl
    rw [this, List.map_fst_zip (by omega)]
  · obtain ⟨i, hi⟩ := List.mem_iff_getElem?.mp hz
    rw [List.getElem?_zip_eq_some] at hi
    exact h3 i z.1 z.2 hi.1 hi.2
section
variable {X : Cx}
end
theorem comp_enum2 {K : PySem.W.Frag} {fr : List Nat} {tt : TT} {te : TE} {σ : St} {Q : VK} {H1 : Hp} {l : Addr} {a : Addr} {xs : List V} (Pv : Nat → Hp → Prop) (h0 : Pv 0 (upd H1 l (.lst []))) (hl : ∀ k H, k ≤ xs.length → Pv k H → SqL K H a xs)
    (hs : ∀ (k : Nat) x p H, xs[k]? = some x → Pv k H → H p = none → Turn2 fr tt te σ l (.int k) x (upd H p (.tup [.int k, x])) (Pv (k + 1))) (hd : ∀ H, Pv xs.length H → Q (.ref l) H) :
    CompGoal (Ite K a) 2 (gTup K 2 (gCons (gName 0) (gCons (gName 1) gNil))) fr tt te σ Q H1 l :=
  comp_by2 xs.length Pv h0 (fun k H h p => ⟨xs, xs[k], hl k H (Nat.le_of_lt h) p, by simp [h]⟩) (fun H p => ⟨xs, hl _ H (Nat.le_refl _) p, Nat.le_refl _⟩)
    (fun k H v H' hk p hy => by
      obtain ⟨q, x, rfl, hn, rfl, h1⟩ := hy
      exact ⟨q, .int k, x, rfl, SqT.of upd_same, hs k x q H (h1 _ (hl k H (Nat.le_of_lt hk) p)) p hn⟩) hd
namespace R
section
variable {X : Cx} {e : Expr} {te : TE}
end
end R
end L2


set_option Elab.async false
set_option linter.all false
set_option maxRecDepth 100000
set_option maxHeartbeats 4000000
namespace My
open PySem PySem.Spec PyProof.Rows L2 GM GP
noncomputable def top (i : Nat) : Stmt := PySem.Challenge.pw_gavelhall_k49_whole_side_by_side.main.body.getD i (.Pass ⟨0, 0, 0, 0⟩)
noncomputable abbrev s_P_holds : Stmt := top 1
noncomputable abbrev s_P_amount_of : Stmt := top 3
noncomputable abbrev s_P_greatest_of : Stmt := top 4
noncomputable abbrev s_P_winners_of : Stmt := top 5
noncomputable abbrev s_P_first_choice : Stmt := top 6
noncomputable abbrev s_P_choices_in : Stmt := top 7
noncomputable abbrev s_P_greatest_by_bundle : Stmt := top 8
noncomputable abbrev s_P_tables_behind : Stmt := top 9
noncomputable abbrev s_P_with_bidder : Stmt := top 10
noncomputable abbrev s_P_best_with : Stmt := top 11
noncomputable abbrev s_P_without : Stmt := top 13
noncomputable abbrev s_P_receipts_of : Stmt := top 14
noncomputable abbrev s_P_pays_of : Stmt := top 15
noncomputable abbrev s_L_cell_at : Stmt := top 17
noncomputable abbrev s_L_whole : Stmt := top 18
noncomputable abbrev s_L_offer_by : Stmt := top 19
noncomputable abbrev s_L_listed : Stmt := top 20
noncomputable abbrev s_L_scale : Stmt := top 21
noncomputable abbrev s_L_offers : Stmt := top 22
noncomputable abbrev s_L_plans : Stmt := top 23
noncomputable abbrev s_L_greatest : Stmt := top 24
noncomputable abbrev s_L_first : Stmt := top 25
noncomputable abbrev s_L_lacking : Stmt := top 26
noncomputable abbrev s_L_list_is : Stmt := top 27
noncomputable abbrev s_L_copies : Stmt := top 28
noncomputable abbrev s_L_pays : Stmt := top 29
noncomputable abbrev s_law : Stmt := top 30
theorem sc_P_holds : FnScope ["one", "other"] ["one", "other"] (defScope s_P_holds) := ⟨rfl, rfl, rfl, by decide +kernel, rfl, by decide +kernel, by decide +kernel⟩
theorem sc_P_amount_of : FnScope ["listed", "bundle"] ["listed", "bundle"] (defScope s_P_amount_of) := ⟨rfl, rfl, rfl, by decide +kernel, rfl, by decide +kernel, by decide +kernel⟩
theorem sc_P_greatest_of : FnScope ["many", "offers"] ["many", "offers"] (defScope s_P_greatest_of) := ⟨rfl, rfl, rfl, by decide +kernel, rfl, by decide +kernel, by decide +kernel⟩
theorem sc_P_winners_of : FnScope ["many", "offers", "tables", "free", "plan", "number", "listed", "bundle"] ["many", "offers"] (defScope s_P_winners_of) := ⟨rfl, rfl, rfl, by decide +kernel, rfl, by decide +kernel, by decide +kernel⟩
theorem sc_P_first_choice : FnScope ["behind", "listed", "free", "ranked"] ["behind", "listed", "free"] (defScope s_P_first_choice) := ⟨rfl, rfl, rfl, by decide +kernel, rfl, by decide +kernel, by decide +kernel⟩
theorem sc_P_choices_in : FnScope ["listed", "free"] ["listed", "free"] (defScope s_P_choices_in) := ⟨rfl, rfl, rfl, by decide +kernel, rfl, by decide +kernel, by decide +kernel⟩
theorem sc_P_greatest_by_bundle : FnScope ["many", "offers"] ["many", "offers"] (defScope s_P_greatest_by_bundle) := ⟨rfl, rfl, rfl, by decide +kernel, rfl, by decide +kernel, by decide +kernel⟩
theorem sc_P_tables_behind : FnScope ["many", "offers", "tables", "listed"] ["many", "offers"] (defScope s_P_tables_behind) := ⟨rfl, rfl, rfl, by decide +kernel, rfl, by decide +kernel, by decide +kernel⟩
theorem sc_P_with_bidder : FnScope ["behind", "listed"] ["behind", "listed"] (defScope s_P_with_bidder) := ⟨rfl, rfl, rfl, by decide +kernel, rfl, by decide +kernel, by decide +kernel⟩
theorem sc_P_best_with : FnScope ["behind", "listed", "free"] ["behind", "listed", "free"] (defScope s_P_best_with) := ⟨rfl, rfl, rfl, by decide +kernel, rfl, by decide +kernel, by decide +kernel⟩
theorem sc_P_without : FnScope ["offers", "who"] ["offers", "who"] (defScope s_P_without) := ⟨rfl, rfl, rfl, by decide +kernel, rfl, by decide +kernel, by decide +kernel⟩
theorem sc_P_receipts_of : FnScope ["many", "offers", "worth", "plan", "receipts", "who", "bundle", "amount", "lacking", "beside"] ["many", "offers"] (defScope s_P_receipts_of) := ⟨rfl, rfl, rfl, by decide +kernel, rfl, by decide +kernel, by decide +kernel⟩
theorem sc_P_pays_of : FnScope ["many", "offers"] ["many", "offers"] (defScope s_P_pays_of) := ⟨rfl, rfl, rfl, by decide +kernel, rfl, by decide +kernel, by decide +kernel⟩
theorem sc_L_cell_at : FnScope ["_law_script", "_law_k"] ["_law_script", "_law_k"] (defScope s_L_cell_at) := ⟨rfl, rfl, rfl, by decide +kernel, rfl, by decide +kernel, by decide +kernel⟩
theorem sc_L_whole : FnScope ["_law_found"] ["_law_found"] (defScope s_L_whole) := ⟨rfl, rfl, rfl, by decide +kernel, rfl, by decide +kernel, by decide +kernel⟩
theorem sc_L_offer_by : FnScope ["_law_cell", "_law_many", "_law_scale_here", "_law_top", "_law_bundle", "_law_rest", "_law_bits", "_law_size"] ["_law_cell", "_law_many", "_law_scale_here"] (defScope s_L_offer_by) := ⟨rfl, rfl, rfl, by decide +kernel, rfl, by decide +kernel, by decide +kernel⟩
theorem sc_L_listed : FnScope ["_law_cells", "_law_many", "_law_scale_here", "_law_made", "_law_cell", "_law_offer"] ["_law_cells", "_law_many", "_law_scale_here"] (defScope s_L_listed) := ⟨rfl, rfl, rfl, by decide +kernel, rfl, by decide +kernel, by decide +kernel⟩
theorem sc_L_scale : FnScope ["_law_cell"] ["_law_cell"] (defScope s_L_scale) := ⟨rfl, rfl, rfl, by decide +kernel, rfl, by decide +kernel, by decide +kernel⟩
theorem sc_L_offers : FnScope ["_law_script", "_law_at", "_law_many", "_law_bidders", "_law_most", "_law_scale_here", "_law_made", "_law_who", "_law_place", "_law_cells"] ["_law_script", "_law_at", "_law_many", "_law_bidders", "_law_most"] (defScope s_L_offers) := ⟨rfl, rfl, rfl, by decide +kernel, rfl, by decide +kernel, by decide +kernel⟩
theorem sc_L_plans : FnScope ["_law_offers_here", "_law_rows", "_law_listed_here", "_law_more", "_law_row", "_law_bundle", "_law_amount"] ["_law_offers_here"] (defScope s_L_plans) := ⟨rfl, rfl, rfl, by decide +kernel, rfl, by decide +kernel, by decide +kernel⟩
theorem sc_L_greatest : FnScope ["_law_offers_here"] ["_law_offers_here"] (defScope s_L_greatest) := ⟨rfl, rfl, rfl, by decide +kernel, rfl, by decide +kernel, by decide +kernel⟩
theorem sc_L_first : FnScope ["_law_offers_here", "_law_rows", "_law_best", "_law_found"] ["_law_offers_here"] (defScope s_L_first) := ⟨rfl, rfl, rfl, by decide +kernel, rfl, by decide +kernel, by decide +kernel⟩
theorem sc_L_lacking : FnScope ["_law_offers_here", "_law_who"] ["_law_offers_here", "_law_who"] (defScope s_L_lacking) := ⟨rfl, rfl, rfl, by decide +kernel, rfl, by decide +kernel, by decide +kernel⟩
theorem sc_L_list_is : FnScope ["_law_found", "_law_due", "_law_k"] ["_law_found", "_law_due"] (defScope s_L_list_is) := ⟨rfl, rfl, rfl, by decide +kernel, rfl, by decide +kernel, by decide +kernel⟩
theorem sc_L_copies : FnScope ["_law_offers_here"] ["_law_offers_here"] (defScope s_L_copies) := ⟨rfl, rfl, rfl, by decide +kernel, rfl, by decide +kernel, by decide +kernel⟩
theorem sc_L_pays : FnScope ["_law_offers_here", "_law_due"] ["_law_offers_here", "_law_due"] (defScope s_L_pays) := ⟨rfl, rfl, rfl, by decide +kernel, rfl, by decide +kernel, by decide +kernel⟩
theorem sc_law : FnScope ["_law_script", "_law_many", "_law_ones", "_law_more", "_law_others", "_law_both", "_law_listed_here", "_law_left", "_law_right", "_law_worth", "_law_plan"] ["_law_script"] (defScope s_law) := ⟨rfl, rfl, rfl, by decide +kernel, rfl, by decide +kernel, by decide +kernel⟩
theorem lst0 {T : Type} {P : List T → Prop} {us : List T} (h : us.length = 0) (f : P []) : P us := by cases us with | nil => exact f | cons a us => cases h
theorem lst1 {T : Type} {P : List T → Prop} {us : List T} (h : us.length = 1) (f : ∀ a, P [a]) : P us := by cases us with | nil => cases h | cons a us => exact lst0 (P := fun l => P (a :: l)) (Nat.succ.inj h) (f a)
theorem lst2 {T : Type} {P : List T → Prop} {us : List T} (h : us.length = 2) (f : ∀ a b, P [a, b]) : P us := by cases us with | nil => cases h | cons a us => exact lst1 (P := fun l => P (a :: l)) (Nat.succ.inj h) (f a)
theorem lst3 {T : Type} {P : List T → Prop} {us : List T} (h : us.length = 3) (f : ∀ a b c, P [a, b, c]) : P us := by cases us with | nil => cases h | cons a us => exact lst2 (P := fun l => P (a :: l)) (Nat.succ.inj h) (f a)
theorem lst4 {T : Type} {P : List T → Prop} {us : List T} (h : us.length = 4) (f : ∀ a b c d, P [a, b, c, d]) : P us := by cases us with | nil => cases h | cons a us => exact lst3 (P := fun l => P (a :: l)) (Nat.succ.inj h) (f a)
theorem bnd1 {K : PySem.W.Frag} {x qual : Str} {st : Stmt} {f : Addr} {fd : FuncData} {p0 : Str} (F : Fun K x qual st f fd) (h : ∀ (kV doc pm : Value) (an : Option Addr) (cdv ct : Value) (a : Value), bindArgs (PySem.W.fnOf x qual (defArgs st) (defBody st) (defScope st) .none kV doc pm an cdv ct) ⟨[a], []⟩ = pure ([p0].zip [a])) : Binds K fd [p0] [] :=
  F.binds fun kV doc pm an cdv ct us hl => lst1 (P := fun us => bindArgs (PySem.W.fnOf x qual (defArgs st) (defBody st) (defScope st) .none kV doc pm an cdv ct) ⟨us, []⟩ = pure ([p0].zip us)) hl (h kV doc pm an cdv ct)
theorem bnd2 {K : PySem.W.Frag} {x qual : Str} {st : Stmt} {f : Addr} {fd : FuncData} {p0 p1 : Str} (F : Fun K x qual st f fd) (h : ∀ (kV doc pm : Value) (an : Option Addr) (cdv ct : Value) (a b : Value), bindArgs (PySem.W.fnOf x qual (defArgs st) (defBody st) (defScope st) .none kV doc pm an cdv ct) ⟨[a, b], []⟩ = pure ([p0, p1].zip [a, b])) : Binds K fd [p0, p1] [] :=
  F.binds fun kV doc pm an cdv ct us hl => lst2 (P := fun us => bindArgs (PySem.W.fnOf x qual (defArgs st) (defBody st) (defScope st) .none kV doc pm an cdv ct) ⟨us, []⟩ = pure ([p0, p1].zip us)) hl (h kV doc pm an cdv ct)
theorem bnd3 {K : PySem.W.Frag} {x qual : Str} {st : Stmt} {f : Addr} {fd : FuncData} {p0 p1 p2 : Str} (F : Fun K x qual st f fd) (h : ∀ (kV doc pm : Value) (an : Option Addr) (cdv ct : Value) (a b c : Value), bindArgs (PySem.W.fnOf x qual (defArgs st) (defBody st) (defScope st) .none kV doc pm an cdv ct) ⟨[a, b, c], []⟩ = pure ([p0, p1, p2].zip [a, b, c])) : Binds K fd [p0, p1, p2] [] :=
  F.binds fun kV doc pm an cdv ct us hl => lst3 (P := fun us => bindArgs (PySem.W.fnOf x qual (defArgs st) (defBody st) (defScope st) .none kV doc pm an cdv ct) ⟨us, []⟩ = pure ([p0, p1, p2].zip us)) hl (h kV doc pm an cdv ct)
theorem lst5 {T : Type} {P : List T → Prop} {us : List T} (h : us.length = 5) (f : ∀ a b c d e, P [a, b, c, d, e]) : P us := by cases us with | nil => cases h | cons a us => exact lst4 (P := fun l => P (a :: l)) (Nat.succ.inj h) (f a)
theorem bnd5 {K : PySem.W.Frag} {x qual : Str} {st : Stmt} {f : Addr} {fd : FuncData} {p0 p1 p2 p3 p4 : Str} (F : Fun K x qual st f fd) (h : ∀ (kV doc pm : Value) (an : Option Addr) (cdv ct : Value) (a b c d e : Value), bindArgs (PySem.W.fnOf x qual (defArgs st) (defBody st) (defScope st) .none kV doc pm an cdv ct) ⟨[a, b, c, d, e], []⟩ = pure ([p0, p1, p2, p3, p4].zip [a, b, c, d, e])) : Binds K fd [p0, p1, p2, p3, p4] [] :=
  F.binds fun kV doc pm an cdv ct us hl => lst5 (P := fun us => bindArgs (PySem.W.fnOf x qual (defArgs st) (defBody st) (defScope st) .none kV doc pm an cdv ct) ⟨us, []⟩ = pure ([p0, p1, p2, p3, p4].zip us)) hl (h kV doc pm an cdv ct)
theorem whole_key : ∀ n : Nm, (isN n .int = true → (!isN n .bl) = decide (n = .int)) ∧ (¬ isN n .int = true → false = decide (n = .int)) := by intro n; cases n <;> decide
noncomputable def nv (k : Nat) : V := .int (k : Int)
noncomputable def cellAt (ns : List Int) (k : Int) : Int := ns.getD k.toNat 0
/-- a hall of the program's functions -/
noncomputable def HallOk (n : Nat) (os : List Off) : Prop := os.length ≤ 12 ∧ ∀ o ∈ os, o.length ≤ 90 ∧ ∀ c ∈ o, c.1 < 2 ^ n
theorem getD_at {ws : List Int} {b : Nat} (h : b < ws.length) : atI (ws.map V.int) (b : Int) = some (V.int (ws.getD b 0)) := by
  refine at_nat ?_
  rw [List.getElem?_map, List.getElem?_eq_getElem h, List.getD_eq_getElem?_getD, List.getElem?_eq_getElem h]; rfl
theorem pow7 {n : Nat} (h : n < 7) : 2 ^ n ≤ 64 ∧ 0 < 2 ^ n := ⟨(Nat.pow_le_pow_right (n := 2) (by decide) (by omega) : 2 ^ n ≤ 2 ^ 6), Nat.two_pow_pos _⟩
noncomputable def sp_L_cell_at (K : PySem.W.Frag) : Sp := fun vs H Q _ => ∃ a ns k, vs = [.ref a, .int k] ∧ SqL K H a (ns.map V.int) ∧ 0 ≤ k ∧ Q (.int (cellAt ns k)) H
noncomputable def sp_L_whole (K : PySem.W.Frag) : Sp := fun vs H Q _ => ∃ v n, vs = [v] ∧ KindIs K H v n ∧ Q (.bl (decide (n = Nm.int))) H
noncomputable def sp_P_holds (_K : PySem.W.Frag) : Sp := fun vs H Q _ => ∃ a b : Nat, vs = [.int a, .int b] ∧ Q (.bl (decide (a &&& b = b))) H
noncomputable def sp_P_choices_in (_K : PySem.W.Frag) : Sp := fun vs H Q _ => ∃ (l : Addr) (xs : Off) (ps : List Addr) (f : Nat), vs = [.ref l, nv f] ∧ Pairs H l xs ps ∧ xs.length ≤ 90 ∧ ∀ (r : Addr) (H' : Hp) (qs : List Addr), Same H H' → H r = none → Pairs H' r (choices xs f) qs → Q (.ref r) H'
noncomputable def sp_P_best_with (K : PySem.W.Frag) : Sp := fun vs H Q _ => ∃ (p l : Addr) (n f : Nat) (os : List Off) (o : Off) (ps : List Addr), vs = [.ref p, .ref l, nv f] ∧ SqL K H p ((tabW n os).map V.int) ∧ Pairs H l o ps ∧ o.length ≤ 90 ∧ n < 7 ∧ f < 2 ^ n ∧ (∀ c ∈ o, c.1 < 2 ^ n) ∧ ∀ H', Same H H' → Q (.int (bestW (2 ^ n - 1 - f) (o :: os))) H'
noncomputable def sp_P_with_bidder (K : PySem.W.Frag) : Sp := fun vs H Q _ => ∃ (p l : Addr) (n : Nat) (os : List Off) (o : Off) (ps : List Addr), vs = [.ref p, .ref l] ∧ SqL K H p ((tabW n os).map V.int) ∧ Pairs H l o ps ∧ o.length ≤ 90 ∧ n < 7 ∧ (∀ c ∈ o, c.1 < 2 ^ n) ∧ ∀ (r : Addr) (H' : Hp), Same H H' → H r = none → H' r = some (.lst ((tabW n (o :: os)).map V.int)) → Q (.ref r) H'
noncomputable def sp_P_tables_behind (_K : PySem.W.Frag) : Sp := fun vs H Q _ => ∃ (l : Addr) (n : Nat) (os : List Off) (as : List Addr), vs = [nv n, .ref l] ∧ HallAt H l os as ∧ n < 7 ∧ HallOk n os ∧ ∀ (r : Addr) (H' : Hp) (bs : List Addr), Same H H' → H' r = some (.lst (bs.map V.ref)) → bs.length = os.length + 1 → (∀ (j : Nat) (a : Addr), bs[j]? = some a → H' a = some (.lst ((tabW n (os.drop j)).map V.int))) → Q (.ref r) H'
noncomputable def sp_P_greatest_by_bundle (_K : PySem.W.Frag) : Sp := fun vs H Q _ => ∃ (l : Addr) (n : Nat) (os : List Off) (as : List Addr), vs = [nv n, .ref l] ∧ HallAt H l os as ∧ n < 7 ∧ HallOk n os ∧ ∀ (r : Addr) (H' : Hp), Same H H' → H' r = some (.lst ((tabW n os).map V.int)) → Q (.ref r) H'
noncomputable def sp_P_greatest_of (_K : PySem.W.Frag) : Sp := fun vs H Q _ => ∃ (l : Addr) (n : Nat) (os : List Off) (as : List Addr), vs = [nv n, .ref l] ∧ HallAt H l os as ∧ n < 7 ∧ HallOk n os ∧ ∀ H', Same H H' → Q (.int (bestW 0 os)) H'
noncomputable def sp_P_amount_of (_K : PySem.W.Frag) : Sp := fun vs H Q _ => ∃ (l : Addr) (o : Off) (ps : List Addr) (b : Nat), vs = [.ref l, nv b] ∧ Pairs H l o ps ∧ (o.map Prod.fst).Nodup ∧ o.length ≤ 90 ∧ ∀ H', Same H H' → Q (.int (amtOf o b)) H'
noncomputable def sp_P_first_choice (K : PySem.W.Frag) : Sp := fun vs H Q _ => ∃ (p l : Addr) (n f : Nat) (os : List Off) (o : Off) (ps : List Addr), vs = [.ref p, .ref l, nv f] ∧ SqL K H p ((tabW n os).map V.int) ∧ Pairs H l o ps ∧ o.length ≤ 90 ∧ n < 7 ∧ f < 2 ^ n ∧ (∀ c ∈ o, c.1 < 2 ^ n) ∧
  ∀ (H' : Hp) (c : Nat × Int), Same H H' → c ∈ choices o f → c.2 + bestW ((2 ^ n - 1 - f) ||| c.1) os = bestW (2 ^ n - 1 - f) (o :: os) → (∀ d ∈ choices o f, d.2 + bestW ((2 ^ n - 1 - f) ||| d.1) os = bestW (2 ^ n - 1 - f) (o :: os) → c = d ∨ clt c d) → Q (nv c.1) H'
noncomputable def sp_P_winners_of (_K : PySem.W.Frag) : Sp := fun vs H Q _ => ∃ (l : Addr) (n : Nat) (os : List Off) (as : List Addr), vs = [nv n, .ref l] ∧ HallAt H l os as ∧ n < 7 ∧ HallOk n os ∧ ∀ (r : Addr) (H' : Hp) (ch : Way), Same H H' → H r = none → IsFirst 0 os ch → H' r = some (.lst (ch.map fun c => V.int (c.1 : Int))) → Q (.ref r) H'
noncomputable def ScaleAt (H : Hp) (t : Addr) : Prop := ∃ s0 s1 s2 : Int, H t = some (.tup [.int s0, .int s1, .int s2]) ∧ 0 ≤ s0 ∧ s0 ≤ 3 ∧ 1 ≤ s1 ∧ s1 ≤ 10 ^ 12 ∧ 1 ≤ s2
theorem ScaleAt.same {H H' : Hp} {t : Addr} (h : ScaleAt H t) (S : Same H H') : ScaleAt H' t := by
  obtain ⟨s0, s1, s2, e, r⟩ := h
  exact ⟨s0, s1, s2, S _ _ e, r⟩
noncomputable def sp_L_scale (_K : PySem.W.Frag) : Sp := fun vs H Q _ => ∃ c, vs = [.int c] ∧ ∀ t H', Same H H' → ScaleAt H' t → Q (.ref t) H'
noncomputable def sp_L_offer_by (_K : PySem.W.Frag) : Sp := fun vs H Q _ => ∃ (c : Int) (n : Nat) (t : Addr), vs = [.int c, nv n, .ref t] ∧ 1 ≤ n ∧ n < 7 ∧ ScaleAt H t ∧ ∀ p H' (b : Nat) (x : Int), Same H H' → H' p = some (.tup [.int (b : Int), .int x]) → 0 < b → b < 2 ^ n → 0 < x → Q (.ref p) H'
noncomputable def sp_L_listed (K : PySem.W.Frag) : Sp := fun vs H Q _ => ∃ (l t : Addr) (cs : List Int) (n : Nat), vs = [.ref l, nv n, .ref t] ∧ SqL K H l (cs.map V.int) ∧ cs.length ≤ 60 ∧ (cs ≠ [] → 1 ≤ n) ∧ n < 7 ∧ ScaleAt H t ∧ ∀ (r : Addr) (H' : Hp) (o : Off) (ps : List Addr), Same H H' → H r = none → Pairs H' r o ps → OffOk n cs.length o → Q (.ref r) H'
noncomputable def sp_L_offers (K : PySem.W.Frag) : Sp := fun vs H Q _ => ∃ (a : Addr) (ns : List Int) (at0 n b m : Nat), vs = [.ref a, nv at0, nv n, nv b, nv m] ∧ SqL K H a (ns.map V.int) ∧ n < 7 ∧ b ≤ 6 ∧ m ≤ 20 ∧ ∀ (l : Addr) (H' : Hp) (os : List Off) (as : List Addr), Same H H' → H l = none → HallAt H' l os as → os.length = b → (∀ o ∈ os, OffOk n m o) → Q (.ref l) H'
noncomputable def sp_L_copies (_K : PySem.W.Frag) : Sp := fun vs H Q _ => ∃ (l : Addr) (os : List Off) (as : List Addr), vs = [.ref l] ∧ HallAt H l os as ∧ os.length ≤ 100 ∧ ∀ (r : Addr) (H' : Hp) (bs : List Addr), Same H H' → H r = none → (∀ b ∈ bs, H b = none) → (∀ b ∈ bs, b ≠ r) → bs.Nodup → HallAt H' r os bs → Q (.ref r) H'
theorem hT_put {H H' : Hp} {t l : Addr} {zs : List V} {o : HO} (h : ScaleAt H t) (S : Same H H') (hl : H' l = some (.lst zs)) : ScaleAt (upd H' l o) t := by
  obtain ⟨s0, s1, s2, e, r⟩ := h
  have e' := S _ _ e
  exact ⟨s0, s1, s2, by rw [upd_ne (fun z => by rw [z, hl] at e'; cases e')]; exact e', r⟩
noncomputable def recI (os : List Off) (ch : Way) (i : Nat) : List Int := [(((ch[i]?).getD (0, 0)).1 : Int), ((ch[i]?).getD (0, 0)).2, bestW 0 (os.set i []), bestW 0 os - ((ch[i]?).getD (0, 0)).2, bestW 0 (os.set i []) - (bestW 0 os - ((ch[i]?).getD (0, 0)).2)]
noncomputable def sp_P_without (_K : PySem.W.Frag) : Sp := fun vs H Q _ => ∃ (l : Addr) (os : List Off) (as : List Addr) (i : Nat), vs = [.ref l, nv i] ∧ HallAt H l os as ∧ os.length ≤ 12 ∧ ∀ (r : Addr) (H' : Hp) (bs : List Addr), Same H H' → H r = none → (∀ b ∈ bs, H b = none) → (∀ b ∈ bs, b ≠ r) → HallAt H' r (os.set i []) bs → Q (.ref r) H'
noncomputable def sp_P_receipts_of (_K : PySem.W.Frag) : Sp := fun vs H Q _ => ∃ (l : Addr) (n : Nat) (os : List Off) (as : List Addr), vs = [nv n, .ref l] ∧ HallAt H l os as ∧ n < 7 ∧ HallOk n os ∧ (∀ o ∈ os, GoodO o) ∧
  ∀ (r : Addr) (H' : Hp) (ch : Way) (rs : List Addr), Same H H' → H r = none → IsFirst 0 os ch → H' r = some (.lst (rs.map V.ref)) → rs.length = os.length → (∀ (i : Nat) (t : Addr), rs[i]? = some t → H' t = some (.tup ((recI os ch i).map V.int))) → Q (.ref r) H'
noncomputable def sp_P_pays_of (_K : PySem.W.Frag) : Sp := fun vs H Q _ => ∃ (l : Addr) (n : Nat) (os : List Off) (as : List Addr), vs = [nv n, .ref l] ∧ HallAt H l os as ∧ n < 7 ∧ HallOk n os ∧ (∀ o ∈ os, GoodO o) ∧
  ∀ (r : Addr) (H' : Hp) (ch : Way), Same H H' → H r = none → IsFirst 0 os ch → H' r = some (.lst (((List.range os.length).map fun i => payOf os ch i).map V.int)) → Q (.ref r) H'
section
variable {P : Program} {w : World} {K : PySem.W.Frag} {mg : Str → Option Value} {base : Heap}
theorem cell_in {ns : List Int} {k : Int} (h0 : 0 ≤ k) (h : k < (ns.length : Int)) : atI (ns.map V.int) k = some (V.int (cellAt ns k)) := by
  obtain ⟨j, rfl⟩ : ∃ j : Nat, k = (j : Int) := ⟨k.toNat, by omega⟩
  have z := getD_at (ws := ns) (b := j) (by omega)
  rw [z]; rfl
theorem cell_out {ns : List Int} {k : Int} (h : ¬ k < (ns.length : Int)) : cellAt ns k = 0 := by
  unfold cellAt
  rw [List.getD_eq_getElem?_getD, List.getElem?_eq_none (by omega)]; rfl
theorem ok_L_cell_at {f : Addr} {fd : FuncData} (F : Fun K "_law_cell_at" "_law_cell_at" s_L_cell_at f fd) (m_self : mg "_law_cell_at" = some (.ref f)) (m_len : mg "len" = none) : DefOk P w K mg base 1 "_law_cell_at" ["_law_script", "_law_k"] [] (sp_L_cell_at K) := by
  refine F.def_okQ m_self (bnd2 F fun _ _ _ _ _ _ _ _ => rfl) sc_L_cell_at (fun vs H Q E h => ?_) (fun cdv A outer s H vs Q E hr h => ?_)
  · obtain ⟨a, ns, k, rfl, _⟩ := h; rfl
  obtain ⟨a, ns, k, rfl, hS, h0, q⟩ := h
  have hl : (ns.map V.int).length = ns.length := List.length_map _
  refine ⟨_, (R.pss_cons (R.ps_if (R.pt_cmpR op_lt (R.pv 1) (R.pe_cB call_len_seq rfl m_len PySem.boot_len (R.pa_c (R.pv 0) R.pa_nil)) (nomark _)) (R.pss_one (R.ps_ret (R.pe_ix ix_list (R.pv 0) (R.pv 1) (fun _ _ => rfl)))) R.pss_nil)
    (R.pss_one (R.ps_ret R.pe_int))), ?_⟩
  refine ⟨_, rfl, _, rfl, a, _, rfl, .inl hS, _, _, rfl, rfl, _, rfl, ?_⟩
  refine ite2 (fun c => ?_) (fun c => ?_)
  · have c' : k < (((ns.map V.int).length : Nat) : Int) := of_decide_eq_true c
    rw [hl] at c'
    exact ⟨_, rfl, _, rfl, a, _, _, _, rfl, rfl, hS, cell_in h0 c', q⟩
  · have c' : ¬ k < (((ns.map V.int).length : Nat) : Int) := of_decide_eq_false (Bool.eq_false_iff.mpr c)
    rw [hl] at c'
    show Q (.int 0) H
    rw [cell_out c'] at q; exact q
theorem ok_L_whole {f : Addr} {fd : FuncData} (F : Fun K "_law_whole" "_law_whole" s_L_whole f fd) (m_self : mg "_law_whole" = some (.ref f)) (m_isinstance : mg "isinstance" = none) (m_int : mg "int" = none) (m_bool : mg "bool" = none) : DefOk P w K mg base 1 "_law_whole" ["_law_found"] [] (sp_L_whole K) := by
  refine F.def_okQ m_self (bnd1 F fun _ _ _ _ _ _ _ => rfl) sc_L_whole (fun vs H Q E h => ?_) (fun cdv A outer s H vs Q E hr h => ?_)
  · obtain ⟨v, n, rfl, _⟩ := h; rfl
  obtain ⟨v, n, rfl, hk, q⟩ := h
  refine ⟨_, (R.pss_one (R.ps_ret (R.pe_and (R.pe_isi .int rfl m_isinstance rfl m_int (R.pv 0)) (R.pe_one (R.pe_not (R.pe_isi .bl rfl m_isinstance rfl m_bool (R.pv 0))))))), ?_⟩
  refine ⟨_, rfl, v, n, rfl, hk, _, rfl, ?_⟩
  refine ite2 (fun c => ?_) (fun c => ?_)
  · refine ⟨_, rfl, v, n, rfl, hk, _, rfl, ?_⟩
    rw [(whole_key n).1 c]; exact q
  · show Q (.bl false) H
    rw [(whole_key n).2 c]; exact q
theorem ok_P_holds {f : Addr} {fd : FuncData} (F : Fun K "holds" "holds" s_P_holds f fd) (m_self : mg "holds" = some (.ref f)) : DefOk P w K mg base 1 "holds" ["one", "other"] [] (sp_P_holds K) := by
  refine F.def_okQ m_self (bnd2 F fun _ _ _ _ _ _ _ _ => rfl) sc_P_holds (fun vs H Q E h => ?_) (fun cdv A outer s H vs Q E hr h => ?_)
  · obtain ⟨a, b, rfl, _⟩ := h; rfl
  obtain ⟨a, b, rfl, q⟩ := h
  refine ⟨_, (R.pss_one (R.ps_ret (R.pe_cmpR op_eq (R.pe_op op_andN (R.pv 0) (R.pv 1)) (R.pv 1) (nomark _)))), ?_⟩
  refine ⟨_, rfl, _, rfl, a, b, rfl, rfl, _, rfl, rfl, ?_⟩
  rw [int_eq_nat]; exact q
theorem ok_P_choices_in {f : Addr} {fd : FuncData} (F : Fun K "choices_in" "choices_in" s_P_choices_in f fd) (m_self : mg "choices_in" = some (.ref f))
    (D_P_holds : DefOk P w K mg base 1 "holds" ["one", "other"] [] (sp_P_holds K)) : DefOk P w K mg base 2 "choices_in" ["listed", "free"] [] (sp_P_choices_in K) := by
  refine F.def_okQ m_self (bnd2 F fun _ _ _ _ _ _ _ _ => rfl) sc_P_choices_in (fun vs H Q E h => ?_) (fun cdv A outer s H vs Q E hr h => ?_)
  · obtain ⟨l, xs, ps, f, rfl, _⟩ := h; rfl
  obtain ⟨l, xs, ps, b, rfl, hP, few, q⟩ := h
  refine ⟨_, (R.pss_one (R.ps_ret (R.pe_op op_cat (R.pe_lst (R.pa_c (R.pe_tup (R.pa_c R.pe_int (R.pa_c R.pe_int R.pa_nil))) R.pa_nil)) (R.pe_comp (defScope s_P_choices_in) ["listed", "free"] ["bundle", "amount"] ["free"] [1] rfl rfl rfl ⟨s.heap.objs.size + 1, rfl⟩ rfl rfl (by decide +kernel) (R.pi_list (R.pv 0)) (fun C s2 H2 fp => (R.pg_tup K 2 rfl (R.pgs_cons (R.pg_name (i := 0) (show List.Nodup (["bundle", "amount", "free"] : List Str) from by decide +kernel) rfl (Or.inl rfl)) (R.pgs_cons (R.pg_name (i := 1) (show List.Nodup (["bundle", "amount", "free"] : List Str) from by decide +kernel) rfl (Or.inl rfl)) R.pgs_nil)))) (fun C s2 H2 fp => (R.pf_one (R.pt_val (R.pe_callD D_P_holds hr (by decide) rfl (R.pa_c (R.pv 2) (R.pa_c (R.pv 0) R.pa_nil)))))) (fun C s2 H2 fp => (R.pe_tup (R.pa_c (R.pv 0) (R.pa_c (R.pv 1) R.pa_nil)))))))), ?_⟩
  refine ⟨(by show 2 ≤ sizeLine; decide), fun t ht => ⟨(by show 1 ≤ sizeLine; decide), fun l1 h1 => ?_⟩⟩
  have s0 : Same H (upd (upd H t (.tup [V.int 0, V.int 0])) l1 (.lst [V.ref t])) := (same_new ht _).trans (same_new h1 _)
  have et0 : upd (upd H t (.tup [V.int 0, V.int 0])) l1 (.lst [V.ref t]) t = some (.tup [V.int 0, V.int 0]) := same_new h1 _ _ _ upd_same
  have el : upd (upd H t (.tup [V.int 0, V.int 0])) l1 (.lst [V.ref t]) l1 = some (.lst [V.ref t]) := upd_same
  generalize upd (upd H t (.tup [V.int 0, V.int 0])) l1 (.lst [V.ref t]) = H1 at s0 et0 el ⊢
  refine ⟨_, rfl, l, rfl, ⟨_, SqL.of (s0 _ _ hP.1)⟩, fun l2 h2 => ?_⟩
  refine comp_lst2 (xs := ps.map V.ref) (fun k H' => Same H1 H' ∧ ∃ qs, Pairs H' l2 ((xs.take k).filter fun x => decide (b &&& x.1 = x.1)) qs) ?_ (fun k H' _ z => SqL.of (z.1 _ _ (s0 _ _ hP.1))) ?_ ?_
  · exact ⟨same_new h2 _, [], by rw [List.take_zero]; exact pairs_nil upd_same⟩
  · rintro k v H2 hv ⟨s2, qs, hq⟩
    obtain ⟨p, x, rfl, hx, hp⟩ := (hP.same (s0.trans s2)).at hv
    refine ⟨p, _, _, rfl, SqT.of hp, ?_⟩
    intro K1 K0 k1 k0
    have et : ((xs.take (k + 1)).filter fun x => decide (b &&& x.1 = x.1)) = ((xs.take k).filter fun x => decide (b &&& x.1 = x.1)) ++ (if b &&& x.1 = x.1 then [x] else []) := by
      rw [List.take_add_one, hx, List.filter_append]
      by_cases hc : b &&& x.1 = x.1 <;> simp [hc]
    refine ⟨_, rfl, _, rfl, b, x.1, rfl, _, rfl, ?_⟩
    by_cases hc : b &&& x.1 = x.1
    · rw [decide_eq_true hc]
      refine iteT ⟨_, rfl, _, rfl, (by show 2 ≤ sizeLine; decide), fun t2 h3 => ?_⟩
      have s3 := same_new h3 (.tup [V.int (x.1 : Int), V.int x.2])
      have hq3 := hq.same s3
      refine k1 _ _ _ hq3.1 ?_ ⟨(s2.trans s3).upd h2 _, qs ++ [t2], ?_⟩
      · rw [List.length_map, hq.2.1]
        have z1 := List.length_filter_le (fun x : Nat × Int => decide (b &&& x.1 = x.1)) (xs.take k)
        have z2 := List.length_take_le' k xs
        exact small1000 (by omega)
      · rw [et, if_pos hc]; exact pairs_snoc (x := x) hq3 upd_same
    · rw [decide_eq_false hc]
      refine iteF (k0 _ ⟨s2, qs, ?_⟩)
      rw [et, if_neg hc, List.append_nil]; exact hq
  · rintro H2 ⟨s2, qs, hq⟩
    have ex : xs.take (ps.map V.ref).length = xs := by rw [List.length_map, hP.2.1, List.take_length]
    rw [ex] at hq
    refine ⟨l1, l2, _, _, rfl, rfl, s2 _ _ el, hq.1, ?_, fun p hp => ?_⟩
    · rw [List.length_map, hq.2.1]
      have z1 := List.length_filter_le (fun x : Nat × Int => decide (b &&& x.1 = x.1)) xs
      show 1 + _ ≤ _
      exact Nat.le_of_lt (small1000 (by omega))
    · have sA := s0.trans s2
      exact q p _ (t :: qs) (sA.trans (same_new hp _)) (sA.free hp) (pairs_cons (x := ((0, 0) : Nat × Int)) hq (s2 _ _ et0) hp)
theorem ok_P_best_with {f : Addr} {fd : FuncData} (F : Fun K "best_with" "best_with" s_P_best_with f fd) (m_self : mg "best_with" = some (.ref f)) (m_max : mg "max" = none)
    (D_P_choices_in : DefOk P w K mg base 2 "choices_in" ["listed", "free"] [] (sp_P_choices_in K)) : DefOk P w K mg base 3 "best_with" ["behind", "listed", "free"] [] (sp_P_best_with K) := by
  refine F.def_okQ m_self (bnd3 F fun _ _ _ _ _ _ _ _ _ => rfl) sc_P_best_with (fun vs H Q E h => ?_) (fun cdv A outer s H vs Q E hr h => ?_)
  · obtain ⟨p, l, n, f, os, o, ps, rfl, _⟩ := h; rfl
  obtain ⟨p, l, n, fb, os, o, ps, rfl, hS, hP, few, hn, hf, hp, q⟩ := h
  refine ⟨_, (R.pss_one (R.ps_ret (R.pe_cB (call_maxL rfl) rfl m_max (boot_max) (R.pa_c (R.pe_comp (defScope s_P_best_with) ["behind", "listed", "free"] ["bundle", "amount"] ["behind", "free"] [0, 2] rfl rfl rfl ⟨s.heap.objs.size + 1, rfl⟩ rfl rfl (by decide +kernel) (R.pi_list (R.pe_callD D_P_choices_in hr (by decide) rfl (R.pa_c (R.pv 1) (R.pa_c (R.pv 2) R.pa_nil)))) (fun C s2 H2 fp => (R.pg_tup K 2 rfl (R.pgs_cons (R.pg_name (i := 0) (show List.Nodup (["bundle", "amount", "behind", "free"] : List Str) from by decide +kernel) rfl (Or.inl rfl)) (R.pgs_cons (R.pg_name (i := 1) (show List.Nodup (["bundle", "amount", "behind", "free"] : List Str) from by decide +kernel) rfl (Or.inl rfl)) R.pgs_nil)))) (fun C s2 H2 fp => R.pf_nil) (fun C s2 H2 fp => (R.pe_op op_add (R.pv 1) (R.pe_ix (R.ixL K) (R.pv 2) (R.pe_op (opE0 op_sub) (R.pv 3) (R.pv 0)) (fun _ _ => rfl))))) R.pa_nil)))), ?_⟩
  refine ⟨_, rfl, _, rfl, l, o, ps, fb, rfl, hP, few, fun r H1 qs s1 h1 hq => ⟨r, rfl, ⟨_, SqL.of hq.1⟩, fun l2 h2 => ?_⟩⟩
  have tl : (tabW n os).length = 2 ^ n := tabW_len _ _
  have cl : (choices o fb).length ≤ 91 := by
    unfold choices
    have z1 := List.length_filter_le (fun x : Nat × Int => decide (fb &&& x.1 = x.1)) o
    rw [List.length_cons]; omega
  have hcs : ∀ c ∈ choices o fb, c.1 ≤ fb := fun c hc => (choices_le hn hf hp hc).1
  have hcmax := tab_max (os := os) hn hf hp
  generalize choices o fb = xs at hq cl hcs hcmax
  refine comp_lst2 (xs := qs.map V.ref) (fun k H' => Same H1 H' ∧ H' l2 = some (.lst (((xs.take k).map fun c => c.2 + (tabW n os).getD (fb - c.1) 0).map V.int))) ?_ (fun k H' _ z => SqL.of (z.1 _ _ hq.1)) ?_ ?_
  · exact ⟨same_new h2 _, by rw [List.take_zero]; exact upd_same⟩
  · rintro k v H2 hv ⟨s2, e2⟩
    obtain ⟨p2, x, rfl, hx, hp2⟩ := (hq.same s2).at hv
    refine ⟨p2, _, _, rfl, SqT.of hp2, ?_⟩
    intro K1 K0 k1 k0
    have hle := hcs x (List.mem_of_getElem? hx)
    refine fnilT ?_
    refine ⟨_, rfl, _, rfl, _, rfl, _, rfl, _, _, nv (fb - x.1), rfl, rfl, ?_, p, _, _, _, rfl, rfl, s2.seq (s1.seq hS), getD_at (by omega), _, _, rfl, rfl, ?_⟩
    · show V.int ((fb : Int) - (x.1 : Int)) = V.int ((fb - x.1 : Nat) : Int)
      congr 1; omega
    refine k1 _ _ _ e2 ?_ ⟨s2.upd h2 _, ?_⟩
    · rw [List.length_map, List.length_map]
      have z2 := List.length_take_le' k xs
      exact small1000 (by omega)
    · rw [upd_same, List.take_add_one, hx, List.map_append, List.map_append]; rfl
  · rintro H2 ⟨s2, e2⟩
    have ex : xs.take (qs.map V.ref).length = xs := by rw [List.length_map, hq.2.1, List.take_length]
    rw [ex] at e2
    refine ⟨l2, _, rfl, SqL.of e2, ?_, fun m hm => ?_⟩
    · exact List.length_pos_of_mem hcmax.1
    · rw [max_uniq hm hcmax]
      exact q _ (s1.trans s2)
theorem ok_P_with_bidder {f : Addr} {fd : FuncData} (F : Fun K "with_bidder" "with_bidder" s_P_with_bidder f fd) (m_self : mg "with_bidder" = some (.ref f)) (m_range : mg "range" = none) (m_len : mg "len" = none)
    (D_P_best_with : DefOk P w K mg base 3 "best_with" ["behind", "listed", "free"] [] (sp_P_best_with K)) : DefOk P w K mg base 4 "with_bidder" ["behind", "listed"] [] (sp_P_with_bidder K) := by
  refine F.def_okQ m_self (bnd2 F fun _ _ _ _ _ _ _ _ => rfl) sc_P_with_bidder (fun vs H Q E h => ?_) (fun cdv A outer s H vs Q E hr h => ?_)
  · obtain ⟨p, l, n, os, o, ps, rfl, _⟩ := h; rfl
  obtain ⟨p, l, n, os, o, ps, rfl, hS, hP, few, hn, hp, q⟩ := h
  refine ⟨_, (R.pss_one (R.ps_ret (R.pe_comp (defScope s_P_with_bidder) ["behind", "listed"] ["free"] ["behind", "listed"] [0, 1] rfl rfl rfl ⟨s.heap.objs.size + 1, rfl⟩ rfl rfl (by decide +kernel) (R.pi_range1 rfl m_range (R.pa_c (R.pe_cB call_len_seq rfl m_len PySem.boot_len (R.pa_c (R.pv 0) R.pa_nil)) R.pa_nil)) (fun C s2 H2 fp => (R.pg_name (i := 0) (show List.Nodup (["free", "behind", "listed"] : List Str) from by decide +kernel) rfl (Or.inl rfl))) (fun C s2 H2 fp => R.pf_nil) (fun C s2 H2 fp => (R.pe_callD D_P_best_with hr (by decide) rfl (R.pa_c (R.pv 1) (R.pa_c (R.pv 2) (R.pa_c (R.pv 0) R.pa_nil)))))))), ?_⟩
  obtain ⟨f1, f2⟩ := pow7 hn
  have tl : ((tabW n os).map V.int).length = 2 ^ n := by rw [List.length_map, tabW_len]
  refine ⟨_, rfl, p, _, rfl, .inl hS, _, rfl, by omega, by rw [tl]; omega, fun l2 h2 => ?_⟩
  rw [Int.toNat_natCast, tl]
  refine comp_rng_map (fun _ => true) (fun k => .int (bestW (2 ^ n - 1 - k) (o :: os))) (by omega) h2 ?_ ?_ ?_
  · intro k H1 hk s1 C hC; exact hC _ (Same.refl _)
  · intro k H1 hk _ s1 C hC
    rw [Int.zero_add]
    exact ⟨_, rfl, _, rfl, _, rfl, p, l, n, k, os, o, ps, rfl, s1.seq hS, hP.same s1, few, hn, hk, hp, fun H2 s2 => hC _ s2⟩
  · intro H1 s1 e1
    refine q l2 H1 s1 h2 ?_
    rw [e1, List.filter_eq_self.mpr (fun _ _ => rfl)]
    unfold tabW
    rw [List.map_map]; rfl
theorem ok_P_tables_behind {f : Addr} {fd : FuncData} (F : Fun K "tables_behind" "tables_behind" s_P_tables_behind f fd) (m_self : mg "tables_behind" = some (.ref f)) (m_reversed : mg "reversed" = none) (m_list : mg "list" = none)
    (D_P_with_bidder : DefOk P w K mg base 4 "with_bidder" ["behind", "listed"] [] (sp_P_with_bidder K)) : DefOk P w K mg base 5 "tables_behind" ["many", "offers"] [] (sp_P_tables_behind K) := by
  refine F.def_okQ m_self (bnd2 F fun _ _ _ _ _ _ _ _ => rfl) sc_P_tables_behind (fun vs H Q E h => ?_) (fun cdv A outer s H vs Q E hr h => ?_)
  · obtain ⟨l, n, os, as, rfl, _⟩ := h; rfl
  obtain ⟨l, n, os, as, rfl, hH, hn, hO, q⟩ := h
  refine ⟨_, (R.pss_cons (R.ps_set (i := 2) sc_P_tables_behind.nd rfl (Or.inl rfl) (R.pe_lst (R.pa_c (R.pe_op op_rep (R.pe_lst (R.pa_c R.pe_int R.pa_nil)) (R.pe_op op_shlN R.pe_int (R.pv 0))) R.pa_nil)))
    (R.pss_cons (R.ps_for PassesOwn.never rfl (R.pi_rev rfl m_reversed (R.pa_c (R.pv 1) R.pa_nil)) (R.pg_name (i := 3) sc_P_tables_behind.nd rfl (Or.inl rfl)) (R.pss_one (R.ps_expr (R.pe_append (R.pv 2) (R.pa_c (R.pe_callD D_P_with_bidder hr (by decide) rfl (R.pa_c (R.pe_ix (R.ixL K) (R.pv 2) (R.pe_un un_neg R.pe_int) (fun _ _ => rfl)) (R.pa_c (R.pv 3) R.pa_nil))) R.pa_nil)))))
    (R.pss_one (R.ps_ret (R.pe_listrev rfl rfl m_list rfl m_reversed (R.pv 2)))))), ?_⟩
  obtain ⟨f1, f2⟩ := pow7 hn
  refine ⟨(by show 1 ≤ sizeLine; decide), fun l0 h0 => ⟨_, rfl, n, rfl, rfl, by omega, l0, _, _, rfl, rfl, upd_same, by omega, by omega, ?_, fun p hp => ⟨(by show 1 ≤ sizeLine; decide), fun lt ht => ?_⟩⟩⟩
  · show 1 * _ ≤ _
    rw [Int.toNat_natCast, Nat.one_mul]
    exact Nat.le_of_lt (small1000 (by omega))
  rw [Int.toNat_natCast] at ht ⊢
  have e0 : (List.replicate (2 ^ n) [V.int 0]).flatten = (tabW n []).map V.int := by
    rw [tab_nil, List.map_replicate]
    generalize 2 ^ n = m
    induction m with
    | zero => rfl
    | succ m ih => rw [List.replicate_succ, List.replicate_succ, List.flatten_cons, ih]; rfl
  rw [e0] at ht ⊢
  have s0 := ((same_new h0 (.lst [V.int 0])).trans (same_new hp (.lst ((tabW n []).map V.int)))).trans (same_new ht (.lst [V.ref p]))
  have ep : upd (upd (upd H l0 (.lst [V.int 0])) p (.lst ((tabW n []).map V.int))) lt (.lst [V.ref p]) p = some (.lst ((tabW n []).map V.int)) := same_new ht _ _ _ upd_same
  have el : upd (upd (upd H l0 (.lst [V.int 0])) p (.lst ((tabW n []).map V.int))) lt (.lst [V.ref p]) lt = some (.lst [V.ref p]) := upd_same
  have np : p ≠ lt := ne_of_none upd_same ht
  have hlt : H lt = none := ((same_new h0 (.lst [V.int 0])).trans (same_new hp (.lst ((tabW n []).map V.int)))).free ht
  generalize upd (upd (upd H l0 (.lst [V.int 0])) p (.lst ((tabW n []).map V.int))) lt (.lst [V.ref p]) = H1 at s0 ep el ⊢
  refine ⟨_, rfl, l, _, rfl, SqL.of (s0 _ _ hH.1), ?_⟩
  have al : (as.map V.ref).length = os.length := by rw [List.length_map, hH.2.1]
  refine for_rev (xs := as.map V.ref) (fun k σ H' => Same H H' ∧ (∃ bs : List Addr, H' lt = some (.lst (bs.map V.ref)) ∧ bs.length = k + 1 ∧ (∀ a ∈ bs, a ≠ lt) ∧ ∀ (j : Nat) (a : Addr), bs[j]? = some a → H' a = some (.lst ((tabW n (os.drop (os.length - j))).map V.int))) ∧ ∃ y, σ = [some (nv n), some (.ref l), some (.ref lt), y]) ?_ ?_ ?_ ?_
  · refine ⟨s0, ⟨[p], el, rfl, fun a ha => by rw [List.mem_singleton.mp ha]; exact np, fun j a e => ?_⟩, _, rfl⟩
    have hj : j = 0 := by
      have := (List.getElem?_eq_some_iff.mp e).1
      rw [List.length_singleton] at this; omega
    subst hj
    have e' : p = a := Option.some.inj e
    subst e'
    rw [Nat.sub_zero, List.drop_length]; exact ep
  · rintro k σ H2 _ ⟨s2, _⟩; exact SqL.of (s2 _ _ hH.1)
  · rintro k v σ H2 hk hv ⟨s2, ⟨bs, eb, hbl, hne, hb⟩, y, rfl⟩
    rw [al] at hk hv
    obtain ⟨a, o, ps, rfl, _, ho, hP⟩ := (hH.same s2).at hv
    have hl : bs[k]? = some (bs[k]'(by omega)) := List.getElem?_eq_getElem (by omega)
    have ed : os.drop (os.length - (k + 1)) = o :: os.drop (os.length - k) := by
      have hi : os.length - 1 - k < os.length := by omega
      have eo : os[os.length - 1 - k] = o := by
        rw [List.getElem?_eq_getElem hi] at ho; exact Option.some.inj ho
      have e1 : os.length - (k + 1) = os.length - 1 - k := by omega
      have e2 : os.length - k = os.length - 1 - k + 1 := by omega
      rw [e1, e2, List.drop_eq_getElem_cons hi, eo]
    have hmo : o ∈ os := List.mem_of_getElem? ho
    obtain ⟨g1, g2⟩ := hO.2 o hmo
    refine ⟨_, rfl, .inl ⟨rfl, _, SqL.of eb⟩, _, rfl, _, rfl, lt, _, _, _, rfl, rfl, SqL.of eb, at_end (k := k) (v := V.ref bs[k]) (by rw [List.length_map]; exact hbl) (by rw [List.getElem?_map, hl]; rfl), _, rfl, bs[k], a, n, os.drop (os.length - k), o, ps, rfl, SqL.of (hb k _ hl), hP, g1, hn, g2, fun r H3 s3 hr er => ?_⟩
    have eb3 := s3 _ _ eb
    have nr : r ≠ lt := Ne.symm (ne_of_none eb hr)
    refine ⟨lt, _, _, rfl, rfl, eb3, by rw [List.length_map, hbl]; have := hO.1; exact small1000 (by omega), ?_⟩
    refine ⟨(s2.trans s3).upd hlt _, ⟨bs ++ [r], by rw [upd_same, List.map_append]; rfl, by rw [List.length_append, hbl]; rfl, fun x hx => ?_, fun j x e => ?_⟩, _, rfl⟩
    · rcases List.mem_append.mp hx with hx | hx
      · exact hne x hx
      · rw [List.mem_singleton.mp hx]; exact nr
    · by_cases hj : j < bs.length
      · rw [List.getElem?_append_left hj] at e
        rw [upd_ne (hne x (List.mem_of_getElem? e))]
        exact s3 _ _ (hb j x e)
      · have hj' : j = k + 1 := by
          have := (List.getElem?_eq_some_iff.mp e).1
          rw [List.length_append, List.length_singleton] at this; omega
        subst hj'
        rw [List.getElem?_append_right (by omega), hbl, Nat.sub_self] at e
        have e' : r = x := Option.some.inj e
        subst e'
        rw [upd_ne nr, ed]; exact er
  · rintro σ H2 ⟨s2, ⟨bs, eb, hbl, hne, hb⟩, y, rfl⟩
    rw [al] at hbl
    refine ⟨_, rfl, lt, _, rfl, eb, fun r hr => ?_⟩
    have sr := same_new hr (.lst (bs.map V.ref).reverse)
    refine q r _ bs.reverse (s2.trans sr) (by rw [upd_same, List.map_reverse]) (by rw [List.length_reverse, hbl]) fun j x e => ?_
    have hj : j < bs.length := by
      have := (List.getElem?_eq_some_iff.mp e).1
      rwa [List.length_reverse] at this
    rw [List.getElem?_reverse hj] at e
    have z := hb _ x e
    have e3 : os.length - (bs.length - 1 - j) = j := by omega
    rw [e3] at z
    exact sr _ _ z
theorem ok_P_greatest_by_bundle {f : Addr} {fd : FuncData} (F : Fun K "greatest_by_bundle" "greatest_by_bundle" s_P_greatest_by_bundle f fd) (m_self : mg "greatest_by_bundle" = some (.ref f))
    (D_P_tables_behind : DefOk P w K mg base 5 "tables_behind" ["many", "offers"] [] (sp_P_tables_behind K)) : DefOk P w K mg base 6 "greatest_by_bundle" ["many", "offers"] [] (sp_P_greatest_by_bundle K) := by
  refine F.def_okQ m_self (bnd2 F fun _ _ _ _ _ _ _ _ => rfl) sc_P_greatest_by_bundle (fun vs H Q E h => ?_) (fun cdv A outer s H vs Q E hr h => ?_)
  · obtain ⟨l, n, os, as, rfl, _⟩ := h; rfl
  obtain ⟨l, n, os, as, rfl, hH, hn, hO, q⟩ := h
  refine ⟨_, (R.pss_one (R.ps_ret (R.pe_ix (R.ixL K) (R.pe_callD D_P_tables_behind hr (by decide) rfl (R.pa_c (R.pv 0) (R.pa_c (R.pv 1) R.pa_nil))) R.pe_int (fun _ _ => rfl)))), ?_⟩
  refine ⟨_, rfl, _, rfl, l, n, os, as, rfl, hH, hn, hO, fun r H1 bs s1 er hl hb => ?_⟩
  have h0 : bs[0]? = some (bs[0]'(by omega)) := List.getElem?_eq_getElem (by omega)
  refine ⟨r, _, _, V.ref bs[0], rfl, rfl, SqL.of er, at_nat (k := 0) (by rw [List.getElem?_map, h0]; rfl), ?_⟩
  exact q _ H1 s1 (hb 0 _ h0)
theorem ok_P_greatest_of {f : Addr} {fd : FuncData} (F : Fun K "greatest_of" "greatest_of" s_P_greatest_of f fd) (m_self : mg "greatest_of" = some (.ref f))
    (D_P_greatest_by_bundle : DefOk P w K mg base 6 "greatest_by_bundle" ["many", "offers"] [] (sp_P_greatest_by_bundle K)) : DefOk P w K mg base 7 "greatest_of" ["many", "offers"] [] (sp_P_greatest_of K) := by
  refine F.def_okQ m_self (bnd2 F fun _ _ _ _ _ _ _ _ => rfl) sc_P_greatest_of (fun vs H Q E h => ?_) (fun cdv A outer s H vs Q E hr h => ?_)
  · obtain ⟨l, n, os, as, rfl, _⟩ := h; rfl
  obtain ⟨l, n, os, as, rfl, hH, hn, hO, q⟩ := h
  refine ⟨_, (R.pss_one (R.ps_ret (R.pe_ix (R.ixL K) (R.pe_callD D_P_greatest_by_bundle hr (by decide) rfl (R.pa_c (R.pv 0) (R.pa_c (R.pv 1) R.pa_nil))) (R.pe_un un_neg R.pe_int) (fun _ _ => rfl)))), ?_⟩
  obtain ⟨f1, f2⟩ := pow7 hn
  refine ⟨_, rfl, _, rfl, l, n, os, as, rfl, hH, hn, hO, fun r H1 s1 er => ?_⟩
  have hlt : 2 ^ n - 1 < (tabW n os).length := by rw [tabW_len]; omega
  refine ⟨_, rfl, r, _, _, V.int (bestW 0 os), rfl, rfl, SqL.of er, at_end (k := 2 ^ n - 1) (by rw [List.length_map, tabW_len]; omega) ?_, q H1 s1⟩
  rw [List.getElem?_map, List.getElem?_eq_getElem hlt]
  have z := tabW_at (n := n) (f := 2 ^ n - 1) os (by omega)
  rw [List.getD_eq_getElem?_getD, List.getElem?_eq_getElem hlt, Nat.sub_self] at z
  show some (V.int _) = some (V.int _)
  congr 2
theorem ok_P_amount_of {f : Addr} {fd : FuncData} (F : Fun K "amount_of" "amount_of" s_P_amount_of f fd) (m_self : mg "amount_of" = some (.ref f)) (m_dict : mg "dict" = none) : DefOk P w K mg base 1 "amount_of" ["listed", "bundle"] [] (sp_P_amount_of K) := by
  refine F.def_okQ m_self (bnd2 F fun _ _ _ _ _ _ _ _ => rfl) sc_P_amount_of (fun vs H Q E h => ?_) (fun cdv A outer s H vs Q E hr h => ?_)
  · obtain ⟨l, o, ps, b, rfl, _⟩ := h; rfl
  obtain ⟨l, o, ps, b, rfl, hP, nd, few, q⟩ := h
  refine ⟨_, (R.pss_one (R.ps_ret (R.pe_dget2 hr.units (R.pe_cTy (call_dictP rfl) rfl m_dict (boot_dict) (R.pa_c (R.pv 0) R.pa_nil)) (R.pv 1) R.pe_int))), ?_⟩
  refine ⟨_, rfl, l, o, ps, rfl, hP, nd, by omega, fun p hp => ⟨p, rfl, isD_dK upd_same, _, rfl, _, DGet.k (k := Sum.inl (b : Int)) upd_same, ?_⟩⟩
  rw [valV_amt]
  exact q _ (same_new hp _)
theorem ok_P_first_choice {f : Addr} {fd : FuncData} (F : Fun K "first_choice" "first_choice" s_P_first_choice f fd) (m_self : mg "first_choice" = some (.ref f)) (m_max : mg "max" = none)
    (D_P_choices_in : DefOk P w K mg base 2 "choices_in" ["listed", "free"] [] (sp_P_choices_in K)) : DefOk P w K mg base 3 "first_choice" ["behind", "listed", "free"] [] (sp_P_first_choice K) := by
  refine F.def_okQ m_self (bnd3 F fun _ _ _ _ _ _ _ _ _ => rfl) sc_P_first_choice (fun vs H Q E h => ?_) (fun cdv A outer s H vs Q E hr h => ?_)
  · obtain ⟨p, l, n, f, os, o, ps, rfl, _⟩ := h; rfl
  obtain ⟨p, l, n, fb, os, o, ps, rfl, hS, hP, few, hn, hf, hp, q⟩ := h
  refine ⟨_, (R.pss_cons (R.ps_compE (i := 3) (defScope s_P_first_choice) ["behind", "listed", "free", "ranked"] ["bundle", "amount"] ["behind", "free"] [0, 2] sc_P_first_choice.nd rfl (Or.inl rfl) rfl rfl rfl rfl rfl ⟨s.heap.objs.size + 1, rfl⟩ rfl rfl (by decide +kernel) (R.pi_list (R.pe_callD D_P_choices_in hr (by decide) rfl (R.pa_c (R.pv 1) (R.pa_c (R.pv 2) R.pa_nil)))) (fun C s2 H2 fp => (R.pg_tup K 2 rfl (R.pgs_cons (R.pg_name (i := 0) (show List.Nodup (["bundle", "amount", "behind", "free"] : List Str) from by decide +kernel) rfl (Or.inl rfl)) (R.pgs_cons (R.pg_name (i := 1) (show List.Nodup (["bundle", "amount", "behind", "free"] : List Str) from by decide +kernel) rfl (Or.inl rfl)) R.pgs_nil)))) (fun C s2 H2 fp => R.pf_nil) (fun C s2 H2 fp => (R.pe_tup (R.pa_c (R.pe_op op_add (R.pv 1) (R.pe_ix (R.ixL K) (R.pv 2) (R.pe_op (opE0 op_sub) (R.pv 3) (R.pv 0)) (fun _ _ => rfl))) (R.pa_c (R.pv 1) (R.pa_c (R.pe_un un_neg (R.pv 0)) R.pa_nil))))))
    (R.pss_one (R.ps_ret (R.pe_un un_neg (R.pe_ix (R.ixT K) (R.pe_cB (call_maxT rfl hr.units) rfl m_max (boot_max) (R.pa_c (R.pv 3) R.pa_nil)) R.pe_int (fun _ _ => rfl)))))), ?_⟩
  refine ⟨_, rfl, _, rfl, l, o, ps, fb, rfl, hP, few, fun r H1 qs s1 h1 hq => ⟨r, rfl, ⟨_, SqL.of hq.1⟩, fun l2 h2 => ?_⟩⟩
  have tl : (tabW n os).length = 2 ^ n := tabW_len _ _
  have cl : (choices o fb).length ≤ 91 := by
    unfold choices
    have z1 := List.length_filter_le (fun x : Nat × Int => decide (fb &&& x.1 = x.1)) o
    rw [List.length_cons]; omega
  have cpos : 0 < (choices o fb).length := by unfold choices; rw [List.length_cons]; omega
  have hcs : ∀ c ∈ choices o fb, c.1 ≤ fb := fun c hc => (choices_le hn hf hp hc).1
  have hcv : ∀ c ∈ choices o fb, (tabW n os).getD (fb - c.1) 0 = bestW ((2 ^ n - 1 - fb) ||| c.1) os := fun c hc => choice_val hn hf hp hc
  have hcm := tab_max (os := os) hn hf hp
  have hpick := pick_first (os := os) hn hf hp
  generalize choices o fb = xs at hq cl hcs hcm hcv cpos q hpick
  have hlen : qs.length = xs.length := hq.2.1
  refine comp_lst2 (xs := qs.map V.ref) (fun k H' => Same H1 H' ∧ ∃ ts : List Addr, H' l2 = some (.lst (ts.map V.ref)) ∧ ts.length = k ∧ (∀ t ∈ ts, t ≠ l2) ∧ ∀ (i : Nat) (t : Addr) (c : Nat × Int), ts[i]? = some t → xs[i]? = some c → H' t = some (.tup ((rank n os fb c).map V.int))) ?_ (fun k H' _ z => SqL.of (z.1 _ _ hq.1)) ?_ ?_
  · exact ⟨same_new h2 _, [], upd_same, rfl, (fun t ht => by cases ht), fun i t c e => by simp at e⟩
  · rintro k v H2 hv ⟨s2, ts, e2, hl2, hne, hat⟩
    have hk : k < xs.length := by have := (List.getElem?_eq_some_iff.mp hv).1; rw [List.length_map] at this; omega
    obtain ⟨p2, x, rfl, hx, hp2⟩ := (hq.same s2).at hv
    refine ⟨p2, _, _, rfl, SqT.of hp2, ?_⟩
    intro K1 K0 k1 k0
    have hle := hcs x (List.mem_of_getElem? hx)
    refine fnilT ?_
    refine ⟨_, rfl, _, rfl, _, rfl, _, rfl, _, _, nv (fb - x.1), rfl, rfl, ?_, p, _, _, _, rfl, rfl, s2.seq (s1.seq hS), getD_at (by omega), _, _, rfl, rfl, _, rfl, _, rfl, _, rfl, (by show 3 ≤ sizeLine; decide), fun t ht => ?_⟩
    · show V.int ((fb : Int) - (x.1 : Int)) = V.int ((fb - x.1 : Nat) : Int)
      congr 1; omega
    have s3 := same_new ht (.tup ((rank n os fb x).map V.int))
    have nt : t ≠ l2 := Ne.symm (ne_of_none e2 ht)
    refine k1 _ _ _ (s3 _ _ e2) (by rw [List.length_map, hl2]; exact small1000 (by omega)) ⟨(s2.trans s3).upd h2 _, ts ++ [t], by rw [upd_same, List.map_append]; rfl, by rw [List.length_append, hl2]; rfl, fun t' ht' => ?_, fun i t' c e1 e3 => ?_⟩
    · rcases List.mem_append.mp ht' with ht' | ht'
      · exact hne t' ht'
      · rw [List.mem_singleton.mp ht']; exact nt
    · by_cases hi : i < ts.length
      · rw [List.getElem?_append_left hi] at e1
        rw [upd_ne (hne t' (List.mem_of_getElem? e1))]
        exact s3 _ _ (hat i t' c e1 e3)
      · have hi' : i = ts.length := by
          have := (List.getElem?_eq_some_iff.mp e1).1
          rw [List.length_append, List.length_singleton] at this; omega
        subst hi'
        rw [List.getElem?_append_right (Nat.le_refl _), Nat.sub_self] at e1
        rw [hl2, hx] at e3
        have e1' : t = t' := Option.some.inj e1
        have e3' : x = c := Option.some.inj e3
        subst e1' e3'
        rw [upd_ne nt]; exact upd_same
  · rintro H2 ⟨s2, ts, e2, hl2, hne, hat⟩
    rw [List.length_map, hlen] at hl2
    refine ⟨_, rfl, l2, ts, xs.map (rank n os fb), 3, rfl, e2, by rw [List.length_map]; exact hl2, by rw [List.length_map]; exact cpos, fun i t u e1 e3 => ?_, fun i t u e1 e3 hb => ?_⟩
    · rw [List.getElem?_map] at e3
      obtain ⟨c, hc, rfl⟩ := Option.map_eq_some_iff.mp e3
      exact ⟨rfl, hat i t c e1 hc⟩
    · rw [List.getElem?_map] at e3
      obtain ⟨c, hc, rfl⟩ := Option.map_eq_some_iff.mp e3
      have hcm' : c ∈ xs := List.mem_of_getElem? hc
      obtain ⟨g1, g2⟩ := hpick c hcm' fun d hd => hb _ (List.mem_map.mpr ⟨d, hd, rfl⟩)
      refine ⟨t, _, _, _, rfl, rfl, SqT.of (hat i t c e1 hc), at_nat (k := 2) rfl, _, rfl, ?_⟩
      show Q (.int (-(-(c.1 : Int)))) H2
      rw [Int.neg_neg]
      exact q H2 c (s1.trans s2) hcm' g1 g2
theorem ok_P_winners_of {f : Addr} {fd : FuncData} (F : Fun K "winners_of" "winners_of" s_P_winners_of f fd) (m_self : mg "winners_of" = some (.ref f)) (m_enumerate : mg "enumerate" = none)
    (D_P_tables_behind : DefOk P w K mg base 5 "tables_behind" ["many", "offers"] [] (sp_P_tables_behind K))
    (D_P_first_choice : DefOk P w K mg base 3 "first_choice" ["behind", "listed", "free"] [] (sp_P_first_choice K)) : DefOk P w K mg base 6 "winners_of" ["many", "offers"] [] (sp_P_winners_of K) := by
  refine F.def_okQ m_self (bnd2 F fun _ _ _ _ _ _ _ _ => rfl) sc_P_winners_of (fun vs H Q E h => ?_) (fun cdv A outer s H vs Q E hr h => ?_)
  · obtain ⟨l, n, os, as, rfl, _⟩ := h; rfl
  obtain ⟨l, n, os, as, rfl, hH, hn, hO, q⟩ := h
  refine ⟨_, (R.pss_cons (R.ps_set (i := 2) sc_P_winners_of.nd rfl (Or.inl rfl) (R.pe_callD D_P_tables_behind hr (by decide) rfl (R.pa_c (R.pv 0) (R.pa_c (R.pv 1) R.pa_nil))))
    (R.pss_cons (R.ps_set (i := 3) sc_P_winners_of.nd rfl (Or.inl rfl) (R.pe_op (opE0 op_sub) (R.pe_op op_shlN R.pe_int (R.pv 0)) R.pe_int))
    (R.pss_cons (R.ps_set (i := 4) sc_P_winners_of.nd rfl (Or.inl rfl) (R.pe_lst R.pa_nil))
    (R.pss_cons (R.ps_for PassesOwn.never rfl (R.pi_enum rfl m_enumerate (R.pa_c (R.pv 1) R.pa_nil)) (R.pg_tup K 2 rfl (R.pgs_cons (R.pg_name (i := 5) sc_P_winners_of.nd rfl (Or.inl rfl)) (R.pgs_cons (R.pg_name (i := 6) sc_P_winners_of.nd rfl (Or.inl rfl)) R.pgs_nil))) (R.pss_cons (R.ps_set (i := 7) sc_P_winners_of.nd rfl (Or.inl rfl) (R.pe_callD D_P_first_choice hr (by decide) rfl (R.pa_c (R.pe_ix (R.ixL K) (R.pv 2) (R.pe_op (opE0 op_add) (R.pv 5) R.pe_int) (fun _ _ => rfl)) (R.pa_c (R.pv 6) (R.pa_c (R.pv 3) R.pa_nil)))))
      (R.pss_cons (R.ps_expr (R.pe_append (R.pv 4) (R.pa_c (R.pv 7) R.pa_nil)))
      (R.pss_one (R.ps_set (i := 3) sc_P_winners_of.nd rfl (Or.inl rfl) (R.pe_op (opE0 op_sub) (R.pv 3) (R.pv 7)))))))
    (R.pss_one (R.ps_ret (R.pv 4))))))), ?_⟩
  obtain ⟨f1, f2⟩ := pow7 hn
  have al : (as.map V.ref).length = os.length := by rw [List.length_map, hH.2.1]
  refine ⟨_, rfl, _, rfl, l, n, os, as, rfl, hH, hn, hO, fun rt H1 bs s1 et hbl hbt => ?_⟩
  refine ⟨_, rfl, n, rfl, rfl, by omega, _, _, nv (2 ^ n - 1), rfl, rfl, (by show V.int (((2 ^ n : Nat) : Int) - 1) = V.int ((2 ^ n - 1 : Nat) : Int); congr 1; omega), ?_⟩
  refine ⟨(by show 0 ≤ sizeLine; decide), fun lp hp => ?_⟩
  have hp0 : H lp = none := s1.free hp
  have s2 := same_new hp (.lst [])
  have hH1 := (hH.same s1).same s2
  refine ⟨_, rfl, l, rfl, ⟨_, SqL.of hH1.1⟩, ?_⟩
  refine for_enum (xs := as.map V.ref) (fun k σ H' => Same H1 H' ∧ (∃ ch : Way, ch.length = k ∧ H' lp = some (.lst (ch.map fun c => V.int (c.1 : Int))) ∧ taken ch < 2 ^ n ∧ (∀ cs, IsFirst (taken ch) (os.drop k) cs → IsFirst 0 os (ch ++ cs)) ∧ ∃ y1 y2 y3, σ = [some (nv n), some (.ref l), some (.ref rt), some (nv (2 ^ n - 1 - taken ch)), some (.ref lp), y1, y2, y3])) ?_ ?_ ?_ ?_
  · exact ⟨s2, [], rfl, upd_same, f2, (fun cs h => h), _, _, _, rfl⟩
  · rintro k σ H2 _ ⟨z2, _⟩; exact SqL.of (z2 _ _ (s1 _ _ hH.1))
  · rintro k v p σ H2 hv ⟨z2, ch, hl, ep, htk, hstep, y1, y2, y3, rfl⟩ hp2
    have hk : k < os.length := by have := (List.getElem?_eq_some_iff.mp hv).1; omega
    have z3 := same_new hp2 (.tup [.int (k : Int), v])
    have zA := z2.trans z3
    obtain ⟨a, o, ps, rfl, _, ho, hP⟩ := ((hH.same s1).same zA).at hv
    obtain ⟨g1, g2⟩ := hO.2 o (List.mem_of_getElem? ho)
    have hb1 : bs[k + 1]? = some (bs[k + 1]'(by omega)) := List.getElem?_eq_getElem (by omega)
    have ed : os.drop k = o :: os.drop (k + 1) := by
      have eo : os[k] = o := by rw [List.getElem?_eq_getElem hk] at ho; exact Option.some.inj ho
      rw [List.drop_eq_getElem_cons hk, eo]
    refine ⟨p, _, rfl, SqT.of upd_same, rfl, _, _, rfl, _, _, rfl, rfl, ?_⟩
    refine ⟨_, rfl, _, rfl, _, _, nv (k + 1), rfl, rfl, rfl, rt, _, _, V.ref bs[k + 1], rfl, rfl, SqL.of (zA _ _ et), at_nat (by rw [List.getElem?_map, hb1]; rfl), _, rfl, _, rfl, bs[k + 1], a, n, 2 ^ n - 1 - taken ch, os.drop (k + 1), o, ps, rfl, SqL.of (zA _ _ (hbt _ _ hb1)), hP, g1, hn, by omega, g2, fun H3 c s3 hc hb hf => ?_⟩
    have ec : 2 ^ n - 1 - (2 ^ n - 1 - taken ch) = taken ch := by omega
    rw [ec] at hb hf
    have hop := (opt_choices hn (by omega) g2).mp hc
    rw [ec] at hop
    have hcle := (choices_le hn (by omega) g2 hc).1
    have etk : taken (ch ++ [c]) = taken ch ||| c.1 := taken_app _ _
    have efr : 2 ^ n - 1 - taken ch - c.1 = 2 ^ n - 1 - (taken ch ||| c.1) ∧ taken ch ||| c.1 < 2 ^ n := by
      have hlt : c.1 < 2 ^ n := by omega
      rcases hop with rfl | ⟨_, h0⟩
      · show 2 ^ n - 1 - taken ch - 0 = 2 ^ n - 1 - (taken ch ||| 0) ∧ taken ch ||| 0 < 2 ^ n
        rw [Nat.or_zero]; exact ⟨rfl, htk⟩
      · exact or_free n hn (taken ch) htk c.1 hlt h0
    have ep3 := s3 _ _ (z3 _ _ ep)
    refine ⟨_, rfl, .inl ⟨rfl, _, SqL.of ep3⟩, _, rfl, lp, _, _, rfl, rfl, ep3, by rw [List.length_map, hl]; have := hO.1; exact small1000 (by omega), ?_⟩
    refine ⟨_, rfl, _, rfl, _, _, nv (2 ^ n - 1 - taken ch - c.1), rfl, rfl, (by show V.int (((2 ^ n - 1 - taken ch : Nat) : Int) - (c.1 : Int)) = V.int ((2 ^ n - 1 - taken ch - c.1 : Nat) : Int); congr 1; omega), ?_⟩
    refine ⟨(zA.trans s3).upd hp _, ch ++ [c], by rw [List.length_append, hl]; rfl, by rw [upd_same, List.map_append]; rfl, by rw [etk]; exact efr.2, fun cs hcs => ?_, some (.int (k : Int)), some (.ref a), some (nv c.1), ?_⟩
    · rw [List.append_assoc]
      refine hstep _ ?_
      rw [ed]
      rw [etk] at hcs
      exact IsFirst.cons hop hcs hb fun d hd he => hf d ((opt_choices hn (by omega) g2).mpr (by rw [ec]; exact hd)) he
    · rw [etk, ← efr.1]; rfl
  · rintro σ H2 ⟨z2, ch, hl, ep, htk, hstep, y1, y2, y3, rfl⟩
    rw [al] at hstep
    have hF := hstep [] (by rw [List.drop_length]; exact first_nil _)
    rw [List.append_nil] at hF
    exact ⟨_, rfl, q lp H2 ch (s1.trans z2) hp0 hF ep⟩
theorem ok_P_without {f : Addr} {fd : FuncData} (F : Fun K "without" "without" s_P_without f fd) (m_self : mg "without" = some (.ref f)) (m_list : mg "list" = none) (m_enumerate : mg "enumerate" = none) : DefOk P w K mg base 1 "without" ["offers", "who"] [] (sp_P_without K) := by
  refine F.def_okQ m_self (bnd2 F fun _ _ _ _ _ _ _ _ => rfl) sc_P_without (fun vs H Q E h => ?_) (fun cdv A outer s H vs Q E hr h => ?_)
  · obtain ⟨l, os, as, i, rfl, _⟩ := h; rfl
  obtain ⟨l, os, as, i, rfl, hH, h12, q⟩ := h
  refine ⟨_, (R.pss_one (R.ps_ret (R.pe_comp (defScope s_P_without) ["offers", "who"] ["number", "listed"] ["who"] [1] rfl rfl rfl ⟨s.heap.objs.size + 1, rfl⟩ rfl rfl (by decide +kernel) (R.pi_enum rfl m_enumerate (R.pa_c (R.pv 0) R.pa_nil)) (fun C s2 H2 fp => (R.pg_tup K 2 rfl (R.pgs_cons (R.pg_name (i := 0) (show List.Nodup (["number", "listed", "who"] : List Str) from by decide +kernel) rfl (Or.inl rfl)) (R.pgs_cons (R.pg_name (i := 1) (show List.Nodup (["number", "listed", "who"] : List Str) from by decide +kernel) rfl (Or.inl rfl)) R.pgs_nil)))) (fun C s2 H2 fp => R.pf_nil) (fun C s2 H2 fp => (R.pe_ifExp (R.pt_cmpR op_eq (R.pv 0) (R.pv 2) (nomark _)) (R.pe_lst R.pa_nil) (R.pe_cTy (call_listK K) rfl m_list (boot_list) (R.pa_c (R.pv 1) R.pa_nil))))))), ?_⟩
  have al : (as.map V.ref).length = os.length := by rw [List.length_map, hH.2.1]
  refine ⟨_, rfl, l, rfl, ⟨_, SqL.of hH.1⟩, fun r hr => ?_⟩
  refine comp_enum2 (xs := as.map V.ref) (fun k H' => Same H H' ∧ ∃ bs, HallAt H' r ((os.set i []).take k) bs ∧ (∀ b ∈ bs, b ≠ r) ∧ ∀ b ∈ bs, H b = none) ?_ (fun k H' _ z => SqL.of (z.1 _ _ hH.1)) ?_ ?_
  · exact ⟨same_new hr _, [], by rw [List.take_zero]; exact hall_nil upd_same, (fun x hx => by cases hx), fun x hx => by cases hx⟩
  · rintro k v p H2 hv ⟨s2, bs, hB, hne, hnn⟩ hp K1 K0 k1 k0
    have hk : k < os.length := by have := (List.getElem?_eq_some_iff.mp hv).1; omega
    have sp := same_new hp (.tup [V.int (k : Int), v])
    have sA := s2.trans sp
    have hBp := hB.same sp
    have bl : bs.length = k := by rw [hB.2.1, List.length_take, List.length_set]; omega
    obtain ⟨x, o, ps, rfl, _, ho, hP⟩ := (hH.same sA).at hv
    refine fnilT ⟨_, rfl, _, rfl, rfl, _, rfl, ?_⟩
    rw [show decide (V.int (k : Int) = nv i) = decide (k = i) from int_eq_nat]
    by_cases hik : k = i
    · rw [decide_eq_true hik]
      refine iteT ⟨(by show 0 ≤ sizeLine; decide), fun c hc => ?_⟩
      have s3 := same_new hc (.lst [])
      have hB3 := hBp.same s3
      have nc : c ≠ r := Ne.symm (ne_of_none hBp.1 hc)
      obtain ⟨g1, g2⟩ := hall_snoc hB3 hne (pairs_nil upd_same) nc
      refine k1 _ _ _ hB3.1 (by rw [List.length_map, bl]; exact small1000 (by omega)) ⟨(sA.trans s3).upd hr _, bs ++ [c], ?_, g2, fun b hb => ?_⟩
      · rw [List.take_add_one, List.getElem?_set, if_pos hik.symm, if_pos (by omega)]; exact g1
      · rcases List.mem_append.mp hb with hb | hb
        · exact hnn b hb
        · rw [List.mem_singleton.mp hb]; exact sA.free hc
    · rw [decide_eq_false hik]
      refine iteF ⟨_, rfl, x, _, rfl, .inl (SqL.of hP.1), fun c hc => ?_⟩
      have s3 := same_new hc (.lst (ps.map V.ref))
      have hB3 := hBp.same s3
      have nc : c ≠ r := Ne.symm (ne_of_none hBp.1 hc)
      obtain ⟨g1, g2⟩ := hall_snoc hB3 hne (pairs_copy hP hc) nc
      refine k1 _ _ _ hB3.1 (by rw [List.length_map, bl]; exact small1000 (by omega)) ⟨(sA.trans s3).upd hr _, bs ++ [c], ?_, g2, fun b hb => ?_⟩
      · rw [List.take_add_one, List.getElem?_set, if_neg (fun z => hik z.symm), ho]; exact g1
      · rcases List.mem_append.mp hb with hb | hb
        · exact hnn b hb
        · rw [List.mem_singleton.mp hb]; exact sA.free hc
  · rintro H2 ⟨s2, bs, hB, hne, hnn⟩
    have e9 : (os.set i []).take (as.map V.ref).length = os.set i [] := by rw [al, ← List.length_set (i := i) (a := ([] : Off)), List.take_length]
    rw [e9] at hB
    exact q r H2 bs s2 hr hnn hne hB
theorem hallok_set {n i : Nat} {os : List Off} (h : HallOk n os) : HallOk n (os.set i []) :=
  ⟨by rw [List.length_set]; exact h.1, set_ok h.2 ⟨Nat.zero_le _, fun c hc => by cases hc⟩⟩
theorem ok_P_receipts_of {f : Addr} {fd : FuncData} (F : Fun K "receipts_of" "receipts_of" s_P_receipts_of f fd) (m_self : mg "receipts_of" = some (.ref f)) (m_enumerate : mg "enumerate" = none)
    (D_P_greatest_of : DefOk P w K mg base 7 "greatest_of" ["many", "offers"] [] (sp_P_greatest_of K))
    (D_P_winners_of : DefOk P w K mg base 6 "winners_of" ["many", "offers"] [] (sp_P_winners_of K))
    (D_P_amount_of : DefOk P w K mg base 1 "amount_of" ["listed", "bundle"] [] (sp_P_amount_of K))
    (D_P_without : DefOk P w K mg base 1 "without" ["offers", "who"] [] (sp_P_without K)) : DefOk P w K mg base 8 "receipts_of" ["many", "offers"] [] (sp_P_receipts_of K) := by
  refine F.def_okQ m_self (bnd2 F fun _ _ _ _ _ _ _ _ => rfl) sc_P_receipts_of (fun vs H Q E h => ?_) (fun cdv A outer s H vs Q E hr h => ?_)
  · obtain ⟨l, n, os, as, rfl, _⟩ := h; rfl
  obtain ⟨l, n, os, as, rfl, hH, hn, hO, hG, q⟩ := h
  refine ⟨_, (R.pss_cons (R.ps_set (i := 2) sc_P_receipts_of.nd rfl (Or.inl rfl) (R.pe_callD D_P_greatest_of hr (by decide) rfl (R.pa_c (R.pv 0) (R.pa_c (R.pv 1) R.pa_nil))))
    (R.pss_cons (R.ps_set (i := 3) sc_P_receipts_of.nd rfl (Or.inl rfl) (R.pe_callD D_P_winners_of hr (by decide) rfl (R.pa_c (R.pv 0) (R.pa_c (R.pv 1) R.pa_nil))))
    (R.pss_cons (R.ps_set (i := 4) sc_P_receipts_of.nd rfl (Or.inl rfl) (R.pe_lst R.pa_nil))
    (R.pss_cons (R.ps_for PassesOwn.never rfl (R.pi_enum rfl m_enumerate (R.pa_c (R.pv 3) R.pa_nil)) (R.pg_tup K 2 rfl (R.pgs_cons (R.pg_name (i := 5) sc_P_receipts_of.nd rfl (Or.inl rfl)) (R.pgs_cons (R.pg_name (i := 6) sc_P_receipts_of.nd rfl (Or.inl rfl)) R.pgs_nil))) (R.pss_cons (R.ps_set (i := 7) sc_P_receipts_of.nd rfl (Or.inl rfl) (R.pe_callD D_P_amount_of hr (by decide) rfl (R.pa_c (R.pe_ix (R.ixL K) (R.pv 1) (R.pv 5) (fun _ _ => rfl)) (R.pa_c (R.pv 6) R.pa_nil))))
      (R.pss_cons (R.ps_set (i := 8) sc_P_receipts_of.nd rfl (Or.inl rfl) (R.pe_callD D_P_greatest_of hr (by decide) rfl (R.pa_c (R.pv 0) (R.pa_c (R.pe_callD D_P_without hr (by decide) rfl (R.pa_c (R.pv 1) (R.pa_c (R.pv 5) R.pa_nil))) R.pa_nil))))
      (R.pss_cons (R.ps_set (i := 9) sc_P_receipts_of.nd rfl (Or.inl rfl) (R.pe_op op_sub (R.pv 2) (R.pv 7)))
      (R.pss_one (R.ps_expr (R.pe_append (R.pv 4) (R.pa_c (R.pe_tup (R.pa_c (R.pv 6) (R.pa_c (R.pv 7) (R.pa_c (R.pv 8) (R.pa_c (R.pv 9) (R.pa_c (R.pe_op op_sub (R.pv 8) (R.pv 9)) R.pa_nil)))))) R.pa_nil))))))))
    (R.pss_one (R.ps_ret (R.pv 4))))))), ?_⟩
  refine ⟨_, rfl, _, rfl, l, n, os, as, rfl, hH, hn, hO, fun H1 s1 => ?_⟩
  have hH1 := hH.same s1
  refine ⟨_, rfl, _, rfl, l, n, os, as, rfl, hH1, hn, hO, fun rp H2 ch s2 hrp hF ep => ?_⟩
  refine ⟨(by show 0 ≤ sizeLine; decide), fun lr hlr => ?_⟩
  have s3 := same_new hlr (.lst [])
  have sB := (s1.trans s2).trans s3
  have hlr0 : H lr = none := (s1.trans s2).free hlr
  have cl := hF.way.length
  have chl : (ch.map fun c => V.int (c.1 : Int)).length = os.length := by rw [List.length_map, cl]
  refine ⟨_, rfl, rp, rfl, ⟨_, SqL.of (s3 _ _ ep)⟩, ?_⟩
  refine for_enum (xs := ch.map fun c => V.int (c.1 : Int)) (fun k σ H' => Same H2 H' ∧ (∃ rs : List Addr, rs.length = k ∧ H' lr = some (.lst (rs.map V.ref)) ∧ ∀ (i : Nat) (t : Addr), rs[i]? = some t → H' t = some (.tup ((recI os ch i).map V.int))) ∧ ∃ y1 y2 y3 y4 y5, σ = [some (nv n), some (.ref l), some (.int (bestW 0 os)), some (.ref rp), some (.ref lr), y1, y2, y3, y4, y5]) ?_ ?_ ?_ ?_
  · exact ⟨s3, ⟨[], rfl, upd_same, fun i t e => by simp at e⟩, _, _, _, _, _, rfl⟩
  · rintro k σ H3 _ ⟨z3, _⟩; exact SqL.of (z3 _ _ ep)
  · rintro k v p σ H3 hv ⟨z3, ⟨rs, hrl, er, hat⟩, y1, y2, y3, y4, y5, rfl⟩ hp
    have hk : k < os.length := by have := (List.getElem?_eq_some_iff.mp hv).1; omega
    rw [List.getElem?_map] at hv
    obtain ⟨c, hc, rfl⟩ := Option.map_eq_some_iff.mp hv
    have z4 := same_new hp (.tup [.int (k : Int), V.int (c.1 : Int)])
    have zA := z3.trans z4
    have hH4 := (hH1.same s2).same zA
    have hak : as[k]? = some (as[k]'(by rw [hH.2.1]; exact hk)) := List.getElem?_eq_getElem _
    have hok : os[k]? = some (os[k]'hk) := List.getElem?_eq_getElem _
    obtain ⟨ps, hP⟩ := hH4.2.2 k _ _ hak hok
    have hgo := hG _ (List.mem_of_getElem? hok)
    refine ⟨p, _, rfl, SqT.of upd_same, rfl, _, _, rfl, _, _, rfl, rfl, ?_⟩
    refine ⟨_, rfl, _, rfl, l, _, _, _, rfl, rfl, SqL.of hH4.1, at_nat (by rw [List.getElem?_map, hak]; rfl), _, rfl, _, _, ps, c.1, rfl, hP, hgo.1, (hO.2 _ (List.mem_of_getElem? hok)).1, fun H5 s5 => ?_⟩
    rw [way_amt hF.way hok hc hgo]
    have hH5 := hH4.same s5
    refine ⟨_, rfl, _, rfl, _, rfl, l, os, as, k, rfl, hH5, hO.1, fun rw6 H6 bs s6 _ _ _ hW => ?_⟩
    refine ⟨rw6, n, os.set k [], bs, rfl, hW, hn, hallok_set hO, fun H7 s7 => ?_⟩
    have zB := (s5.trans (s6.trans s7))
    have er7 := zB _ _ (z4 _ _ er)
    refine ⟨_, rfl, _, rfl, _, _, rfl, rfl, ?_⟩
    refine ⟨_, rfl, .inl ⟨rfl, _, SqL.of er7⟩, _, rfl, _, rfl, _, rfl, _, rfl, _, rfl, _, rfl, _, _, rfl, rfl, (by show 5 ≤ sizeLine; decide), fun t ht => ?_⟩
    have s8 := same_new ht (.tup ((recI os ch k).map V.int))
    have er8 := s8 _ _ er7
    have et : upd H7 t (.tup [V.int (c.1 : Int), V.int c.2, V.int (bestW 0 (os.set k [])), V.int (bestW 0 os - c.2), V.int (bestW 0 (os.set k []) - (bestW 0 os - c.2))]) = upd H7 t (.tup ((recI os ch k).map V.int)) := by
      unfold recI; rw [hc]; rfl
    refine ⟨lr, _, _, rfl, rfl, (by rw [et]; exact er8), by rw [List.length_map, hrl]; have := hO.1; exact small1000 (by omega), ?_⟩
    rw [et]
    have nt : t ≠ lr := Ne.symm (ne_of_none er7 ht)
    refine ⟨((zA.trans zB).trans s8).upd hlr _, ⟨rs ++ [t], by rw [List.length_append, hrl]; rfl, by rw [upd_same, List.map_append]; rfl, fun i t' e => ?_⟩, _, _, _, _, _, rfl⟩
    by_cases hi : i < rs.length
    · rw [List.getElem?_append_left hi] at e
      have z := hat i t' e
      rw [upd_ne (fun y => by rw [y, er] at z; cases z)]
      exact s8 _ _ (zB _ _ (z4 _ _ z))
    · have hi' : i = k := by
        have := (List.getElem?_eq_some_iff.mp e).1
        rw [List.length_append, List.length_singleton] at this; omega
      subst hi'
      rw [List.getElem?_append_right (by omega), hrl, Nat.sub_self] at e
      have e' : t = t' := Option.some.inj e
      subst e'
      rw [upd_ne nt]; exact upd_same
  · rintro σ H3 ⟨z3, ⟨rs, hrl, er, hat⟩, y1, y2, y3, y4, y5, rfl⟩
    rw [chl] at hrl
    exact ⟨_, rfl, q lr H3 ch rs ((s1.trans s2).trans z3) hlr0 hF er hrl hat⟩
theorem ok_P_pays_of {f : Addr} {fd : FuncData} (F : Fun K "pays_of" "pays_of" s_P_pays_of f fd) (m_self : mg "pays_of" = some (.ref f))
    (D_P_receipts_of : DefOk P w K mg base 8 "receipts_of" ["many", "offers"] [] (sp_P_receipts_of K)) : DefOk P w K mg base 9 "pays_of" ["many", "offers"] [] (sp_P_pays_of K) := by
  refine F.def_okQ m_self (bnd2 F fun _ _ _ _ _ _ _ _ => rfl) sc_P_pays_of (fun vs H Q E h => ?_) (fun cdv A outer s H vs Q E hr h => ?_)
  · obtain ⟨l, n, os, as, rfl, _⟩ := h; rfl
  obtain ⟨l, n, os, as, rfl, hH, hn, hO, hG, q⟩ := h
  refine ⟨_, (R.pss_one (R.ps_ret (R.pe_comp (defScope s_P_pays_of) ["many", "offers"] ["receipt"] [] [] rfl rfl rfl ⟨s.heap.objs.size + 1, rfl⟩ rfl rfl (by decide +kernel) (R.pi_list (R.pe_callD D_P_receipts_of hr (by decide) rfl (R.pa_c (R.pv 0) (R.pa_c (R.pv 1) R.pa_nil)))) (fun C s2 H2 fp => (R.pg_name (i := 0) (show List.Nodup (["receipt"] : List Str) from by decide +kernel) rfl (Or.inl rfl))) (fun C s2 H2 fp => R.pf_nil) (fun C s2 H2 fp => (R.pe_ix (R.ixT K) (R.pv 0) R.pe_int (fun _ _ => rfl)))))), ?_⟩
  refine ⟨_, rfl, _, rfl, l, n, os, as, rfl, hH, hn, hO, hG, fun r H1 ch rs s1 hr hF er hrl hat => ⟨r, rfl, ⟨_, SqL.of er⟩, fun l2 h2 => ?_⟩⟩
  have h20 : H l2 = none := s1.free h2
  refine comp_lst1 (xs := rs.map V.ref) (fun k H' => Same H1 H' ∧ H' l2 = some (.lst (((List.range k).map fun i => payOf os ch i).map V.int))) ?_ (fun k H' _ z => SqL.of (z.1 _ _ er)) ?_ ?_
  · exact ⟨same_new h2 _, upd_same⟩
  · rintro k v H2 hv ⟨s2, e2⟩ K1 K0 k1 k0
    have hk : k < rs.length := by have := (List.getElem?_eq_some_iff.mp hv).1; rwa [List.length_map] at this
    rw [List.getElem?_map] at hv
    obtain ⟨t, ht, rfl⟩ := Option.map_eq_some_iff.mp hv
    refine fnilT ⟨_, rfl, t, _, _, _, rfl, rfl, SqT.of (s2 _ _ (hat k t ht)), at_nat (k := 4) rfl, ?_⟩
    refine k1 _ _ _ e2 (by rw [List.length_map, List.length_map, List.length_range]; have := hO.1; exact small1000 (by omega)) ⟨s2.upd h2 _, ?_⟩
    rw [upd_same, List.range_succ, List.map_append, List.map_append]; rfl
  · rintro H2 ⟨s2, e2⟩
    rw [List.length_map, hrl] at e2
    exact q l2 H2 ch (s1.trans s2) h20 hF e2
end
end My


set_option Elab.async false
set_option linter.all false
set_option maxRecDepth 100000
set_option maxHeartbeats 4000000
namespace My
open PySem PySem.Spec PyProof.Rows L2 GM GP
section
variable {P : Program} {w : World} {K : PySem.W.Frag} {mg : Str → Option Value} {base : Heap}
theorem ok_L_scale {f : Addr} {fd : FuncData} (F : Fun K "_law_scale" "_law_scale" s_L_scale f fd) (m_self : mg "_law_scale" = some (.ref f)) : DefOk P w K mg base 1 "_law_scale" ["_law_cell"] [] (sp_L_scale K) := by
  refine F.def_okQ m_self (bnd1 F fun _ _ _ _ _ _ _ => rfl) sc_L_scale (fun vs H Q E h => ?_) (fun cdv A outer s H vs Q E hr h => ?_)
  · obtain ⟨c, rfl, _⟩ := h; rfl
  obtain ⟨c, rfl, q⟩ := h
  refine ⟨_, (R.pss_one (R.ps_ret (R.pe_tup (R.pa_c (R.pe_op op_mod (R.pv 0) R.pe_int) (R.pa_c (R.pe_ix ix_list (R.pe_lst (R.pa_c R.pe_int (R.pa_c R.pe_int (R.pa_c (R.pe_op op_mulB R.pe_int (R.pe_op op_pow R.pe_int R.pe_int)) R.pa_nil)))) (R.pe_op (opE op_mod) (R.pe_op op_fdiv (R.pv 0) R.pe_int) R.pe_int) (fun _ _ => rfl)) (R.pa_c (R.pe_ix ix_list (R.pe_lst (R.pa_c R.pe_int (R.pa_c R.pe_int (R.pa_c R.pe_int (R.pa_c (R.pe_op op_pow R.pe_int R.pe_int) R.pa_nil))))) (R.pe_op (opE op_mod) (R.pe_op op_fdiv (R.pv 0) R.pe_int) R.pe_int) (fun _ _ => rfl)) R.pa_nil)))))), ?_⟩
  obtain ⟨j, ej, hj⟩ : ∃ j : Nat, c / 4 % 3 = (j : Int) ∧ j < 3 := ⟨(c / 4 % 3).toNat, by omega, by omega⟩
  obtain ⟨i, ei, hi⟩ : ∃ i : Nat, c / 12 % 4 = (i : Int) ∧ i < 4 := ⟨(c / 12 % 4).toNat, by omega, by omega⟩
  obtain ⟨v1, e1, b1, b2⟩ : ∃ v : Int, ([V.int 1, V.int 7, V.int (4 * 10 ^ 10)] : List V)[j]? = some (V.int v) ∧ 1 ≤ v ∧ v ≤ 10 ^ 12 := by
    rcases (show j = 0 ∨ j = 1 ∨ j = 2 by omega) with rfl | rfl | rfl
    · exact ⟨1, rfl, by decide, by decide⟩
    · exact ⟨7, rfl, by decide, by decide⟩
    · exact ⟨4 * 10 ^ 10, rfl, by decide, by decide⟩
  obtain ⟨v2, e2, b3⟩ : ∃ v : Int, ([V.int 1, V.int 1, V.int 2, V.int (10 ^ 10)] : List V)[i]? = some (V.int v) ∧ 1 ≤ v := by
    rcases (show i = 0 ∨ i = 1 ∨ i = 2 ∨ i = 3 by omega) with rfl | rfl | rfl | rfl
    · exact ⟨1, rfl, by decide⟩
    · exact ⟨1, rfl, by decide⟩
    · exact ⟨2, rfl, by decide⟩
    · exact ⟨10 ^ 10, rfl, by decide⟩
  refine ⟨_, rfl, _, _, rfl, rfl, (by show (0 : Int) < 4; decide), ?_⟩
  refine ⟨_, _, rfl, rfl, ⟨by decide, by decide, by decide⟩, _, _, rfl, rfl, mulOk_left (by decide), (by show 3 ≤ sizeLine; decide), fun la ha => ?_⟩
  refine ⟨_, rfl, _, _, rfl, rfl, ⟨by decide, by decide⟩, _, _, nv j, rfl, rfl, (by show (0 : Int) < 3; decide), congrArg V.int ej, la, _, _, V.int v1, rfl, rfl, SqL.of upd_same, at_nat e1, ?_⟩
  refine ⟨_, _, rfl, rfl, ⟨by decide, by decide, by decide⟩, (by show 4 ≤ sizeLine; decide), fun lb hb => ?_⟩
  refine ⟨_, rfl, _, _, rfl, rfl, ⟨by decide, by decide⟩, _, _, nv i, rfl, rfl, (by show (0 : Int) < 4; decide), congrArg V.int ei, lb, _, _, V.int v2, rfl, rfl, SqL.of upd_same, at_nat e2, ?_⟩
  refine ⟨(by show 3 ≤ sizeLine; decide), fun t ht => ?_⟩
  refine q t _ (((same_new ha _).trans (same_new hb _)).trans (same_new ht _)) ⟨c % 4, v1, v2, upd_same, by omega, by omega, b1, b2, b3⟩
theorem ok_L_offer_by {f : Addr} {fd : FuncData} (F : Fun K "_law_offer_by" "_law_offer_by" s_L_offer_by f fd) (m_self : mg "_law_offer_by" = some (.ref f)) (m_sum : mg "sum" = none) (m_range : mg "range" = none) : DefOk P w K mg base 1 "_law_offer_by" ["_law_cell", "_law_many", "_law_scale_here"] [] (sp_L_offer_by K) := by
  refine F.def_okQ m_self (bnd3 F fun _ _ _ _ _ _ _ _ _ => rfl) sc_L_offer_by (fun vs H Q E h => ?_) (fun cdv A outer s H vs Q E hr h => ?_)
  · obtain ⟨c, n, t, rfl, _⟩ := h; rfl
  obtain ⟨c, n, t, rfl, n1, hn, ⟨s0, s1, s2, et, g0, g1, g2, g3, g4⟩, q⟩ := h
  refine ⟨_, (R.pss_cons (R.ps_set (i := 3) sc_L_offer_by.nd rfl (Or.inl rfl) (R.pe_op (opE0 op_sub) (R.pe_op op_shlN R.pe_int (R.pv 1)) R.pe_int))
    (R.pss_cons (R.ps_set (i := 4) sc_L_offer_by.nd rfl (Or.inr rfl) (R.pe_op (opE0 op_add) (R.pe_op (opE op_mod) (R.pv 0) (R.pv 3)) R.pe_int))
    (R.pss_cons (R.ps_set (i := 5) sc_L_offer_by.nd rfl (Or.inl rfl) (R.pe_op op_fdiv (R.pv 0) (R.pv 3)))
    (R.pss_cons (R.ps_set (i := 6) sc_L_offer_by.nd rfl (Or.inl rfl) (R.pe_cB (call_sumL rfl) rfl m_sum (boot_sum) (R.pa_c (R.pe_comp (defScope s_L_offer_by) ["_law_cell", "_law_many", "_law_scale_here", "_law_top", "_law_bundle", "_law_rest", "_law_bits", "_law_size"] ["_law_k"] ["_law_bundle"] [4] rfl rfl rfl ⟨s.heap.objs.size + 1, rfl⟩ rfl rfl (by decide +kernel) (R.pi_range1 rfl m_range (R.pa_c (R.pv 1) R.pa_nil)) (fun C s2 H2 fp => (R.pg_name (i := 0) (show List.Nodup (["_law_k", "_law_bundle"] : List Str) from by decide +kernel) rfl (Or.inl rfl))) (fun C s2 H2 fp => R.pf_nil) (fun C s2 H2 fp => (R.pe_op op_andN (R.pe_op op_shrN (R.pv 1) (R.pv 0)) R.pe_int))) R.pa_nil)))
    (R.pss_cons (R.ps_set (i := 7) sc_L_offer_by.nd rfl (Or.inl rfl) (R.pe_op op_add (R.pe_op op_add (R.pe_op op_mod (R.pv 5) R.pe_int) R.pe_int) (R.pe_op op_mulB (R.pe_ix ix_tup (R.pv 2) R.pe_int (fun _ _ => rfl)) (R.pe_op op_sub (R.pv 6) R.pe_int))))
    (R.pss_one (R.ps_ret (R.pe_tup (R.pa_c (R.pv 4) (R.pa_c (R.pe_op op_add (R.pe_op op_mulB (R.pv 7) (R.pe_ix ix_tup (R.pv 2) R.pe_int (fun _ _ => rfl))) (R.pe_op op_mod (R.pe_op op_mulB (R.pe_op op_fdiv (R.pv 5) R.pe_int) R.pe_int) (R.pe_ix ix_tup (R.pv 2) R.pe_int (fun _ _ => rfl)))) R.pa_nil)))))))))), ?_⟩
  obtain ⟨f1, f2⟩ := pow7 hn
  have f3 : 2 ≤ 2 ^ n := (Nat.pow_le_pow_right (n := 2) (by decide) n1 : 2 ^ 1 ≤ 2 ^ n)
  have tpos : (0 : Int) < ((2 ^ n - 1 : Nat) : Int) := by omega
  refine ⟨_, rfl, n, rfl, rfl, by omega, _, _, nv (2 ^ n - 1), rfl, rfl, (by show V.int (((2 ^ n : Nat) : Int) - 1) = V.int ((2 ^ n - 1 : Nat) : Int); congr 1; omega), ?_⟩
  obtain ⟨j, ej, hj⟩ : ∃ j : Nat, c % ((2 ^ n - 1 : Nat) : Int) = (j : Int) ∧ j < 2 ^ n - 1 := by
    have a1 := Int.emod_nonneg c (show ((2 ^ n - 1 : Nat) : Int) ≠ 0 by omega)
    have a2 := Int.emod_lt_of_pos c tpos
    exact ⟨(c % ((2 ^ n - 1 : Nat) : Int)).toNat, by omega, by omega⟩
  refine ⟨_, rfl, _, rfl, _, _, nv j, rfl, rfl, tpos, congrArg V.int ej, _, _, nv (j + 1), rfl, rfl, rfl, ?_⟩
  refine ⟨_, rfl, _, rfl, _, _, rfl, rfl, ⟨tpos, by omega⟩, ?_⟩
  obtain ⟨rest, erest⟩ : ∃ r, c / ((2 ^ n - 1 : Nat) : Int) = r := ⟨_, rfl⟩
  refine ⟨_, rfl, _, rfl, by omega, by omega, fun l1 h1 => ?_⟩
  rw [Int.toNat_natCast]
  refine comp_rng_map (fun _ => true) (fun k => .int ((((j + 1) / 2 ^ k &&& 1 : Nat)) : Int)) (by omega) h1 ?_ ?_ ?_
  · intro k H1 hk s1 C hC; exact hC _ (Same.refl _)
  · intro k H1 hk _ s1 C hC
    rw [Int.zero_add]
    exact ⟨_, rfl, _, rfl, j + 1, k, rfl, rfl, _, 1, rfl, rfl, hC _ (Same.refl _)⟩
  · intro H1 z1 e1
    have bp := bits_pos n hn (j + 1) (by omega) (by omega)
    have em : (((List.range n).filter fun _ => true).map fun k => V.int ((((j + 1) / 2 ^ k &&& 1 : Nat)) : Int)) = ((List.range n).map fun k => ((((j + 1) / 2 ^ k &&& 1 : Nat)) : Int)).map V.int := by
      rw [List.filter_eq_self.mpr (fun _ _ => rfl), List.map_map]; rfl
    rw [em] at e1
    generalize ((List.range n).map fun k => ((((j + 1) / 2 ^ k &&& 1 : Nat)) : Int)) = bs at e1 bp
    refine ⟨l1, bs, rfl, SqL.of e1, ?_⟩
    generalize bs.sum = sb at bp
    have et1 := z1 _ _ et
    refine ⟨_, rfl, _, _, rfl, rfl, (by show (0 : Int) < 6; decide), _, _, rfl, rfl, _, rfl, t, _, _, _, rfl, rfl, SqT.of et1, at_nat (k := 0) rfl, _, rfl, _, _, rfl, rfl, _, _, rfl, rfl, mulOk_left (by omega), _, _, rfl, rfl, ?_⟩
    refine ⟨_, rfl, _, rfl, _, rfl, t, _, _, _, rfl, rfl, SqT.of et1, at_nat (k := 1) rfl, _, _, rfl, rfl, mulOk_small (by omega), ?_⟩
    refine ⟨_, rfl, _, _, rfl, rfl, ⟨by decide, by decide⟩, _, _, rfl, rfl, mulOk_small (by decide), _, rfl, t, _, _, _, rfl, rfl, SqT.of et1, at_nat (k := 2) rfl, _, _, rfl, rfl, (by show (0 : Int) < s2; omega), _, _, rfl, rfl, (by show 2 ≤ sizeLine; decide), fun p hp => ?_⟩
    refine q p _ (j + 1) _ (z1.trans (same_new hp _)) upd_same (by omega) (by omega) ?_
    have k1 : 0 ≤ s0 * (sb - 1) := Int.mul_nonneg g0 (by omega)
    have k2 : 0 ≤ rest % 6 := Int.emod_nonneg _ (by decide)
    have k3 : 0 ≤ rest / 6 * 48271 % s2 := Int.emod_nonneg _ (by omega)
    have k4 : 0 < (rest % 6 + 1 + s0 * (sb - 1)) * s1 := Int.mul_pos (by omega) (by omega)
    rw [erest]
    omega
theorem ok_L_listed {f : Addr} {fd : FuncData} (F : Fun K "_law_listed" "_law_listed" s_L_listed f fd) (m_self : mg "_law_listed" = some (.ref f)) (m_sorted : mg "sorted" = none)
    (D_L_offer_by : DefOk P w K mg base 1 "_law_offer_by" ["_law_cell", "_law_many", "_law_scale_here"] [] (sp_L_offer_by K)) : DefOk P w K mg base 2 "_law_listed" ["_law_cells", "_law_many", "_law_scale_here"] [] (sp_L_listed K) := by
  refine F.def_okQ m_self (bnd3 F fun _ _ _ _ _ _ _ _ _ => rfl) sc_L_listed (fun vs H Q E h => ?_) (fun cdv A outer s H vs Q E hr h => ?_)
  · obtain ⟨l, t, cs, n, rfl, _⟩ := h; rfl
  obtain ⟨l, t, cs, n, rfl, hS, few, hn1, hn, hT, q⟩ := h
  refine ⟨_, (R.pss_cons (R.ps_set (i := 3) sc_L_listed.nd rfl (Or.inl rfl) (R.pe_lst R.pa_nil))
    (R.pss_cons (R.ps_for PassesOwn.never rfl (R.pi_list (R.pv 0)) (R.pg_name (i := 4) sc_L_listed.nd rfl (Or.inl rfl)) (R.pss_cons (R.ps_set (i := 5) sc_L_listed.nd rfl (Or.inl rfl) (R.pe_callD D_L_offer_by hr (by decide) rfl (R.pa_c (R.pv 4) (R.pa_c (R.pv 1) (R.pa_c (R.pv 2) R.pa_nil)))))
      (R.pss_one (R.ps_if (R.pt_cmpR op_notIn_seq (R.pe_ix ix_tup (R.pv 5) R.pe_int (fun _ _ => rfl)) (R.pe_comp (defScope s_L_listed) ["_law_cells", "_law_many", "_law_scale_here", "_law_made", "_law_cell", "_law_offer"] ["_law_one"] [] [] rfl rfl rfl ⟨s.heap.objs.size + 1, rfl⟩ rfl rfl (by decide +kernel) (R.pi_list (R.pv 3)) (fun C s2 H2 fp => (R.pg_name (i := 0) (show List.Nodup (["_law_one"] : List Str) from by decide +kernel) rfl (Or.inl rfl))) (fun C s2 H2 fp => R.pf_nil) (fun C s2 H2 fp => (R.pe_ix (R.ixT K) (R.pv 0) R.pe_int (fun _ _ => rfl)))) (by with_unfolding_all rfl)) (R.pss_one (R.ps_expr (R.pe_append (R.pv 3) (R.pa_c (R.pv 5) R.pa_nil)))) R.pss_nil))))
    (R.pss_one (R.ps_ret (R.pe_cB call_sortedP rfl m_sorted (boot_sorted) (R.pa_c (R.pv 3) R.pa_nil)))))), ?_⟩
  refine ⟨(by show 0 ≤ sizeLine; decide), fun m hm => ?_⟩
  have s1 := same_new hm (.lst [])
  have cl : (cs.map V.int).length = cs.length := List.length_map _
  refine ⟨_, rfl, l, rfl, ⟨_, s1.seq hS⟩, ?_⟩
  refine for_list (xs := cs.map V.int) (fun i σ H' => Same H H' ∧ (∃ xs ps, Pairs H' m xs ps ∧ xs.length ≤ i ∧ (∀ c ∈ xs, (0 < c.1 ∧ c.1 < 2 ^ n) ∧ 0 < c.2) ∧ (xs.map Prod.fst).Nodup) ∧ ∃ y1 y2, σ = [some (.ref l), some (nv n), some (.ref t), some (.ref m), y1, y2]) ?_ ?_ ?_ ?_
  · exact ⟨s1, ⟨[], [], pairs_nil upd_same, Nat.le_refl _, (fun c hc => by cases hc), List.nodup_nil⟩, _, _, rfl⟩
  · rintro i σ H2 _ ⟨s2, _⟩; exact s2.seq hS
  · rintro i v σ H2 hv ⟨s2, ⟨xs, ps, hP, hxl, hg, hnd⟩, y1, y2, rfl⟩
    have hi : i < cs.length := by have := (List.getElem?_eq_some_iff.mp hv).1; omega
    rw [List.getElem?_map] at hv
    obtain ⟨c, hc, rfl⟩ := Option.map_eq_some_iff.mp hv
    have ne : cs ≠ [] := fun z => by rw [z] at hi; simp at hi
    refine ⟨_, rfl, _, rfl, _, rfl, c, n, t, rfl, hn1 ne, hn, hT.same s2, fun p H3 b x s3 hp b1 b2 b3 => ?_⟩
    have hP3 := hP.same s3
    obtain ⟨z1, z2, z3⟩ := pairs_zip hP3
    refine ⟨_, rfl, p, _, _, _, rfl, rfl, SqT.of hp, at_nat (k := 0) rfl, ?_⟩
    refine ⟨_, rfl, m, rfl, ⟨_, SqL.of z1⟩, fun l2 h2 => ?_⟩
    have zl : (ps.zip xs).length = xs.length := by rw [List.length_zip, hP.2.1, Nat.min_self]
    refine comp_lst_map pairV (ps.zip xs) (fun _ => true) (fun z => .int (z.2.1 : Int)) (SqL.of z1) (by omega) h2 ?_ ?_ ?_
    · intro z hz H4 s4 C hC; exact hC _ (Same.refl _)
    · intro z hz _ H4 s4 C hC
      exact ⟨_, rfl, z.1, _, _, _, rfl, rfl, SqT.of (s4 _ _ (z2 z hz)), at_nat (k := 0) rfl, hC _ (Same.refl _)⟩
    · intro H4 s4 e4
      have em : (((ps.zip xs).filter fun _ => true).map fun z : Addr × (Nat × Int) => V.int (z.2.1 : Int)) = xs.map fun c => V.int (c.1 : Int) := by
        rw [List.filter_eq_self.mpr (fun _ _ => rfl)]
        have : ((ps.zip xs).map fun z : Addr × (Nat × Int) => V.int (z.2.1 : Int)) = ((ps.zip xs).map Prod.snd).map fun c => V.int (c.1 : Int) := by rw [List.map_map]; rfl
        rw [this, z3]
      rw [em] at e4
      have iv : inV (V.int (b : Int)) (xs.map fun c => V.int (c.1 : Int)) = decide (b ∈ xs.map Prod.fst) := by
        unfold inV
        rw [Bool.eq_iff_iff, List.any_eq_true, decide_eq_true_iff]
        constructor
        · rintro ⟨y, hy, e⟩
          obtain ⟨c', hc', rfl⟩ := List.mem_map.mp hy
          have e' : (c'.1 : Int) = (b : Int) := by simpa [eqV] using e
          exact List.mem_map.mpr ⟨c', hc', by omega⟩
        · intro hb
          obtain ⟨c', hc', rfl⟩ := List.mem_map.mp hb
          exact ⟨_, List.mem_map.mpr ⟨c', hc', rfl⟩, by simp [eqV]⟩
      have s24 := s2.trans (s3.trans s4)
      have hP4 := hP3.same s4
      refine ⟨l2, _, rfl, .inl (SqL.of e4), rfl, (by rw [List.all_eq_true]; intro y hy; obtain ⟨c', _, rfl⟩ := List.mem_map.mp hy; rfl), _, rfl, ?_⟩
      rw [if_pos rfl, iv]
      by_cases hb : b ∈ xs.map Prod.fst
      · rw [decide_eq_true hb]
        refine iteF ⟨s24, ⟨xs, ps, hP4, by omega, hg, hnd⟩, _, _, rfl⟩
      · rw [decide_eq_false hb]
        refine iteT ⟨_, rfl, .inl ⟨rfl, _, SqL.of hP4.1⟩, _, rfl, m, _, _, rfl, rfl, hP4.1, by rw [List.length_map, hP4.2.1]; exact small1000 (by omega), ?_⟩
        refine ⟨s24.upd hm _, ⟨xs ++ [(b, x)], ps ++ [p], pairs_snoc (x := (b, x)) hP4 (s4 _ _ hp), by rw [List.length_append, List.length_singleton]; omega, fun c' hc' => ?_, ?_⟩, _, _, rfl⟩
        · rcases List.mem_append.mp hc' with hc' | hc'
          · exact hg c' hc'
          · rw [List.mem_singleton.mp hc']; exact ⟨⟨b1, b2⟩, b3⟩
        · rw [List.map_append, List.nodup_append]
          refine ⟨hnd, by simp, fun u hu w hw => ?_⟩
          have : w = b := by simpa using hw
          subst this
          exact fun z => hb (z ▸ hu)
  · rintro σ H2 ⟨s2, ⟨xs, ps, hP, hxl, hg, hnd⟩, y1, y2, rfl⟩
    rw [cl] at hxl
    refine ⟨_, rfl, m, xs, ps, rfl, hP, by omega, hnd, fun r ys qs hr hperm hpw hQ => ?_⟩
    exact q r _ ys qs (s2.trans (same_new hr _)) (s2.free hr) hQ ⟨by rw [hperm.length_eq]; exact hxl, fun c hc => (hg c (hperm.mem_iff.mp hc)).1, fun c hc => (hg c (hperm.mem_iff.mp hc)).2, hpw⟩
theorem ok_L_offers {f : Addr} {fd : FuncData} (F : Fun K "_law_offers" "_law_offers" s_L_offers f fd) (m_self : mg "_law_offers" = some (.ref f)) (m_range : mg "range" = none)
    (D_L_scale : DefOk P w K mg base 1 "_law_scale" ["_law_cell"] [] (sp_L_scale K))
    (D_L_cell_at : DefOk P w K mg base 1 "_law_cell_at" ["_law_script", "_law_k"] [] (sp_L_cell_at K))
    (D_L_listed : DefOk P w K mg base 2 "_law_listed" ["_law_cells", "_law_many", "_law_scale_here"] [] (sp_L_listed K)) : DefOk P w K mg base 3 "_law_offers" ["_law_script", "_law_at", "_law_many", "_law_bidders", "_law_most"] [] (sp_L_offers K) := by
  refine F.def_okQ m_self (bnd5 F fun _ _ _ _ _ _ _ _ _ _ _ => rfl) sc_L_offers (fun vs H Q E h => ?_) (fun cdv A outer s H vs Q E hr h => ?_)
  · obtain ⟨a, ns, at0, n, b, m, rfl, _⟩ := h; rfl
  obtain ⟨a, ns, at0, n, b, m, rfl, hS, hn, hb, hm, q⟩ := h
  refine ⟨_, (R.pss_cons (R.ps_set (i := 5) sc_L_offers.nd rfl (Or.inl rfl) (R.pe_callD D_L_scale hr (by decide) rfl (R.pa_c (R.pe_callD D_L_cell_at hr (by decide) rfl (R.pa_c (R.pv 0) (R.pa_c (R.pv 1) R.pa_nil))) R.pa_nil)))
    (R.pss_cons (R.ps_set (i := 6) sc_L_offers.nd rfl (Or.inl rfl) (R.pe_lst R.pa_nil))
    (R.pss_cons (R.ps_for PassesOwn.never rfl (R.pi_range1 rfl m_range (R.pa_c (R.pv 3) R.pa_nil)) (R.pg_name (i := 7) sc_L_offers.nd rfl (Or.inl rfl)) (R.pss_cons (R.ps_set (i := 8) sc_L_offers.nd rfl (Or.inr rfl) (R.pe_op (opE0 op_add) (R.pe_op op_add (R.pv 1) R.pe_int) (R.pe_op op_mulB (R.pe_op op_add (R.pv 4) R.pe_int) (R.pv 7))))
      (R.pss_cons (R.ps_compE (i := 9) (defScope s_L_offers) ["_law_script", "_law_at", "_law_many", "_law_bidders", "_law_most", "_law_scale_here", "_law_made", "_law_who", "_law_place", "_law_cells"] ["_law_k"] ["_law_script", "_law_place"] [0, 8] sc_L_offers.nd rfl (Or.inl rfl) rfl rfl rfl rfl rfl ⟨s.heap.objs.size + 1, rfl⟩ rfl rfl (by decide +kernel) (R.pi_range1 rfl m_range (R.pa_c (R.pe_op (opE op_mod) (R.pe_callD D_L_cell_at hr (by decide) rfl (R.pa_c (R.pv 0) (R.pa_c (R.pv 8) R.pa_nil))) (R.pe_op op_add (R.pv 4) R.pe_int)) R.pa_nil)) (fun C s2 H2 fp => (R.pg_name (i := 0) (show List.Nodup (["_law_k", "_law_script", "_law_place"] : List Str) from by decide +kernel) rfl (Or.inl rfl))) (fun C s2 H2 fp => R.pf_nil) (fun C s2 H2 fp => (R.pe_callD D_L_cell_at hr (by decide) rfl (R.pa_c (R.pv 1) (R.pa_c (R.pe_op op_add (R.pe_op op_add (R.pv 2) R.pe_int) (R.pv 0)) R.pa_nil)))))
      (R.pss_cons (R.ps_if (R.pt_cmpR op_eq (R.pv 2) R.pe_int (nomark _)) (R.pss_one (R.ps_set (i := 9) sc_L_offers.nd rfl (Or.inl rfl) (R.pe_lst R.pa_nil))) R.pss_nil)
      (R.pss_one (R.ps_expr (R.pe_append (R.pv 6) (R.pa_c (R.pe_callD D_L_listed hr (by decide) rfl (R.pa_c (R.pv 9) (R.pa_c (R.pv 2) (R.pa_c (R.pv 5) R.pa_nil)))) R.pa_nil))))))))
    (R.pss_one (R.ps_ret (R.pv 6)))))), ?_⟩
  refine ⟨_, rfl, _, rfl, a, ns, _, rfl, hS, by omega, _, rfl, fun t H1 s1 hT => ?_⟩
  refine ⟨(by show 0 ≤ sizeLine; decide), fun l hl => ?_⟩
  have hl0 : H l = none := s1.free hl
  have s2 := s1.trans (same_new hl (.lst []))
  refine ⟨_, rfl, _, rfl, by omega, by omega, ?_⟩
  rw [Int.toNat_natCast]
  refine for_range (n := b) (lo := 0) (fun i σ H' => Same H H' ∧ ScaleAt H' t ∧ (∃ os as, HallAt H' l os as ∧ os.length = i ∧ (∀ x ∈ as, x ≠ l) ∧ ∀ o ∈ os, OffOk n m o) ∧ ∃ y1 y2 y3, σ = [some (.ref a), some (nv at0), some (nv n), some (nv b), some (nv m), some (.ref t), some (.ref l), y1, y2, y3]) ?_ ?_ ?_
  · exact ⟨s2, hT.same (same_new hl _), ⟨[], [], hall_nil upd_same, rfl, (fun x hx => by cases hx), fun x hx => by cases hx⟩, _, _, _, rfl⟩
  · rintro k σ H2 hk ⟨z2, hT2, ⟨os, as, hH, hol, hne, hok⟩, y1, y2, y3, rfl⟩
    rw [Int.zero_add]
    have hS2 := z2.seq hS
    obtain ⟨pl, epl, pn⟩ : ∃ pl : Int, (at0 : Int) + 1 + ((m : Int) + 1) * (k : Int) = pl ∧ 0 ≤ pl := ⟨_, rfl, by
      have : (0 : Int) ≤ ((m : Int) + 1) * (k : Int) := Int.mul_nonneg (by omega) (by omega)
      omega⟩
    refine ⟨_, rfl, _, _, rfl, rfl, _, rfl, _, _, rfl, rfl, _, rfl, _, _, rfl, rfl, mulOk_small (by omega), _, _, V.int pl, rfl, rfl, congrArg V.int epl, ?_⟩
    obtain ⟨j, ej, hj⟩ : ∃ j : Nat, cellAt ns pl % ((m : Int) + 1) = (j : Int) ∧ j ≤ m := by
      have a1 := Int.emod_nonneg (cellAt ns pl) (show ((m : Int) + 1) ≠ 0 by omega)
      have a2 := Int.emod_lt_of_pos (cellAt ns pl) (show (0 : Int) < (m : Int) + 1 by omega)
      exact ⟨(cellAt ns pl % ((m : Int) + 1)).toNat, by omega, by omega⟩
    refine ⟨_, rfl, _, rfl, a, ns, pl, rfl, hS2, pn, _, rfl, _, _, rfl, rfl, _, _, nv j, rfl, rfl, (by show (0 : Int) < (m : Int) + 1; omega), congrArg V.int ej, _, rfl, by omega, by omega, fun lc hc => ?_⟩
    rw [Int.toNat_natCast]
    refine comp_rng_map (fun _ => true) (fun i => .int (cellAt ns (pl + 1 + (i : Int)))) (by omega) hc ?_ ?_ ?_
    · intro i H3 hi s3 C hC; exact hC _ (Same.refl _)
    · intro i H3 hi _ s3 C hC
      rw [Int.zero_add]
      exact ⟨_, rfl, _, rfl, _, _, rfl, rfl, _, rfl, _, _, rfl, rfl, a, ns, _, rfl, s3.seq hS2, by omega, hC _ (Same.refl _)⟩
    · intro H3 s3 e3
      have em : (((List.range j).filter fun _ => true).map fun i : Nat => V.int (cellAt ns (pl + 1 + (i : Int)))) = ((List.range j).map fun i : Nat => cellAt ns (pl + 1 + (i : Int))).map V.int := by
        rw [List.filter_eq_self.mpr (fun _ _ => rfl), List.map_map]; rfl
      rw [em] at e3
      have cl : ((List.range j).map fun i : Nat => cellAt ns (pl + 1 + (i : Int))).length = j := by rw [List.length_map, List.length_range]
      generalize ((List.range j).map fun i : Nat => cellAt ns (pl + 1 + (i : Int))) = cs at e3 cl
      have z3 := z2.trans s3
      have hT3 := hT2.same s3
      have hH3 := hH.same s3
      refine ⟨_, rfl, rfl, _, rfl, ?_⟩
      by_cases h0 : n = 0
      · rw [show decide (nv n = V.int 0) = true from decide_eq_true (by rw [h0]; rfl)]
        refine iteT ⟨(by show 0 ≤ sizeLine; decide), fun le he => ?_⟩
        have s4 := same_new he (.lst [])
        refine ⟨_, rfl, .inl ⟨rfl, _, SqL.of ((hH3.same s4)).1⟩, _, rfl, _, rfl, _, rfl, le, t, [], n, rfl, (SqL.of upd_same), (Nat.zero_le _), (fun z => absurd rfl z), hn, (hT3.same s4), fun r H5 o ps s5 hr hP hok5 => ?_⟩
        have hH5 := ((hH3.same s4)).same s5
        have nr : r ≠ l := Ne.symm (ne_of_none ((hH3.same s4)).1 hr)
        obtain ⟨g1, g2⟩ := hall_snoc hH5 hne hP nr
        refine ⟨l, _, _, rfl, rfl, hH5.1, by rw [List.length_map, hH.2.1, hol]; exact small1000 (by omega), ?_⟩
        refine ⟨(((z3.trans s4)).trans s5).upd hl0 _, (hT_put ((hT3.same s4)) s5 hH5.1), ⟨os ++ [o], as ++ [r], g1, by rw [List.length_append, hol]; rfl, g2, fun o' ho' => ?_⟩, _, _, _, rfl⟩
        rcases List.mem_append.mp ho' with ho' | ho'
        · exact hok o' ho'
        · rw [List.mem_singleton.mp ho']
          exact ⟨Nat.le_trans hok5.few (by show 0 ≤ m; omega), hok5.part, hok5.amt, hok5.rise⟩
      · rw [show decide (nv n = V.int 0) = false from decide_eq_false (fun z => h0 (Int.ofNat.inj (V.int.inj z)))]
        refine iteF ?_
        refine ⟨_, rfl, .inl ⟨rfl, _, SqL.of (hH3).1⟩, _, rfl, _, rfl, _, rfl, lc, t, cs, n, rfl, (SqL.of e3), (by omega), (fun _ => by omega), hn, hT3, fun r H5 o ps s5 hr hP hok5 => ?_⟩
        have hH5 := (hH3).same s5
        have nr : r ≠ l := Ne.symm (ne_of_none (hH3).1 hr)
        obtain ⟨g1, g2⟩ := hall_snoc hH5 hne hP nr
        refine ⟨l, _, _, rfl, rfl, hH5.1, by rw [List.length_map, hH.2.1, hol]; exact small1000 (by omega), ?_⟩
        refine ⟨((z3).trans s5).upd hl0 _, (hT_put (hT3) s5 hH5.1), ⟨os ++ [o], as ++ [r], g1, by rw [List.length_append, hol]; rfl, g2, fun o' ho' => ?_⟩, _, _, _, rfl⟩
        rcases List.mem_append.mp ho' with ho' | ho'
        · exact hok o' ho'
        · rw [List.mem_singleton.mp ho']
          exact ⟨Nat.le_trans hok5.few (by omega), hok5.part, hok5.amt, hok5.rise⟩
  · rintro σ H2 ⟨z2, hT2, ⟨os, as, hH, hol, hne, hok⟩, y1, y2, y3, rfl⟩
    exact ⟨_, rfl, q l H2 os as z2 hl0 hH hol hok⟩
theorem ok_L_copies {f : Addr} {fd : FuncData} (F : Fun K "_law_copies" "_law_copies" s_L_copies f fd) (m_self : mg "_law_copies" = some (.ref f)) (m_list : mg "list" = none) : DefOk P w K mg base 1 "_law_copies" ["_law_offers_here"] [] (sp_L_copies K) := by
  refine F.def_okQ m_self (bnd1 F fun _ _ _ _ _ _ _ => rfl) sc_L_copies (fun vs H Q E h => ?_) (fun cdv A outer s H vs Q E hr h => ?_)
  · obtain ⟨l, os, as, rfl, _⟩ := h; rfl
  obtain ⟨l, os, as, rfl, hH, few, q⟩ := h
  refine ⟨_, (R.pss_one (R.ps_ret (R.pe_comp (defScope s_L_copies) ["_law_offers_here"] ["_law_listed_here"] [] [] rfl rfl rfl ⟨s.heap.objs.size + 1, rfl⟩ rfl rfl (by decide +kernel) (R.pi_list (R.pv 0)) (fun C s2 H2 fp => (R.pg_name (i := 0) (show List.Nodup (["_law_listed_here"] : List Str) from by decide +kernel) rfl (Or.inl rfl))) (fun C s2 H2 fp => R.pf_nil) (fun C s2 H2 fp => (R.pe_cTy (call_listK K) rfl m_list (boot_list) (R.pa_c (R.pv 0) R.pa_nil)))))), ?_⟩
  have al : (as.map V.ref).length = os.length := by rw [List.length_map, hH.2.1]
  refine ⟨_, rfl, l, rfl, ⟨_, SqL.of hH.1⟩, fun r hr => ?_⟩
  refine comp_lst1 (xs := as.map V.ref) (fun k H' => Same H H' ∧ ∃ bs, HallAt H' r (os.take k) bs ∧ (∀ b ∈ bs, b ≠ r) ∧ (∀ b ∈ bs, H b = none) ∧ bs.Nodup) ?_ (fun k H' _ z => SqL.of (z.1 _ _ hH.1)) ?_ ?_
  · exact ⟨same_new hr _, [], by rw [List.take_zero]; exact hall_nil upd_same, (fun x hx => by cases hx), (fun x hx => by cases hx), List.nodup_nil⟩
  · rintro k v H2 hv ⟨s2, bs, hB, hne, hnn, hnd⟩ K1 K0 k1 k0
    have hk : k < os.length := by have := (List.getElem?_eq_some_iff.mp hv).1; omega
    obtain ⟨x, o, ps, rfl, _, ho, hP⟩ := (hH.same s2).at hv
    refine fnilT ⟨_, rfl, x, _, rfl, .inl (SqL.of hP.1), fun c hc => ?_⟩
    have s3 := same_new hc (.lst (ps.map V.ref))
    have hB3 := hB.same s3
    have nc : c ≠ r := Ne.symm (ne_of_none hB.1 hc)
    obtain ⟨g1, g2⟩ := hall_snoc hB3 hne (pairs_copy hP hc) nc
    refine k1 _ _ _ hB3.1 (by rw [List.length_map, hB.2.1, List.length_take]; exact small1000 (by omega)) ⟨(s2.trans s3).upd hr _, bs ++ [c], ?_, g2, fun b hb => ?_, ?_⟩
    · rw [List.take_add_one, ho]; exact g1
    · rcases List.mem_append.mp hb with hb | hb
      · exact hnn b hb
      · rw [List.mem_singleton.mp hb]; exact s2.free hc
    · exact nodup_snoc hnd fun hm => by
        obtain ⟨zs, z⟩ := hB.lives hm
        rw [hc] at z; cases z
  · rintro H2 ⟨s2, bs, hB, hne, hnn, hnd⟩
    rw [al, List.take_length] at hB
    exact q r H2 bs s2 hr hnn hne hnd hB
end
end My


set_option Elab.async false
set_option linter.all false
set_option maxRecDepth 100000
set_option maxHeartbeats 4000000
namespace My
open PySem PySem.Spec PyProof.Rows L2 GM GP
noncomputable def sp_L_plans (_K : PySem.W.Frag) : Sp := fun vs H Q _ => ∃ (l : Addr) (os : List Off) (as : List Addr) (m : Nat), vs = [.ref l] ∧ HallAt H l os as ∧ os.length ≤ 12 ∧ (∀ o ∈ os, o.length ≤ m) ∧ (m + 1) ^ os.length ≤ 800 ∧ ∀ (r : Addr) (H' : Hp) (tw : List (Addr × Way)) (x : Addr), Same H H' → H' r = some (.lst (tw.map rowV)) → Rows x H' tw → tw.map Prod.snd = allWays os → Q (.ref r) H'
noncomputable def sp_L_greatest (_K : PySem.W.Frag) : Sp := fun vs H Q _ => ∃ (l : Addr) (os : List Off) (as : List Addr) (m : Nat), vs = [.ref l] ∧ HallAt H l os as ∧ os.length ≤ 12 ∧ (∀ o ∈ os, o.length ≤ m) ∧ (m + 1) ^ os.length ≤ 800 ∧ ∀ H', Same H H' → Q (.int (bestW 0 os)) H'
noncomputable def sp_law (K : PySem.W.Frag) : Sp := fun vs H Q _ => ∃ (a : Addr) (ns : List Int), vs = [.ref a] ∧ SqL K H a (ns.map V.int) ∧ ns.length ≤ 63 ∧ ∀ H', Q (.bl true) H'
noncomputable def sp_L_first (_K : PySem.W.Frag) : Sp := fun vs H Q _ => ∃ (l : Addr) (os : List Off) (as : List Addr) (m : Nat), vs = [.ref l] ∧ HallAt H l os as ∧ os.length ≤ 12 ∧ (∀ o ∈ os, o.length ≤ m) ∧ (m + 1) ^ os.length ≤ 800 ∧
  ∀ (t a b : Addr) (H' : Hp) (ch : Way), Same H H' → IsFirst 0 os ch → H' t = some (.tup [.ref a, .ref b, .int (bestW 0 os)]) → H' a = some (.lst (ch.map fun c => V.int (c.1 : Int))) → H' b = some (.lst (ch.map fun c => V.int c.2)) → Q (.ref t) H'
noncomputable def sp_L_lacking (_K : PySem.W.Frag) : Sp := fun vs H Q _ => ∃ (l : Addr) (os : List Off) (as : List Addr) (m i : Nat), vs = [.ref l, nv i] ∧ HallAt H l os as ∧ os.length ≤ 12 ∧ (∀ o ∈ os, o.length ≤ m) ∧ (m + 1) ^ os.length ≤ 800 ∧ ∀ H', Same H H' → Q (.int (bestW 0 (os.set i []))) H'
noncomputable def sp_L_list_is (_K : PySem.W.Frag) : Sp := fun vs H Q _ => ∃ (f d : Addr) (xs : List Int), vs = [.ref f, .ref d] ∧ H f = some (.lst (xs.map V.int)) ∧ H d = some (.lst (xs.map V.int)) ∧ xs.length ≤ 100 ∧ ∀ H', Same H H' → Q (.bl true) H'
noncomputable def sp_L_pays (_K : PySem.W.Frag) : Sp := fun vs H Q _ => ∃ (l td xa xb : Addr) (os : List Off) (as : List Addr) (ch : Way) (m : Nat), vs = [.ref l, .ref td] ∧ HallAt H l os as ∧ os.length ≤ 12 ∧ (∀ o ∈ os, o.length ≤ m) ∧ (m + 1) ^ os.length ≤ 800 ∧ IsFirst 0 os ch ∧ H td = some (.tup [.ref xa, .ref xb, .int (bestW 0 os)]) ∧ H xb = some (.lst (ch.map fun c => V.int c.2)) ∧ ∀ (r : Addr) (H' : Hp), Same H H' → H' r = some (.lst (((List.range os.length).map fun i => payOf os ch i).map V.int)) → Q (.ref r) H'
section
variable {P : Program} {w : World} {K : PySem.W.Frag} {mg : Str → Option Value} {base : Heap}
theorem ways_mem_len {os : List Off} {k : Nat} {w : Way} (h : w ∈ allWays (os.take k)) (h12 : os.length ≤ 12) : w.length ≤ 12 := by
  have := (mem_allWays.mp h).length
  rw [List.length_take] at this
  omega
theorem ok_L_plans {f : Addr} {fd : FuncData} (F : Fun K "_law_plans" "_law_plans" s_L_plans f fd) (m_self : mg "_law_plans" = some (.ref f)) : DefOk P w K mg base 1 "_law_plans" ["_law_offers_here"] [] (sp_L_plans K) := by
  refine F.def_okQ m_self (bnd1 F fun _ _ _ _ _ _ _ => rfl) sc_L_plans (fun vs H Q E h => ?_) (fun cdv A outer s H vs Q E hr h => ?_)
  · obtain ⟨l, os, as, m0, rfl, _⟩ := h; rfl
  obtain ⟨l, os, as, m0, rfl, hH, h12, hm0, hpw, q⟩ := h
  refine ⟨_, (R.pss_cons (R.ps_set (i := 1) sc_L_plans.nd rfl (Or.inl rfl) (R.pe_lst (R.pa_c (R.pe_tup (R.pa_c (R.pe_lst R.pa_nil) (R.pa_c (R.pe_lst R.pa_nil) (R.pa_c R.pe_int (R.pa_c R.pe_int R.pa_nil))))) R.pa_nil)))
    (R.pss_cons (R.ps_for PassesOwn.never rfl (R.pi_list (R.pv 0)) (R.pg_name (i := 2) sc_L_plans.nd rfl (Or.inl rfl)) (R.pss_cons (R.ps_set (i := 3) sc_L_plans.nd rfl (Or.inl rfl) (R.pe_lst R.pa_nil))
      (R.pss_cons (R.ps_for PassesOwn.never rfl (R.pi_list (R.pv 1)) (R.pg_name (i := 4) sc_L_plans.nd rfl (Or.inl rfl)) (R.pss_cons (R.ps_expr (R.pe_append (R.pv 3) (R.pa_c (R.pe_tup (R.pa_c (R.pe_op op_cat (R.pe_ix ix_tup (R.pv 4) R.pe_int (fun _ _ => rfl)) (R.pe_lst (R.pa_c (R.pe_tup (R.pa_c R.pe_int (R.pa_c R.pe_int R.pa_nil))) R.pa_nil))) (R.pa_c (R.pe_op op_cat (R.pe_ix ix_tup (R.pv 4) R.pe_int (fun _ _ => rfl)) (R.pe_lst (R.pa_c R.pe_int R.pa_nil))) (R.pa_c (R.pe_ix ix_tup (R.pv 4) R.pe_int (fun _ _ => rfl)) (R.pa_c (R.pe_ix ix_tup (R.pv 4) R.pe_int (fun _ _ => rfl)) R.pa_nil))))) R.pa_nil)))
        (R.pss_one (R.ps_for PassesOwn.never rfl (R.pi_list (R.pv 2)) (R.pg_tup K 2 rfl (R.pgs_cons (R.pg_name (i := 5) sc_L_plans.nd rfl (Or.inl rfl)) (R.pgs_cons (R.pg_name (i := 6) sc_L_plans.nd rfl (Or.inl rfl)) R.pgs_nil))) (R.pss_one (R.ps_if (R.pt_cmpR op_eq (R.pe_op op_andN (R.pe_ix ix_tup (R.pv 4) R.pe_int (fun _ _ => rfl)) (R.pv 5)) R.pe_int (nomark _)) (R.pss_one (R.ps_expr (R.pe_append (R.pv 3) (R.pa_c (R.pe_tup (R.pa_c (R.pe_op op_cat (R.pe_ix ix_tup (R.pv 4) R.pe_int (fun _ _ => rfl)) (R.pe_lst (R.pa_c (R.pe_tup (R.pa_c (R.pe_un un_neg (R.pv 6)) (R.pa_c (R.pv 5) R.pa_nil))) R.pa_nil))) (R.pa_c (R.pe_op op_cat (R.pe_ix ix_tup (R.pv 4) R.pe_int (fun _ _ => rfl)) (R.pe_lst (R.pa_c (R.pv 5) R.pa_nil))) (R.pa_c (R.pe_op op_orN (R.pe_ix ix_tup (R.pv 4) R.pe_int (fun _ _ => rfl)) (R.pv 5)) (R.pa_c (R.pe_op op_add (R.pe_ix ix_tup (R.pv 4) R.pe_int (fun _ _ => rfl)) (R.pv 6)) R.pa_nil))))) R.pa_nil)))) R.pss_nil))))))
      (R.pss_one (R.ps_set (i := 1) sc_L_plans.nd rfl (Or.inl rfl) (R.pv 3))))))
    (R.pss_one (R.ps_ret (R.pv 1))))), ?_⟩
  have al : (as.map V.ref).length = os.length := by rw [List.length_map, hH.2.1]
  refine ⟨(by show 0 ≤ sizeLine; decide), fun a0 ha => ⟨(by show 0 ≤ sizeLine; decide), fun b0 hb => ⟨(by show 4 ≤ sizeLine; decide), fun t0 ht => ⟨(by show 1 ≤ sizeLine; decide), fun r0 hr => ?_⟩⟩⟩⟩
  have S1 := same_new ha (.lst [])
  have S2 := same_new hb (.lst [])
  have S3 := same_new ht (.tup [V.ref a0, V.ref b0, V.int 0, V.int 0])
  have S4 := same_new hr (.lst [V.ref t0])
  have S0 := ((S1.trans S2).trans S3).trans S4
  have ea := S4 _ _ (S3 _ _ (S2 _ _ (upd_same (H := H) (a := a0) (o := .lst []))))
  have eb := S4 _ _ (S3 _ _ (upd_same (H := upd H a0 (.lst [])) (a := b0) (o := .lst [])))
  have et := S4 _ _ (upd_same (H := upd (upd H a0 (.lst [])) b0 (.lst [])) (a := t0) (o := .tup [V.ref a0, V.ref b0, V.int 0, V.int 0]))
  have er := upd_same (H := upd (upd (upd H a0 (.lst [])) b0 (.lst [])) t0 (.tup [V.ref a0, V.ref b0, V.int 0, V.int 0])) (a := r0) (o := .lst [V.ref t0])
  have na : a0 ≠ r0 := ne_of_none (S3 _ _ (S2 _ _ upd_same)) hr
  have nb : b0 ≠ r0 := ne_of_none (S3 _ _ upd_same) hr
  generalize upd (upd (upd (upd H a0 (.lst [])) b0 (.lst [])) t0 (.tup [V.ref a0, V.ref b0, V.int 0, V.int 0])) r0 (.lst [V.ref t0]) = H1 at S0 ea eb et er ⊢
  refine ⟨_, rfl, l, rfl, ⟨_, SqL.of (S0 _ _ hH.1)⟩, ?_⟩
  refine for_list (xs := as.map V.ref) (fun k σ H' => Same H H' ∧ ∃ r tw x, H' r = some (.lst (tw.map rowV)) ∧ Rows x H' tw ∧ tw.map Prod.snd = allWays (os.take k) ∧ ∃ y2 y3 y4 y5 y6, σ = [some (.ref l), some (.ref r), y2, y3, y4, y5, y6]) ?_ ?_ ?_ ?_
  · refine ⟨S0, r0, [(t0, [])], r0, er, fun z hz => ?_, rfl, _, _, _, _, _, rfl⟩
    rw [List.mem_singleton.mp hz]
    exact ⟨a0, b0, [], na, nb, et, ea, rfl, (fun i p x e => by simp at e), eb⟩
  · rintro k σ H2 _ ⟨s2, _⟩; exact SqL.of (s2 _ _ hH.1)
  · rintro k v σ H2 hv ⟨s2, r, tw, x, er2, hR, ew, y2, y3, y4, y5, y6, rfl⟩
    have hk : k < os.length := by have := (List.getElem?_eq_some_iff.mp hv).1; omega
    obtain ⟨a, o, ps, rfl, _, ho, hP⟩ := (hH.same s2).at hv
    have hom := hm0 o (List.mem_of_getElem? ho)
    have hB : tw.length * (o.length + 1) ≤ 800 := by
      have h1 := ways_len os hm0 k (by omega)
      rw [← ew, List.length_map] at h1
      have h2 : (m0 + 1) ^ (k + 1) ≤ (m0 + 1) ^ os.length := Nat.pow_le_pow_right (by omega) (by omega)
      rw [Nat.pow_succ] at h2
      exact Nat.le_trans (Nat.le_trans (Nat.mul_le_mul h1 (by omega)) h2) hpw
    refine ⟨(by show 0 ≤ sizeLine; decide), fun m hm => ?_⟩
    have sm := same_new hm (.lst [])
    have hRm := hR.fresh hm
    refine ⟨_, rfl, r, rfl, ⟨_, SqL.of (sm _ _ er2)⟩, ?_⟩
    refine for_list (xs := tw.map rowV) (fun j σ H' => Same H2 H' ∧ (∃ uw, H' m = some (.lst (uw.map rowV)) ∧ Rows m H' uw ∧ uw.map Prod.snd = ((tw.map Prod.snd).take j).flatMap (grow1 o)) ∧ ∃ y4 y5 y6, σ = [some (.ref l), some (.ref r), some (.ref a), some (.ref m), y4, y5, y6]) ?_ ?_ ?_ ?_
    · exact ⟨sm, ⟨[], upd_same, (fun z hz => by cases hz), by rw [List.take_zero]; rfl⟩, _, _, _, rfl⟩
    · rintro j σ H3 _ ⟨s3, _⟩; exact SqL.of (s3 _ _ er2)
    · rintro j v σ H3 hv3 ⟨s3, ⟨uw, em, hU, eu⟩, z4, z5, z6, rfl⟩
      have hj : j < tw.length := by have := (List.getElem?_eq_some_iff.mp hv3).1; rwa [List.length_map] at this
      rw [List.getElem?_map] at hv3
      obtain ⟨⟨t, wy⟩, hz, rfl⟩ := Option.map_eq_some_iff.mp hv3
      have hwj : (tw.map Prod.snd)[j]? = some wy := by rw [List.getElem?_map, hz]; rfl
      have hwm : wy ∈ allWays (os.take k) := by rw [← ew]; exact List.mem_of_getElem? hwj
      have hwl := ways_mem_len hwm h12
      obtain ⟨ra, rb, qs, n1, n2, e1, e2, e3, e4, e5⟩ := (hRm (t, wy) (List.mem_of_getElem? hz)).same s3
      have hql : qs.length ≤ 12 := by rw [e3, key_len]; exact hwl
      have hwl2 : List.length ((t, wy) : Addr × Way).snd ≤ 12 := hwl
      have hjB : (j + 1) * (o.length + 1) ≤ 800 := Nat.le_trans (Nat.mul_le_mul_right _ hj) hB
      rw [Nat.succ_mul] at hjB
      have hbl := grow_len o ((tw.map Prod.snd).take j)
      have htl : ((tw.map Prod.snd).take j).length = j := by rw [List.length_take, List.length_map]; omega
      rw [htl] at hbl
      have hul : uw.length = (((tw.map Prod.snd).take j).flatMap (grow1 o)).length := by rw [← eu, List.length_map]
      refine ⟨_, rfl, .inl ⟨rfl, _, SqL.of em⟩, ?_⟩
      refine ⟨_, rfl, t, _, _, _, rfl, rfl, SqT.of e1, at_nat (k := 0) rfl, (by show 2 ≤ sizeLine; decide), fun p hp => ⟨(by show 1 ≤ sizeLine; decide), fun l1 h1 => ?_⟩⟩
      have T1 := same_new hp (.tup [V.int 0, V.int 0])
      have T2 := T1.trans (same_new h1 (.lst [V.ref p]))
      refine ⟨ra, l1, _, _, rfl, rfl, T2 _ _ e2, upd_same, by rw [List.length_map]; show _ + 1 ≤ _; exact Nat.le_of_lt (small1000 (by omega)), fun a1 ha1 => ?_⟩
      have T3 := T2.trans (same_new ha1 (.lst (qs.map V.ref ++ [V.ref p])))
      refine ⟨_, rfl, t, _, _, _, rfl, rfl, SqT.of (T3 _ _ e1), at_nat (k := 1) rfl, (by show 1 ≤ sizeLine; decide), fun l2 h2 => ?_⟩
      have T4 := T3.trans (same_new h2 (.lst [V.int 0]))
      refine ⟨rb, l2, _, _, rfl, rfl, T4 _ _ e5, upd_same, by rw [List.length_map]; show _ + 1 ≤ _; exact Nat.le_of_lt (small1000 (by omega)), fun b1 hb1 => ?_⟩
      have T5 := T4.trans (same_new hb1 (.lst ((wy.map fun c => V.int (c.1 : Int)) ++ [V.int 0])))
      refine ⟨_, rfl, t, _, _, _, rfl, rfl, SqT.of (T5 _ _ e1), at_nat (k := 2) rfl, _, rfl, t, _, _, _, rfl, rfl, SqT.of (T5 _ _ e1), at_nat (k := 3) rfl, (by show 4 ≤ sizeLine; decide), fun t1 ht1 => ?_⟩
      have st1 := same_new ht1 (.tup [V.ref a1, V.ref b1, V.int (taken wy : Int), V.int (worth wy)])
      have T6 := T5.trans st1
      have ep : _ = some (HO.tup [V.int 0, V.int 0]) := st1 _ _ (same_new hb1 (.lst ((wy.map fun c => V.int (c.1 : Int)) ++ [V.int 0])) _ _ (same_new h2 (.lst [V.int 0]) _ _ (same_new ha1 (.lst (qs.map V.ref ++ [V.ref p])) _ _ (same_new h1 (.lst [V.ref p]) _ _ (upd_same (H := H3) (a := p) (o := .tup [V.int 0, V.int 0]))))))
      have ea1 := st1 _ _ (same_new hb1 (.lst ((wy.map fun c => V.int (c.1 : Int)) ++ [V.int 0])) _ _ (same_new h2 (.lst [V.int 0]) _ _ (upd_same (H := upd (upd H3 p (.tup [V.int 0, V.int 0])) l1 (.lst [V.ref p])) (a := a1) (o := .lst (qs.map V.ref ++ [V.ref p])))))
      have eb1 := st1 _ _ (upd_same (a := b1) (o := .lst ((wy.map fun c => V.int (c.1 : Int)) ++ [V.int 0])))
      have fa1 : H3 a1 = none := T2.free ha1
      have fb1 : H3 b1 = none := T4.free hb1
      have et1 := upd_same (H := upd (upd (upd (upd (upd H3 p (.tup [V.int 0, V.int 0])) l1 (.lst [V.ref p])) a1 (.lst (qs.map V.ref ++ [V.ref p]))) l2 (.lst [V.int 0])) b1 (.lst ((wy.map fun c => V.int (c.1 : Int)) ++ [V.int 0]))) (a := t1) (o := .tup [V.ref a1, V.ref b1, V.int (taken wy : Int), V.int (worth wy)])
      generalize upd (upd (upd (upd (upd (upd H3 p (.tup [V.int 0, V.int 0])) l1 (.lst [V.ref p])) a1 (.lst (qs.map V.ref ++ [V.ref p]))) l2 (.lst [V.int 0])) b1 (.lst ((wy.map fun c => V.int (c.1 : Int)) ++ [V.int 0]))) t1 (.tup [V.ref a1, V.ref b1, V.int (taken wy : Int), V.int (worth wy)]) = H4 at T6 ep ea1 eb1 et1 ⊢
      have em4 := T6 _ _ em
      have hrow : RowAt m H4 t1 (wy ++ [(0, 0)]) := RowAt.more (b := rb) (c := (0, 0)) T6 em e2 e3 e4 ep fa1 fb1 ea1 eb1 (by
        show _ = some (HO.tup [V.ref a1, V.ref b1, V.int ((taken wy ||| 0 : Nat) : Int), V.int (worth wy + 0)])
        rw [Nat.or_zero, Int.add_zero]; exact et1)
      refine ⟨m, _, _, rfl, rfl, em4, by rw [List.length_map]; exact small1000 (by omega), ?_⟩
      have hU5 : Rows m (upd H4 m (.lst (uw.map rowV ++ [V.ref t1]))) (uw ++ [(t1, wy ++ [(0, 0)])]) := fun z hz => by
        rcases List.mem_append.mp hz with hz | hz
        · exact ((hU z hz).same T6).put em4
        · rw [List.mem_singleton.mp hz]; exact hrow.put em4
      have s5 : Same H2 (upd H4 m (.lst (uw.map rowV ++ [V.ref t1]))) := (s3.trans T6).upd hm _
      have em5 : upd H4 m (.lst (uw.map rowV ++ [V.ref t1])) m = some (.lst ((uw ++ [(t1, wy ++ [(0, 0)])]).map rowV)) := by rw [upd_same, List.map_append]; rfl
      generalize upd H4 m (.lst (uw.map rowV ++ [V.ref t1])) = H5 at hU5 s5 em5 ⊢
      have eu5 : (uw ++ [(t1, wy ++ [(0, 0)])]).map Prod.snd = ((tw.map Prod.snd).take j).flatMap (grow1 o) ++ (wy ++ [(0, 0)]) :: (((o.take 0).filter fun c => decide (taken wy &&& c.1 = 0)).map fun c => wy ++ [c]) := by
        rw [List.map_append, eu, List.take_zero]; rfl
      generalize uw ++ [(t1, wy ++ [(0, 0)])] = uw5 at hU5 em5 eu5
      have hP5 := hP.same s5
      refine ⟨_, rfl, a, rfl, ⟨_, SqL.of hP5.1⟩, ?_⟩
      refine for_list (xs := ps.map V.ref) (fun i σ H' => Same H2 H' ∧ (∃ uw, H' m = some (.lst (uw.map rowV)) ∧ Rows m H' uw ∧ uw.map Prod.snd = ((tw.map Prod.snd).take j).flatMap (grow1 o) ++ (wy ++ [(0, 0)]) :: (((o.take i).filter fun c => decide (taken wy &&& c.1 = 0)).map fun c => wy ++ [c])) ∧ ∃ y5 y6, σ = [some (.ref l), some (.ref r), some (.ref a), some (.ref m), some (rowV (t, wy)), y5, y6]) ?_ ?_ ?_ ?_
      · exact ⟨s5, ⟨uw5, em5, hU5, eu5⟩, _, _, rfl⟩
      · rintro i σ H6 _ ⟨s6, _⟩; exact SqL.of (s6 _ _ hP.1)
      · rintro i v σ H6 hv6 ⟨s6, ⟨vw, em6, hV, ev⟩, z5, z6, rfl⟩
        have hi : i < o.length := by have := (List.getElem?_eq_some_iff.mp hv6).1; rw [List.length_map, hP.2.1] at this; exact this
        obtain ⟨p6, c, rfl, hc, hp6⟩ := (hP.same s6).at hv6
        obtain ⟨ra, rb, qs, n1, n2, e1, e2, e3, e4, e5⟩ := (hRm (t, wy) (List.mem_of_getElem? hz)).same s6
        have hql : qs.length ≤ 12 := by rw [e3, key_len]; exact hwl
        have hwl3 : List.length ((t, wy) : Addr × Way).snd ≤ 12 := hwl
        have ec : ((o.take (i + 1)).filter fun c => decide (taken wy &&& c.1 = 0)) = ((o.take i).filter fun c => decide (taken wy &&& c.1 = 0)) ++ (if taken wy &&& c.1 = 0 then [c] else []) := by
          rw [List.take_add_one, hc, List.filter_append]
          by_cases h0 : taken wy &&& c.1 = 0 <;> simp [h0]
        refine ⟨p6, _, rfl, SqT.of hp6, rfl, _, _, rfl, _, _, rfl, rfl, ?_⟩
        refine ⟨_, rfl, t, _, _, _, rfl, rfl, SqT.of e1, at_nat (k := 2) rfl, _, rfl, taken wy, c.1, rfl, rfl, rfl, _, rfl, ?_⟩
        rw [show decide (V.int ((taken wy &&& c.1 : Nat) : Int) = V.int 0) = decide (taken wy &&& c.1 = 0) from int_eq_nat (b := 0)]
        by_cases h0 : taken wy &&& c.1 = 0
        · rw [decide_eq_true h0]
          refine iteT ⟨_, rfl, .inl ⟨rfl, _, SqL.of em6⟩, ?_⟩
          refine ⟨_, rfl, t, _, _, _, rfl, rfl, SqT.of e1, at_nat (k := 0) rfl, _, rfl, _, rfl, _, rfl, (by show 2 ≤ sizeLine; decide), fun p hp => ⟨(by show 1 ≤ sizeLine; decide), fun l1 h1 => ?_⟩⟩
          have T1 := same_new hp (.tup [V.int (-c.2), V.int (c.1 : Int)])
          have T2 := T1.trans (same_new h1 (.lst [V.ref p]))
          refine ⟨ra, l1, _, _, rfl, rfl, T2 _ _ e2, upd_same, by rw [List.length_map]; show _ + 1 ≤ _; exact Nat.le_of_lt (small1000 (by omega)), fun a1 ha1 => ?_⟩
          have T3 := T2.trans (same_new ha1 (.lst (qs.map V.ref ++ [V.ref p])))
          refine ⟨_, rfl, t, _, _, _, rfl, rfl, SqT.of (T3 _ _ e1), at_nat (k := 1) rfl, _, rfl, (by show 1 ≤ sizeLine; decide), fun l2 h2 => ?_⟩
          have T4 := T3.trans (same_new h2 (.lst [V.int (c.1 : Int)]))
          refine ⟨rb, l2, _, _, rfl, rfl, T4 _ _ e5, upd_same, by rw [List.length_map]; show _ + 1 ≤ _; exact Nat.le_of_lt (small1000 (by omega)), fun b1 hb1 => ?_⟩
          have T5 := T4.trans (same_new hb1 (.lst ((wy.map fun c => V.int (c.1 : Int)) ++ [V.int (c.1 : Int)])))
          refine ⟨_, rfl, t, _, _, _, rfl, rfl, SqT.of (T5 _ _ e1), at_nat (k := 2) rfl, _, rfl, taken wy, c.1, rfl, rfl, _, rfl, t, _, _, _, rfl, rfl, SqT.of (T5 _ _ e1), at_nat (k := 3) rfl, _, rfl, _, _, rfl, rfl, (by show 4 ≤ sizeLine; decide), fun t1 ht1 => ?_⟩
          have st1 := same_new ht1 (.tup [V.ref a1, V.ref b1, V.int ((taken wy ||| c.1 : Nat) : Int), V.int (worth wy + c.2)])
          have T6 := T5.trans st1
          have ep : _ = some (HO.tup [V.int (-c.2), V.int (c.1 : Int)]) := st1 _ _ (same_new hb1 (.lst ((wy.map fun c => V.int (c.1 : Int)) ++ [V.int (c.1 : Int)])) _ _ (same_new h2 (.lst [V.int (c.1 : Int)]) _ _ (same_new ha1 (.lst (qs.map V.ref ++ [V.ref p])) _ _ (same_new h1 (.lst [V.ref p]) _ _ (upd_same (H := H6) (a := p) (o := .tup [V.int (-c.2), V.int (c.1 : Int)]))))))
          have ea1 := st1 _ _ (same_new hb1 (.lst ((wy.map fun c => V.int (c.1 : Int)) ++ [V.int (c.1 : Int)])) _ _ (same_new h2 (.lst [V.int (c.1 : Int)]) _ _ (upd_same (H := upd (upd H6 p (.tup [V.int (-c.2), V.int (c.1 : Int)])) l1 (.lst [V.ref p])) (a := a1) (o := .lst (qs.map V.ref ++ [V.ref p])))))
          have eb1 := st1 _ _ (upd_same (a := b1) (o := .lst ((wy.map fun c => V.int (c.1 : Int)) ++ [V.int (c.1 : Int)])))
          have fa1 : H6 a1 = none := T2.free ha1
          have fb1 : H6 b1 = none := T4.free hb1
          have et1 := upd_same (H := upd (upd (upd (upd (upd H6 p (.tup [V.int (-c.2), V.int (c.1 : Int)])) l1 (.lst [V.ref p])) a1 (.lst (qs.map V.ref ++ [V.ref p]))) l2 (.lst [V.int (c.1 : Int)])) b1 (.lst ((wy.map fun c => V.int (c.1 : Int)) ++ [V.int (c.1 : Int)]))) (a := t1) (o := .tup [V.ref a1, V.ref b1, V.int ((taken wy ||| c.1 : Nat) : Int), V.int (worth wy + c.2)])
          generalize upd (upd (upd (upd (upd (upd H6 p (.tup [V.int (-c.2), V.int (c.1 : Int)])) l1 (.lst [V.ref p])) a1 (.lst (qs.map V.ref ++ [V.ref p]))) l2 (.lst [V.int (c.1 : Int)])) b1 (.lst ((wy.map fun c => V.int (c.1 : Int)) ++ [V.int (c.1 : Int)]))) t1 (.tup [V.ref a1, V.ref b1, V.int ((taken wy ||| c.1 : Nat) : Int), V.int (worth wy + c.2)]) = H7 at T6 ep ea1 eb1 et1 ⊢
          have em7 := T6 _ _ em6
          have hrow : RowAt m H7 t1 (wy ++ [c]) := RowAt.more (b := rb) (c := c) T6 em6 e2 e3 e4 ep fa1 fb1 ea1 eb1 et1
          have hvl : vw.length = (((tw.map Prod.snd).take j).flatMap (grow1 o)).length + (((o.take i).filter fun c => decide (taken wy &&& c.1 = 0)).length + 1) := by
            have := congrArg List.length ev
            rw [List.length_map, List.length_append, List.length_cons, List.length_map] at this
            exact this
          have hfl := List.length_filter_le (fun c : Nat × Int => decide (taken wy &&& c.1 = 0)) (o.take i)
          have htk := List.length_take_le i o
          refine ⟨m, _, _, rfl, rfl, em7, by rw [List.length_map]; exact small1000 (by omega), ?_⟩
          refine ⟨(s6.trans T6).upd hm _, ⟨vw ++ [(t1, wy ++ [c])], by rw [upd_same, List.map_append]; rfl, fun z hz => ?_, ?_⟩, _, _, rfl⟩
          · rcases List.mem_append.mp hz with hz | hz
            · exact ((hV z hz).same T6).put em7
            · rw [List.mem_singleton.mp hz]; exact hrow.put em7
          · rw [List.map_append, ev, ec, if_pos h0, List.map_append, List.append_assoc]; rfl
        · rw [decide_eq_false h0]
          refine iteF ⟨s6, ⟨vw, em6, hV, ?_⟩, _, _, rfl⟩
          rw [ec, if_neg h0, List.append_nil]; exact ev
      · rintro σ H6 ⟨s6, ⟨vw, em6, hV, ev⟩, z5, z6, rfl⟩
        refine ⟨s6, ⟨vw, em6, hV, ?_⟩, _, _, _, rfl⟩
        rw [ev, List.length_map, hP.2.1, List.take_length, flat_take hwj]; rfl
    · rintro σ H3 ⟨s3, ⟨uw, em, hU, eu⟩, z4, z5, z6, rfl⟩
      refine ⟨_, rfl, s2.trans s3, m, uw, m, em, hU, ?_, _, _, _, _, _, rfl⟩
      have e9 : (tw.map Prod.snd).take (tw.map rowV).length = tw.map Prod.snd := by rw [List.length_map, ← List.length_map (f := Prod.snd), List.take_length]
      rw [eu, e9, ways_take ho, ew]
  · rintro σ H2 ⟨s2, r, tw, x, er2, hR, ew, y2, y3, y4, y5, y6, rfl⟩
    rw [al, List.take_length] at ew
    exact ⟨_, rfl, q r H2 tw x s2 er2 hR ew⟩
theorem ok_L_greatest {f : Addr} {fd : FuncData} (F : Fun K "_law_greatest" "_law_greatest" s_L_greatest f fd) (m_self : mg "_law_greatest" = some (.ref f)) (m_max : mg "max" = none)
    (D_L_plans : DefOk P w K mg base 1 "_law_plans" ["_law_offers_here"] [] (sp_L_plans K)) : DefOk P w K mg base 2 "_law_greatest" ["_law_offers_here"] [] (sp_L_greatest K) := by
  refine F.def_okQ m_self (bnd1 F fun _ _ _ _ _ _ _ => rfl) sc_L_greatest (fun vs H Q E h => ?_) (fun cdv A outer s H vs Q E hr h => ?_)
  · obtain ⟨l, os, as, m, rfl, _⟩ := h; rfl
  obtain ⟨l, os, as, m, rfl, hH, h12, hm, hpw, q⟩ := h
  refine ⟨_, (R.pss_one (R.ps_ret (R.pe_cB (call_maxL rfl) rfl m_max (boot_max) (R.pa_c (R.pe_comp (defScope s_L_greatest) ["_law_offers_here"] ["_law_row"] [] [] rfl rfl rfl ⟨s.heap.objs.size + 1, rfl⟩ rfl rfl (by decide +kernel) (R.pi_list (R.pe_callD D_L_plans hr (by decide) rfl (R.pa_c (R.pv 0) R.pa_nil))) (fun C s2 H2 fp => (R.pg_name (i := 0) (show List.Nodup (["_law_row"] : List Str) from by decide +kernel) rfl (Or.inl rfl))) (fun C s2 H2 fp => R.pf_nil) (fun C s2 H2 fp => (R.pe_ix (R.ixT K) (R.pv 0) R.pe_int (fun _ _ => rfl)))) R.pa_nil)))), ?_⟩
  refine ⟨_, rfl, l, os, as, m, rfl, hH, h12, hm, hpw, fun r H1 tw x s1 er hR ew => ⟨r, rfl, ⟨_, SqL.of er⟩, fun l2 h2 => ?_⟩⟩
  have hl : tw.length ≤ 800 := by
    have h1 := ways_len os hm os.length (Nat.le_refl _)
    rw [List.take_length, ← ew, List.length_map] at h1
    omega
  refine comp_lst_mapB rowV tw (fun _ => true) (fun z => .int (worth z.2)) (SqL.of er) (by omega) h2 ?_ ?_ ?_
  · intro z hz H2 s2 C hC; exact hC _ (Same.refl _)
  · intro z hz _ H2 s2 C hC
    obtain ⟨a, b, e1, _⟩ := ((hR z hz).same s2).pl
    exact ⟨_, rfl, z.1, _, _, _, rfl, rfl, SqT.of e1, at_nat (k := 3) rfl, hC _ (Same.refl _)⟩
  · intro H2 s2 e2
    have em : ((tw.filter fun _ => true).map fun z : Addr × Way => V.int (worth z.2)) = ((allWays os).map worth).map V.int := by
      rw [List.filter_eq_self.mpr (fun _ _ => rfl), ← ew, List.map_map, List.map_map]; rfl
    rw [em] at e2
    refine ⟨l2, _, rfl, SqL.of e2, ?_, fun b hb => ?_⟩
    · rw [List.length_map]
      exact List.length_pos_of_mem (mem_allWays.mpr (way_none 0 os))
    · rw [best_of (os := os) (fun w => mem_allWays) hb]
      exact q _ (s1.trans s2)
theorem ok_L_first {f : Addr} {fd : FuncData} (F : Fun K "_law_first" "_law_first" s_L_first f fd) (m_self : mg "_law_first" = some (.ref f)) (m_max : mg "max" = none) (m_min : mg "min" = none)
    (D_L_plans : DefOk P w K mg base 1 "_law_plans" ["_law_offers_here"] [] (sp_L_plans K)) : DefOk P w K mg base 2 "_law_first" ["_law_offers_here"] [] (sp_L_first K) := by
  refine F.def_okQ m_self (bnd1 F fun _ _ _ _ _ _ _ => rfl) sc_L_first (fun vs H Q E h => ?_) (fun cdv A outer s H vs Q E hr h => ?_)
  · obtain ⟨l, os, as, m, rfl, _⟩ := h; rfl
  obtain ⟨l, os, as, m, rfl, hH, h12, hm, hpw, q⟩ := h
  refine ⟨_, (R.pss_cons (R.ps_set (i := 1) sc_L_first.nd rfl (Or.inl rfl) (R.pe_callD D_L_plans hr (by decide) rfl (R.pa_c (R.pv 0) R.pa_nil)))
    (R.pss_cons (R.ps_set (i := 2) sc_L_first.nd rfl (Or.inr rfl) (R.pe_cB (call_maxL rfl) rfl m_max (boot_max) (R.pa_c (R.pe_comp (defScope s_L_first) ["_law_offers_here", "_law_rows", "_law_best", "_law_found"] ["_law_row"] [] [] rfl rfl rfl ⟨s.heap.objs.size + 1, rfl⟩ rfl rfl (by decide +kernel) (R.pi_list (R.pv 1)) (fun C s2 H2 fp => (R.pg_name (i := 0) (show List.Nodup (["_law_row"] : List Str) from by decide +kernel) rfl (Or.inl rfl))) (fun C s2 H2 fp => R.pf_nil) (fun C s2 H2 fp => (R.pe_ix (R.ixT K) (R.pv 0) R.pe_int (fun _ _ => rfl)))) R.pa_nil)))
    (R.pss_cons (R.ps_set (i := 3) sc_L_first.nd rfl (Or.inl rfl) (R.pe_cB (call_minW rfl hr.units) rfl m_min (boot_min) (R.pa_c (R.pe_comp (defScope s_L_first) ["_law_offers_here", "_law_rows", "_law_best", "_law_found"] ["_law_row"] ["_law_best"] [2] rfl rfl rfl ⟨s.heap.objs.size + 1, rfl⟩ rfl rfl (by decide +kernel) (R.pi_list (R.pv 1)) (fun C s2 H2 fp => (R.pg_name (i := 0) (show List.Nodup (["_law_row", "_law_best"] : List Str) from by decide +kernel) rfl (Or.inl rfl))) (fun C s2 H2 fp => (R.pf_one (R.pt_cmpR op_eq (R.pe_ix (R.ixT K) (R.pv 0) R.pe_int (fun _ _ => rfl)) (R.pv 1) (nomark _)))) (fun C s2 H2 fp => (R.pe_ix (R.ixT K) (R.pv 0) R.pe_int (fun _ _ => rfl)))) R.pa_nil)))
    (R.pss_one (R.ps_ret (R.pe_tup (R.pa_c (R.pe_comp (defScope s_L_first) ["_law_offers_here", "_law_rows", "_law_best", "_law_found"] ["_law_one"] [] [] rfl rfl rfl ⟨s.heap.objs.size + 1, rfl⟩ rfl rfl (by decide +kernel) (R.pi_list (R.pv 3)) (fun C s2 H2 fp => (R.pg_name (i := 0) (show List.Nodup (["_law_one"] : List Str) from by decide +kernel) rfl (Or.inl rfl))) (fun C s2 H2 fp => R.pf_nil) (fun C s2 H2 fp => (R.pe_ix (R.ixT K) (R.pv 0) R.pe_int (fun _ _ => rfl)))) (R.pa_c (R.pe_comp (defScope s_L_first) ["_law_offers_here", "_law_rows", "_law_best", "_law_found"] ["_law_one"] [] [] rfl rfl rfl ⟨s.heap.objs.size + 1, rfl⟩ rfl rfl (by decide +kernel) (R.pi_list (R.pv 3)) (fun C s2 H2 fp => (R.pg_name (i := 0) (show List.Nodup (["_law_one"] : List Str) from by decide +kernel) rfl (Or.inl rfl))) (fun C s2 H2 fp => R.pf_nil) (fun C s2 H2 fp => (R.pe_un un_neg (R.pe_ix (R.ixT K) (R.pv 0) R.pe_int (fun _ _ => rfl))))) (R.pa_c (R.pv 2) R.pa_nil))))))))), ?_⟩
  refine ⟨_, rfl, l, os, as, m, rfl, hH, h12, hm, hpw, fun r H1 tw x s1 er hR ew => ?_⟩
  have hl : tw.length ≤ 800 := by
    have h1 := ways_len os hm os.length (Nat.le_refl _)
    rw [List.take_length, ← ew, List.length_map] at h1
    omega
  refine ⟨_, rfl, r, rfl, ⟨_, SqL.of er⟩, fun l2 h2 => ?_⟩
  refine comp_lst_mapB rowV tw (fun _ => true) (fun z => .int (worth z.2)) (SqL.of er) (by omega) h2 ?_ ?_ ?_
  · intro z hz H2 s2 C hC; exact hC _ (Same.refl _)
  · intro z hz _ H2 s2 C hC
    obtain ⟨a, b, e1, _⟩ := ((hR z hz).same s2).pl
    exact ⟨_, rfl, z.1, _, _, _, rfl, rfl, SqT.of e1, at_nat (k := 3) rfl, hC _ (Same.refl _)⟩
  intro H2 s2 e2
  have em : ((tw.filter fun _ => true).map fun z : Addr × Way => V.int (worth z.2)) = ((allWays os).map worth).map V.int := by
    rw [List.filter_eq_self.mpr (fun _ _ => rfl), ← ew, List.map_map, List.map_map]; rfl
  rw [em] at e2
  refine ⟨l2, _, rfl, SqL.of e2, ?_, fun best hb => ?_⟩
  · rw [List.length_map]
    exact List.length_pos_of_mem (mem_allWays.mpr (way_none 0 os))
  have hbw := best_of (os := os) (rows := allWays os) (fun w => mem_allWays) hb
  subst hbw
  have er2 := s2 _ _ er
  have hz2 : ∀ z ∈ tw, ∃ b, H2 z.1 = some (.tup [.ref (fstRef H2 z.1), .ref b, .int (taken z.2 : Int), .int (worth z.2)]) ∧ PL H2 (fstRef H2 z.1) (key z.2) := fun z hz => by
    obtain ⟨a, b, e1, hp, _⟩ := ((hR z hz).same s2).pl
    rw [fstRef_eq e1]; exact ⟨b, e1, hp⟩
  refine ⟨_, rfl, r, rfl, ⟨_, SqL.of er2⟩, fun l3 h3 => ?_⟩
  refine comp_lst_mapB rowV tw (fun z => decide (worth z.2 = bestW 0 os)) (fun z => .ref (fstRef H2 z.1)) (SqL.of er2) (by omega) h3 ?_ ?_ ?_
  · intro z hz H3 s3 C hC
    obtain ⟨b, e1, _⟩ := hz2 z hz
    have z3 := hC H3 (Same.refl _)
    refine ⟨_, rfl, z.1, _, _, _, rfl, rfl, SqT.of (s3 _ _ e1), at_nat (k := 3) rfl, _, rfl, rfl, _, rfl, ?_⟩
    have ed : decide (V.int (worth z.2) = V.int (bestW 0 os)) = decide (worth z.2 = bestW 0 os) := by simp
    rw [ed]; exact z3
  · intro z hz _ H3 s3 C hC
    obtain ⟨b, e1, _⟩ := hz2 z hz
    exact ⟨_, rfl, z.1, _, _, _, rfl, rfl, SqT.of (s3 _ _ e1), at_nat (k := 0) rfl, hC _ (Same.refl _)⟩
  intro H3 s3 e3
  generalize hfl : (tw.filter fun z => decide (worth z.2 = bestW 0 os)) = fw at e3
  have hfm : ∀ z ∈ fw, z ∈ tw ∧ worth z.2 = bestW 0 os := fun z hz => by
    rw [← hfl] at hz
    exact ⟨(List.mem_filter.mp hz).1, of_decide_eq_true (List.mem_filter.mp hz).2⟩
  have hall : ∀ u, IsWay 0 os u → worth u = bestW 0 os → ∃ z ∈ fw, z.2 = u := fun u hu e => by
    have hm' : u ∈ tw.map Prod.snd := by rw [ew]; exact mem_allWays.mpr hu
    obtain ⟨z, hz, rfl⟩ := List.mem_map.mp hm'
    exact ⟨z, by rw [← hfl]; exact List.mem_filter.mpr ⟨hz, decide_eq_true e⟩, rfl⟩
  have hway : ∀ z ∈ fw, IsWay 0 os z.2 := fun z hz => mem_allWays.mp (by rw [← ew]; exact List.mem_map.mpr ⟨z, (hfm z hz).1, rfl⟩)
  refine ⟨l3, fw.map fun z => fstRef H2 z.1, fw.map fun z => key z.2, os.length, rfl, by rw [e3, List.map_map]; rfl, by rw [List.length_map, List.length_map], ?_, fun i a u e1 e4 => ?_, fun i a u e1 e4 hb4 => ?_⟩
  · obtain ⟨u, hu, eu⟩ := bestW_is 0 os
    obtain ⟨z, hz, _⟩ := hall u hu eu
    rw [List.length_map]; exact List.length_pos_of_mem hz
  · rw [List.getElem?_map] at e1 e4
    obtain ⟨z, hz, rfl⟩ := Option.map_eq_some_iff.mp e1
    rw [hz] at e4
    have e5 : key z.2 = u := Option.some.inj e4
    subst e5
    have hm' := List.mem_of_getElem? hz
    obtain ⟨b, _, hp⟩ := hz2 z (hfm z hm').1
    exact ⟨by rw [key_len, (hway z hm').length], hp.same s3⟩
  · rw [List.getElem?_map] at e1 e4
    obtain ⟨z, hz, rfl⟩ := Option.map_eq_some_iff.mp e1
    rw [hz] at e4
    have e5 : key z.2 = u := Option.some.inj e4
    subst e5
    have hzm := List.mem_of_getElem? hz
    obtain ⟨b, _, hp⟩ := hz2 z (hfm z hzm).1
    have hF : IsFirst 0 os z.2 := first_of (rows := allWays os) (fun w => mem_allWays) hb (mem_allWays.mpr (hway z hzm)) (hfm z hzm).2 fun u hu e => by
      obtain ⟨z', hz', e'⟩ := hall u (mem_allWays.mp hu) e
      rw [← e']
      exact hb4 _ (List.mem_map.mpr ⟨z', hz', rfl⟩)
    obtain ⟨zs, g1, g2, g3⟩ := pl_zip (hp.same s3)
    have sA := s1.trans (s2.trans s3)
    have zl : zs.length = os.length := by rw [← List.length_map (f := Prod.snd), g2, key_len, hF.way.length]
    refine ⟨_, rfl, _, rfl, ⟨_, SqL.of g1⟩, fun l4 h4 => ?_⟩
    refine comp_lst_map plV zs (fun _ => true) (fun y => .int y.2.2) (SqL.of g1) (by omega) h4 ?_ ?_ ?_
    · intro y hy H4 s4 C hC; exact hC _ (Same.refl _)
    · intro y hy _ H4 s4 C hC
      exact ⟨_, rfl, y.1, _, _, _, rfl, rfl, SqT.of (s4 _ _ (g3 y hy)), at_nat (k := 1) rfl, hC _ (Same.refl _)⟩
    intro H4 s4 e6
    refine ⟨_, rfl, _, rfl, ⟨_, SqL.of (s4 _ _ g1)⟩, fun l5 h5 => ?_⟩
    refine comp_lst_map plV zs (fun _ => true) (fun y => .int (-y.2.1)) (SqL.of (s4 _ _ g1)) (by omega) h5 ?_ ?_ ?_
    · intro y hy H5 s5 C hC; exact hC _ (Same.refl _)
    · intro y hy _ H5 s5 C hC
      exact ⟨_, rfl, y.1, _, _, _, rfl, rfl, SqT.of (s5 _ _ (s4 _ _ (g3 y hy))), at_nat (k := 0) rfl, _, rfl, hC _ (Same.refl _)⟩
    intro H5 s5 e7
    refine ⟨_, rfl, (by show 3 ≤ sizeLine; decide), fun t ht => ?_⟩
    have st := same_new ht (.tup [V.ref l4, V.ref l5, V.int (bestW 0 os)])
    refine q t l4 l5 _ z.2 ((sA.trans (s4.trans s5)).trans st) hF upd_same (st _ _ (s5 _ _ ?_)) (st _ _ ?_)
    · have ey : (zs.map fun y : Addr × (Int × Int) => V.int y.2.2) = (zs.map Prod.snd).map fun y => V.int y.2 := by rw [List.map_map]; rfl
      rw [e6, List.filter_eq_self.mpr (fun _ _ => rfl), ey, g2]
      unfold key
      rw [List.map_map]; rfl
    · have ey : (zs.map fun y : Addr × (Int × Int) => V.int (-y.2.1)) = (zs.map Prod.snd).map fun y => V.int (-y.1) := by rw [List.map_map]; rfl
      rw [e7, List.filter_eq_self.mpr (fun _ _ => rfl), ey, g2]
      unfold key
      rw [List.map_map]
      congr 2
      refine List.map_congr_left fun c _ => ?_
      show V.int (-(-c.2)) = V.int c.2
      rw [Int.neg_neg]
theorem ok_L_lacking {f : Addr} {fd : FuncData} (F : Fun K "_law_lacking" "_law_lacking" s_L_lacking f fd) (m_self : mg "_law_lacking" = some (.ref f)) (m_range : mg "range" = none) (m_len : mg "len" = none)
    (D_L_greatest : DefOk P w K mg base 2 "_law_greatest" ["_law_offers_here"] [] (sp_L_greatest K)) : DefOk P w K mg base 3 "_law_lacking" ["_law_offers_here", "_law_who"] [] (sp_L_lacking K) := by
  refine F.def_okQ m_self (bnd2 F fun _ _ _ _ _ _ _ _ => rfl) sc_L_lacking (fun vs H Q E h => ?_) (fun cdv A outer s H vs Q E hr h => ?_)
  · obtain ⟨l, os, as, m, i, rfl, _⟩ := h; rfl
  obtain ⟨l, os, as, m, i, rfl, hH, h12, hm, hpw, q⟩ := h
  refine ⟨_, (R.pss_one (R.ps_ret (R.pe_callD D_L_greatest hr (by decide) rfl (R.pa_c (R.pe_comp (defScope s_L_lacking) ["_law_offers_here", "_law_who"] ["_law_k"] ["_law_who", "_law_offers_here"] [1, 0] rfl rfl rfl ⟨s.heap.objs.size + 1, rfl⟩ rfl rfl (by decide +kernel) (R.pi_range1 rfl m_range (R.pa_c (R.pe_cB call_len_seq rfl m_len PySem.boot_len (R.pa_c (R.pv 0) R.pa_nil)) R.pa_nil)) (fun C s2 H2 fp => (R.pg_name (i := 0) (show List.Nodup (["_law_k", "_law_who", "_law_offers_here"] : List Str) from by decide +kernel) rfl (Or.inl rfl))) (fun C s2 H2 fp => R.pf_nil) (fun C s2 H2 fp => (R.pe_ifExp (R.pt_cmpR op_ne (R.pv 0) (R.pv 1) (nomark _)) (R.pe_ix (R.ixL K) (R.pv 2) (R.pv 0) (fun _ _ => rfl)) (R.pe_lst R.pa_nil)))) R.pa_nil)))), ?_⟩
  have al : (as.map V.ref).length = os.length := by rw [List.length_map, hH.2.1]
  refine ⟨_, rfl, l, _, rfl, .inl (SqL.of hH.1), _, rfl, by omega, by rw [al]; omega, fun r hr => ?_⟩
  rw [Int.toNat_natCast, al]
  refine comp_rng1 (fun k H' => Same H H' ∧ ∃ bs, HallAt H' r ((os.set i []).take k) bs ∧ ∀ b ∈ bs, b ≠ r) ?_ ?_ ?_
  · exact ⟨same_new hr _, [], by rw [List.take_zero]; exact hall_nil upd_same, fun x hx => by cases hx⟩
  · rintro k H2 hk ⟨s2, bs, hB, hne⟩ K1 K0 k1 k0
    rw [Int.zero_add]
    have hH2 := hH.same s2
    have bl : bs.length = k := by rw [hB.2.1, List.length_take, List.length_set]; omega
    refine fnilT ⟨_, rfl, _, rfl, rfl, _, rfl, ?_⟩
    rw [show decide (V.int (k : Int) = nv i) = decide (k = i) from int_eq_nat]
    by_cases hik : k = i
    · rw [decide_eq_true hik]
      refine iteF ⟨(by show 0 ≤ sizeLine; decide), fun c hc => ?_⟩
      have s3 := same_new hc (.lst [])
      have hB3 := hB.same s3
      have nc : c ≠ r := Ne.symm (ne_of_none hB.1 hc)
      obtain ⟨g1, g2⟩ := hall_snoc hB3 hne (pairs_nil upd_same) nc
      refine k1 _ _ _ hB3.1 (by rw [List.length_map, bl]; exact small1000 (by omega)) ⟨(s2.trans s3).upd hr _, bs ++ [c], ?_, g2⟩
      rw [List.take_add_one, List.getElem?_set, if_pos hik.symm, if_pos (by omega)]; exact g1
    · rw [decide_eq_false hik]
      have hak : as[k]? = some (as[k]'(by rw [hH.2.1]; exact hk)) := List.getElem?_eq_getElem _
      have hok : os[k]? = some (os[k]'hk) := List.getElem?_eq_getElem _
      obtain ⟨ps, hP⟩ := hH2.2.2 k _ _ hak hok
      refine iteT ⟨_, rfl, _, rfl, l, _, _, _, rfl, rfl, SqL.of hH2.1, at_nat (by rw [List.getElem?_map, hak]; rfl), ?_⟩
      obtain ⟨g1, g2⟩ := hall_snoc hB hne hP (by
        obtain ⟨zs, hz⟩ := hH.lives (List.mem_of_getElem? hak)
        exact ne_of_none hz hr)
      refine k1 _ _ _ hB.1 (by rw [List.length_map, bl]; exact small1000 (by omega)) ⟨s2.upd hr _, bs ++ [_], ?_, g2⟩
      rw [List.take_add_one, List.getElem?_set, if_neg (fun z => hik z.symm), hok]; exact g1
  · rintro H2 ⟨s2, bs, hB, hne⟩
    have e9 : (os.set i []).take os.length = os.set i [] := by rw [← List.length_set (i := i) (a := ([] : Off)), List.take_length]
    rw [e9] at hB
    exact ⟨r, os.set i [], bs, m, rfl, hB, by rw [List.length_set]; exact h12, set_ok hm (Nat.zero_le _), by rw [List.length_set]; exact hpw, fun H3 s3 => q H3 (s2.trans s3)⟩
theorem ok_L_list_is {f : Addr} {fd : FuncData} (F : Fun K "_law_list_is" "_law_list_is" s_L_list_is f fd) (m_self : mg "_law_list_is" = some (.ref f)) (m_range : mg "range" = none) (m_len : mg "len" = none) (m_isinstance : mg "isinstance" = none) (m_list : mg "list" = none)
    (D_L_whole : DefOk P w K mg base 1 "_law_whole" ["_law_found"] [] (sp_L_whole K)) : DefOk P w K mg base 2 "_law_list_is" ["_law_found", "_law_due"] [] (sp_L_list_is K) := by
  refine F.def_okQ m_self (bnd2 F fun _ _ _ _ _ _ _ _ => rfl) sc_L_list_is (fun vs H Q E h => ?_) (fun cdv A outer s H vs Q E hr h => ?_)
  · obtain ⟨f, d, xs, rfl, _⟩ := h; rfl
  obtain ⟨f, d, xs, rfl, hf, hd, few, q⟩ := h
  refine ⟨_, (R.pss_cons (R.ps_if (R.pt (R.pw_or (R.pt_not (R.pt_val (R.pe_isi .lst rfl m_isinstance rfl m_list (R.pv 0)))) (R.pw_or1 (R.pt_cmpR op_ne (R.pe_cB call_len_seq rfl m_len PySem.boot_len (R.pa_c (R.pv 0) R.pa_nil)) (R.pe_cB call_len_seq rfl m_len PySem.boot_len (R.pa_c (R.pv 1) R.pa_nil)) (nomark _))))) (R.pss_one (R.ps_ret R.pe_bl)) R.pss_nil)
    (R.pss_cons (R.ps_for PassesOwn.never rfl (R.pi_range1 rfl m_range (R.pa_c (R.pe_cB call_len_seq rfl m_len PySem.boot_len (R.pa_c (R.pv 1) R.pa_nil)) R.pa_nil)) (R.pg_name (i := 2) sc_L_list_is.nd rfl (Or.inl rfl)) (R.pss_one (R.ps_if (R.pt (R.pw_or (R.pt_not (R.pt_val (R.pe_callD D_L_whole hr (by decide) rfl (R.pa_c (R.pe_ix (R.ixL K) (R.pv 0) (R.pv 2) (fun _ _ => rfl)) R.pa_nil)))) (R.pw_or1 (R.pt_cmpR op_ne (R.pe_ix (R.ixL K) (R.pv 0) (R.pv 2) (fun _ _ => rfl)) (R.pe_ix (R.ixL K) (R.pv 1) (R.pv 2) (fun _ _ => rfl)) (nomark _))))) (R.pss_one (R.ps_ret R.pe_bl)) R.pss_nil)))
    (R.pss_one (R.ps_ret R.pe_bl)))), ?_⟩
  have xl : (xs.map V.int).length = xs.length := List.length_map _
  refine ⟨_, rfl, _, .lst, rfl, TyOf.lst hf, _, rfl, iteF ?_⟩
  refine ⟨_, rfl, f, _, rfl, .inl (SqL.of hf), _, rfl, d, _, rfl, .inl (SqL.of hd), rfl, _, rfl, ?_⟩
  rw [decide_eq_true rfl]
  refine iteF ?_
  refine ⟨_, rfl, d, _, rfl, .inl (SqL.of hd), _, rfl, by omega, by rw [xl]; omega, ?_⟩
  rw [Int.toNat_natCast, xl]
  refine for_range (n := xs.length) (lo := 0) (fun i σ H' => H' = H ∧ ∃ y, σ = [some (.ref f), some (.ref d), y]) ?_ ?_ ?_
  · exact ⟨rfl, _, rfl⟩
  · rintro k σ H' hk ⟨rfl, y, rfl⟩
    rw [Int.zero_add]
    refine ⟨_, rfl, _, rfl, f, _, _, _, rfl, rfl, SqL.of hf, getD_at hk, _, .int, rfl, TyOf.int _, _, rfl, ?_⟩
    rw [decide_eq_true rfl]
    refine iteF ?_
    refine ⟨_, rfl, _, rfl, f, _, _, _, rfl, rfl, SqL.of hf, getD_at hk, _, rfl, _, rfl, d, _, _, _, rfl, rfl, SqL.of hd, getD_at hk, rfl, _, rfl, ?_⟩
    rw [decide_eq_true rfl]
    exact iteF ⟨rfl, _, rfl⟩
  · rintro σ H' ⟨rfl, y, rfl⟩
    exact q _ (Same.refl _)
theorem ok_L_pays {f : Addr} {fd : FuncData} (F : Fun K "_law_pays" "_law_pays" s_L_pays f fd) (m_self : mg "_law_pays" = some (.ref f)) (m_range : mg "range" = none) (m_len : mg "len" = none)
    (D_L_lacking : DefOk P w K mg base 3 "_law_lacking" ["_law_offers_here", "_law_who"] [] (sp_L_lacking K)) : DefOk P w K mg base 4 "_law_pays" ["_law_offers_here", "_law_due"] [] (sp_L_pays K) := by
  refine F.def_okQ m_self (bnd2 F fun _ _ _ _ _ _ _ _ => rfl) sc_L_pays (fun vs H Q E h => ?_) (fun cdv A outer s H vs Q E hr h => ?_)
  · obtain ⟨l, td, xa, xb, os, as, ch, m, rfl, _⟩ := h; rfl
  obtain ⟨l, td, xa, xb, os, as, ch, m, rfl, hH, h12, hm, hpw, hF, ed, eb, q⟩ := h
  refine ⟨_, (R.pss_one (R.ps_ret (R.pe_comp (defScope s_L_pays) ["_law_offers_here", "_law_due"] ["_law_who"] ["_law_offers_here", "_law_due"] [0, 1] rfl rfl rfl ⟨s.heap.objs.size + 1, rfl⟩ rfl rfl (by decide +kernel) (R.pi_range1 rfl m_range (R.pa_c (R.pe_cB call_len_seq rfl m_len PySem.boot_len (R.pa_c (R.pv 0) R.pa_nil)) R.pa_nil)) (fun C s2 H2 fp => (R.pg_name (i := 0) (show List.Nodup (["_law_who", "_law_offers_here", "_law_due"] : List Str) from by decide +kernel) rfl (Or.inl rfl))) (fun C s2 H2 fp => R.pf_nil) (fun C s2 H2 fp => (R.pe_op op_sub (R.pe_callD D_L_lacking hr (by decide) rfl (R.pa_c (R.pv 1) (R.pa_c (R.pv 0) R.pa_nil))) (R.pe_op op_sub (R.pe_ix (R.ixT K) (R.pv 2) R.pe_int (fun _ _ => rfl)) (R.pe_ix (R.ixL K) (R.pe_ix (R.ixT K) (R.pv 2) R.pe_int (fun _ _ => rfl)) (R.pv 0) (fun _ _ => rfl)))))))), ?_⟩
  have al : (as.map V.ref).length = os.length := by rw [List.length_map, hH.2.1]
  have cl := hF.way.length
  refine ⟨_, rfl, l, _, rfl, .inl (SqL.of hH.1), _, rfl, by omega, by rw [al]; omega, fun r hr => ?_⟩
  rw [Int.toNat_natCast, al]
  refine comp_rng_map (fun _ => true) (fun k => .int (payOf os ch k)) (by omega) hr ?_ ?_ ?_
  · intro k H1 hk s1 C hC; exact hC _ (Same.refl _)
  · intro k H1 hk _ s1 C hC
    rw [Int.zero_add]
    have hck : ch[k]? = some (ch[k]'(by omega)) := List.getElem?_eq_getElem _
    have at1 : atI (ch.map fun c => V.int c.2) (k : Int) = some (V.int (ch[k]'(by omega)).2) := at_nat (by rw [List.getElem?_map, hck]; rfl)
    have epay : payOf os ch k = bestW 0 (os.set k []) - (bestW 0 os - (ch[k]'(by omega)).2) := by
      unfold payOf; rw [hck]; rfl
    refine ⟨_, rfl, _, rfl, l, os, as, m, k, rfl, hH.same s1, h12, hm, hpw, fun H2 s2 => ?_⟩
    have z := hC H2 s2
    rw [epay] at z
    have ed2 := s2 _ _ (s1 _ _ ed)
    exact ⟨_, rfl, td, _, _, _, rfl, rfl, SqT.of ed2, at_nat (k := 2) rfl, _, rfl, td, _, _, _, rfl, rfl, SqT.of ed2, at_nat (k := 1) rfl, _, rfl, xb, _, _, _, rfl, rfl, SqL.of (s2 _ _ (s1 _ _ eb)), at1, _, _, rfl, rfl, _, _, rfl, rfl, z⟩
  · intro H1 s1 e1
    refine q r H1 s1 ?_
    rw [e1, List.filter_eq_self.mpr (fun _ _ => rfl), List.map_map]; rfl
end
end My


set_option Elab.async false
set_option linter.all false
set_option maxRecDepth 100000
set_option maxHeartbeats 4000000
namespace My
open PySem PySem.Spec PyProof.Rows L2 GM GP
section
variable {P : Program} {w : World} {K : PySem.W.Frag} {mg : Str → Option Value} {base : Heap}
theorem pow4 {b : Nat} (h : b < 4) : (4 + 1) ^ b ≤ 800 := by
  rcases (show b = 0 ∨ b = 1 ∨ b = 2 ∨ b = 3 by omega) with rfl | rfl | rfl | rfl <;> decide
theorem pow_at {n : Nat} (h : n < 4) : ([V.int 1, V.int 2, V.int 4, V.int 8] : List V)[n]? = some (nv (2 ^ n)) := by
  rcases (show n = 0 ∨ n = 1 ∨ n = 2 ∨ n = 3 by omega) with rfl | rfl | rfl | rfl <;> rfl
theorem pow_le8 {n : Nat} (h : n < 4) : 2 ^ n ≤ 8 := (Nat.pow_le_pow_right (n := 2) (by decide) (by omega) : 2 ^ n ≤ 2 ^ 3)
theorem sh_eq (n : Nat) (c : Nat × Int) : sh n c = (c.1 * 2 ^ n, c.2) := by unfold sh; rw [Nat.shiftLeft_eq]
noncomputable def bothOf (n : Nat) (os ps : List Off) : List Off := os ++ ps.map fun o => o.map (sh n)
theorem both_mem {n : Nat} {os ps : List Off} {P : Off → Prop} (h1 : ∀ o ∈ os, P o) (h2 : ∀ o ∈ ps, P (o.map (sh n))) : ∀ o ∈ bothOf n os ps, P o := fun o ho => by
  rcases List.mem_append.mp ho with z | z
  · exact h1 o z
  · obtain ⟨p, hp, rfl⟩ := List.mem_map.mp z
    exact h2 p hp
theorem good_sh {n : Nat} {o : Off} (h : GoodO o) : GoodO (o.map (sh n)) := by
  constructor
  · have e : (o.map (sh n)).map Prod.fst = (o.map Prod.fst).map fun x => x * 2 ^ n := by
      rw [List.map_map, List.map_map]
      refine List.map_congr_left fun c _ => ?_
      show (sh n c).1 = _
      rw [sh_eq]; rfl
    rw [e, List.nodup_iff_pairwise_ne, List.pairwise_map]
    have := h.1
    rw [List.nodup_iff_pairwise_ne] at this
    exact this.imp fun hne z => hne (Nat.eq_of_mul_eq_mul_right (Nat.two_pow_pos n) z)
  · intro c hc
    obtain ⟨d, hd, rfl⟩ := List.mem_map.mp hc
    rw [sh_eq]
    exact Nat.mul_pos (h.2 d hd) (Nat.two_pow_pos n)
theorem both_ok {n1 n2 : Nat} {os ps : List Off} (h1 : ∀ o ∈ os, OffOk n1 4 o) (h2 : ∀ o ∈ ps, OffOk n2 4 o) (l1 : os.length ≤ 6) (l2 : ps.length ≤ 6) : HallOk (n1 + n2) (bothOf n1 os ps) ∧ ∀ o ∈ bothOf n1 os ps, GoodO o := by
  have p1 : 2 ^ n1 ≤ 2 ^ (n1 + n2) := Nat.pow_le_pow_right (by decide) (Nat.le_add_right _ _)
  refine ⟨⟨by unfold bothOf; rw [List.length_append, List.length_map]; omega, both_mem (fun o ho => ⟨?_, fun c hc => ?_⟩) (fun o ho => ⟨?_, fun c hc => ?_⟩)⟩, both_mem (fun o ho => (h1 o ho).good) fun o ho => good_sh (h2 o ho).good⟩
  · have := (h1 o ho).few; omega
  · have := ((h1 o ho).part c hc).2; omega
  · rw [List.length_map]; have := (h2 o ho).few; omega
  · obtain ⟨d, hd, rfl⟩ := List.mem_map.mp hc
    rw [sh_eq, Nat.pow_add, Nat.mul_comm (2 ^ n1)]
    exact Nat.mul_lt_mul_of_pos_right ((h2 o ho).part d hd).2 (Nat.two_pow_pos n1)
theorem ok_law {f : Addr} {fd : FuncData} (F : Fun K "law" "law" s_law f fd) (m_self : mg "law" = some (.ref f))
    (D_L_offers : DefOk P w K mg base 3 "_law_offers" ["_law_script", "_law_at", "_law_many", "_law_bidders", "_law_most"] [] (sp_L_offers K))
    (D_L_copies : DefOk P w K mg base 1 "_law_copies" ["_law_offers_here"] [] (sp_L_copies K))
    (D_L_first : DefOk P w K mg base 2 "_law_first" ["_law_offers_here"] [] (sp_L_first K))
    (D_P_greatest_of : DefOk P w K mg base 7 "greatest_of" ["many", "offers"] [] (sp_P_greatest_of K))
    (D_L_list_is : DefOk P w K mg base 2 "_law_list_is" ["_law_found", "_law_due"] [] (sp_L_list_is K))
    (D_L_cell_at : DefOk P w K mg base 1 "_law_cell_at" ["_law_script", "_law_k"] [] (sp_L_cell_at K))
    (D_P_pays_of : DefOk P w K mg base 9 "pays_of" ["many", "offers"] [] (sp_P_pays_of K))
    (D_L_whole : DefOk P w K mg base 1 "_law_whole" ["_law_found"] [] (sp_L_whole K))
    (D_P_winners_of : DefOk P w K mg base 6 "winners_of" ["many", "offers"] [] (sp_P_winners_of K))
    (D_L_pays : DefOk P w K mg base 4 "_law_pays" ["_law_offers_here", "_law_due"] [] (sp_L_pays K)) : FnOk P w K mg base CX0 10 f fd ["_law_script"] (sp_law K) := by
  refine F.okQ sc_law (fun vs H Q E h => ?_) (fun cdv A outer s H vs Q E hr h => ?_)
  · obtain ⟨a, ns, rfl, _⟩ := h; rfl
  obtain ⟨a, ns, rfl, hS, h63, q⟩ := h
  refine ⟨_, (R.pss_cons (R.ps_set (i := 1) sc_law.nd rfl (Or.inr rfl) (R.pe_op (opE op_mod) (R.pe_callD D_L_cell_at hr (by decide) rfl (R.pa_c (R.pv 0) (R.pa_c R.pe_int R.pa_nil))) R.pe_int))
    (R.pss_cons (R.ps_set (i := 2) sc_law.nd rfl (Or.inl rfl) (R.pe_callD D_L_offers hr (by decide) rfl (R.pa_c (R.pv 0) (R.pa_c R.pe_int (R.pa_c (R.pv 1) (R.pa_c (R.pe_op (opE op_mod) (R.pe_callD D_L_cell_at hr (by decide) rfl (R.pa_c (R.pv 0) (R.pa_c R.pe_int R.pa_nil))) R.pe_int) (R.pa_c R.pe_int R.pa_nil)))))))
    (R.pss_cons (R.ps_set (i := 3) sc_law.nd rfl (Or.inl rfl) (R.pe_op (opE op_mod) (R.pe_callD D_L_cell_at hr (by decide) rfl (R.pa_c (R.pv 0) (R.pa_c R.pe_int R.pa_nil))) R.pe_int))
    (R.pss_cons (R.ps_set (i := 4) sc_law.nd rfl (Or.inl rfl) (R.pe_callD D_L_offers hr (by decide) rfl (R.pa_c (R.pv 0) (R.pa_c R.pe_int (R.pa_c (R.pv 3) (R.pa_c (R.pe_op (opE op_mod) (R.pe_callD D_L_cell_at hr (by decide) rfl (R.pa_c (R.pv 0) (R.pa_c R.pe_int R.pa_nil))) R.pe_int) (R.pa_c R.pe_int R.pa_nil)))))))
    (R.pss_cons (R.ps_set (i := 5) sc_law.nd rfl (Or.inl rfl) (R.pe_callD D_L_copies hr (by decide) rfl (R.pa_c (R.pv 2) R.pa_nil)))
    (R.pss_cons (R.ps_for PassesOwn.never rfl (R.pi_list (R.pv 4)) (R.pg_name (i := 6) sc_law.nd rfl (Or.inl rfl)) (R.pss_one (R.ps_expr (R.pe_append (R.pv 5) (R.pa_c (R.pe_comp (defScope s_law) ["_law_script", "_law_many", "_law_ones", "_law_more", "_law_others", "_law_both", "_law_listed_here", "_law_left", "_law_right", "_law_worth", "_law_plan"] ["_law_one"] ["_law_many"] [1] rfl rfl rfl ⟨s.heap.objs.size + 1, rfl⟩ rfl rfl (by decide +kernel) (R.pi_list (R.pv 6)) (fun C s2 H2 fp => (R.pg_name (i := 0) (show List.Nodup (["_law_one", "_law_many"] : List Str) from by decide +kernel) rfl (Or.inl rfl))) (fun C s2 H2 fp => R.pf_nil) (fun C s2 H2 fp => (R.pe_tup (R.pa_c (R.pe_op (opE op_mulB) (R.pe_ix (R.ixT K) (R.pv 0) R.pe_int (fun _ _ => rfl)) (R.pe_ix (R.ixL K) (R.pe_lst (R.pa_c R.pe_int (R.pa_c R.pe_int (R.pa_c R.pe_int (R.pa_c R.pe_int R.pa_nil))))) (R.pv 1) (fun _ _ => rfl))) (R.pa_c (R.pe_ix (R.ixT K) (R.pv 0) R.pe_int (fun _ _ => rfl)) R.pa_nil))))) R.pa_nil)))))
    (R.pss_cons (R.ps_set (i := 7) sc_law.nd rfl (Or.inl rfl) (R.pe_callD D_L_first hr (by decide) rfl (R.pa_c (R.pv 2) R.pa_nil)))
    (R.pss_cons (R.ps_set (i := 8) sc_law.nd rfl (Or.inl rfl) (R.pe_callD D_L_first hr (by decide) rfl (R.pa_c (R.pv 4) R.pa_nil)))
    (R.pss_cons (R.ps_set (i := 9) sc_law.nd rfl (Or.inl rfl) (R.pe_callD D_P_greatest_of hr (by decide) rfl (R.pa_c (R.pe_op (opE0 op_add) (R.pv 1) (R.pv 3)) (R.pa_c (R.pe_callD D_L_copies hr (by decide) rfl (R.pa_c (R.pv 5) R.pa_nil)) R.pa_nil))))
    (R.pss_cons (R.ps_if (R.pt (R.pw_or (R.pt_not (R.pt_val (R.pe_callD D_L_whole hr (by decide) rfl (R.pa_c (R.pv 9) R.pa_nil)))) (R.pw_or1 (R.pt_cmpR op_ne (R.pv 9) (R.pe_op op_add (R.pe_ix (R.ixT K) (R.pv 7) R.pe_int (fun _ _ => rfl)) (R.pe_ix (R.ixT K) (R.pv 8) R.pe_int (fun _ _ => rfl))) (nomark _))))) (R.pss_one (R.ps_ret R.pe_bl)) R.pss_nil)
    (R.pss_cons (R.ps_set (i := 10) sc_law.nd rfl (Or.inl rfl) (R.pe_op op_cat (R.pe_ix (R.ixT K) (R.pv 7) R.pe_int (fun _ _ => rfl)) (R.pe_comp (defScope s_law) ["_law_script", "_law_many", "_law_ones", "_law_more", "_law_others", "_law_both", "_law_listed_here", "_law_left", "_law_right", "_law_worth", "_law_plan"] ["_law_bundle"] ["_law_many"] [1] rfl rfl rfl ⟨s.heap.objs.size + 1, rfl⟩ rfl rfl (by decide +kernel) (R.pi_list (R.pe_ix (R.ixT K) (R.pv 8) R.pe_int (fun _ _ => rfl))) (fun C s2 H2 fp => (R.pg_name (i := 0) (show List.Nodup (["_law_bundle", "_law_many"] : List Str) from by decide +kernel) rfl (Or.inl rfl))) (fun C s2 H2 fp => R.pf_nil) (fun C s2 H2 fp => (R.pe_op (opE op_mulB) (R.pv 0) (R.pe_ix (R.ixL K) (R.pe_lst (R.pa_c R.pe_int (R.pa_c R.pe_int (R.pa_c R.pe_int (R.pa_c R.pe_int R.pa_nil))))) (R.pv 1) (fun _ _ => rfl)))))))
    (R.pss_cons (R.ps_if (R.pt_not (R.pt_val (R.pe_callD D_L_list_is hr (by decide) rfl (R.pa_c (R.pe_callD D_P_winners_of hr (by decide) rfl (R.pa_c (R.pe_op (opE0 op_add) (R.pv 1) (R.pv 3)) (R.pa_c (R.pe_callD D_L_copies hr (by decide) rfl (R.pa_c (R.pv 5) R.pa_nil)) R.pa_nil))) (R.pa_c (R.pv 10) R.pa_nil))))) (R.pss_one (R.ps_ret R.pe_bl)) R.pss_nil)
    (R.pss_one (R.ps_ret (R.pe_callD D_L_list_is hr (by decide) rfl (R.pa_c (R.pe_callD D_P_pays_of hr (by decide) rfl (R.pa_c (R.pe_op (opE0 op_add) (R.pv 1) (R.pv 3)) (R.pa_c (R.pv 5) R.pa_nil))) (R.pa_c (R.pe_op op_cat (R.pe_callD D_L_pays hr (by decide) rfl (R.pa_c (R.pv 2) (R.pa_c (R.pv 7) R.pa_nil))) (R.pe_callD D_L_pays hr (by decide) rfl (R.pa_c (R.pv 4) (R.pa_c (R.pv 8) R.pa_nil)))) R.pa_nil))))))))))))))))), ?_⟩
  obtain ⟨n1, en1, hn1⟩ : ∃ n : Nat, cellAt ns 0 % 4 = (n : Int) ∧ n < 4 := ⟨(cellAt ns 0 % 4).toNat, by omega, by omega⟩
  obtain ⟨b1, eb1, hb1⟩ : ∃ n : Nat, cellAt ns 1 % 4 = (n : Int) ∧ n < 4 := ⟨(cellAt ns 1 % 4).toNat, by omega, by omega⟩
  obtain ⟨n2, en2, hn2⟩ : ∃ n : Nat, cellAt ns 2 % 4 = (n : Int) ∧ n < 4 := ⟨(cellAt ns 2 % 4).toNat, by omega, by omega⟩
  obtain ⟨b2, eb2, hb2⟩ : ∃ n : Nat, cellAt ns 3 % 4 = (n : Int) ∧ n < 4 := ⟨(cellAt ns 3 % 4).toNat, by omega, by omega⟩
  have p8 := pow_le8 hn1
  refine ⟨_, rfl, a, ns, _, rfl, hS, by decide, _, _, nv n1, rfl, rfl, (by show (0 : Int) < 4; decide), congrArg V.int en1, ?_⟩
  refine ⟨_, rfl, _, rfl, _, rfl, a, ns, _, rfl, hS, by decide, _, _, nv b1, rfl, rfl, (by show (0 : Int) < 4; decide), congrArg V.int eb1, ?_⟩
  refine ⟨a, ns, 4, n1, b1, 4, rfl, hS, by omega, by omega, by decide, fun l1 H1 os1 as1 s1 hl1 hH1 hol1 hok1 => ?_⟩
  have hS1 := s1.seq hS
  refine ⟨_, rfl, a, ns, _, rfl, hS1, by decide, _, _, nv n2, rfl, rfl, (by show (0 : Int) < 4; decide), congrArg V.int en2, ?_⟩
  refine ⟨_, rfl, _, rfl, _, rfl, a, ns, _, rfl, hS1, by decide, _, _, nv b2, rfl, rfl, (by show (0 : Int) < 4; decide), congrArg V.int eb2, ?_⟩
  refine ⟨a, ns, 20, n2, b2, 4, rfl, hS1, by omega, by omega, by decide, fun l2 H2 os2 as2 s2 hl2 hH2 hol2 hok2 => ?_⟩
  obtain ⟨hOb, hGb⟩ := both_ok hok1 hok2 (by omega) (by omega)
  have hn7 : n1 + n2 < 7 := by omega
  have hf1 : ∀ o ∈ os1, o.length ≤ 4 := fun o ho => (hok1 o ho).few
  have hf2 : ∀ o ∈ os2, o.length ≤ 4 := fun o ho => (hok2 o ho).few
  have hp1 : (4 + 1) ^ os1.length ≤ 800 := by rw [hol1]; exact pow4 hb1
  have hp2 : (4 + 1) ^ os2.length ≤ 800 := by rw [hol2]; exact pow4 hb2
  have hlt : ∀ o ∈ os1, ∀ c ∈ o, c.1 < 2 ^ n1 := fun o ho c hc => ((hok1 o ho).part c hc).2
  have hH12 := hH1.same s2
  have al2 : (as2.map V.ref).length = os2.length := by rw [List.length_map, hH2.2.1]
  refine ⟨_, rfl, l1, os1, as1, rfl, hH12, by omega, fun r H3 bs s3 hr _ hbr _ hB => ?_⟩
  have hH13 := hH12.same s3
  have hH23 := hH2.same s3
  refine ⟨_, rfl, l2, rfl, ⟨_, SqL.of hH23.1⟩, ?_⟩
  refine for_list (xs := as2.map V.ref) (fun k σ H' => Same H2 H' ∧ (∃ cs, HallAt H' r (bothOf n1 os1 (os2.take k)) cs ∧ ∀ c ∈ cs, c ≠ r) ∧ ∃ y6, σ = [some (.ref a), some (nv n1), some (.ref l1), some (nv n2), some (.ref l2), some (.ref r), y6, none, none, none, none]) ?_ ?_ ?_ ?_
  · refine ⟨s3, ⟨bs, ?_, hbr⟩, _, rfl⟩
    unfold bothOf
    rw [List.take_zero, List.map_nil, List.append_nil]; exact hB
  · rintro k σ H4 _ ⟨s4, _⟩; exact SqL.of (s4 _ _ hH2.1)
  · rintro k v σ H4 hv ⟨s4, ⟨cs, hC, hcr⟩, y6, rfl⟩
    have hk : k < os2.length := by have := (List.getElem?_eq_some_iff.mp hv).1; omega
    obtain ⟨x, o, ps, rfl, _, ho, hP⟩ := (hH2.same s4).at hv
    have hoo := hok2 o (List.mem_of_getElem? ho)
    have few := hoo.few
    have csl : cs.length ≤ 6 := by
      rw [hC.2.1]; unfold bothOf; rw [List.length_append, List.length_map, List.length_take]; omega
    refine ⟨_, rfl, .inl ⟨rfl, _, SqL.of hC.1⟩, _, rfl, x, rfl, ⟨_, SqL.of hP.1⟩, fun e he => ?_⟩
    refine comp_lst1 (xs := ps.map V.ref) (fun j H' => Same H4 H' ∧ ∃ qs, Pairs H' e ((o.take j).map (sh n1)) qs) ?_ (fun j H' _ z => SqL.of (z.1 _ _ hP.1)) ?_ ?_
    · exact ⟨same_new he _, [], by rw [List.take_zero]; exact pairs_nil upd_same⟩
    · rintro j v H5 hv5 ⟨s5, qs, hq⟩ K1 K0 k1 k0
      obtain ⟨p, c, rfl, hc, hp⟩ := (hP.same s5).at hv5
      have hcb := ((hoo.part c (List.mem_of_getElem? hc)).2)
      refine fnilT ⟨_, rfl, p, _, _, _, rfl, rfl, SqT.of hp, at_nat (k := 0) rfl, (by show 4 ≤ sizeLine; decide), fun lw hw => ?_⟩
      have sw := same_new hw (.lst [V.int 1, V.int 2, V.int 4, V.int 8])
      refine ⟨_, rfl, lw, _, _, nv (2 ^ n1), rfl, rfl, SqL.of upd_same, at_nat (pow_at hn1), _, _, nv (c.1 * 2 ^ n1), rfl, rfl, mulOk_small (by rw [Int.natAbs_natCast]; omega), rfl, ?_⟩
      refine ⟨_, rfl, p, _, _, _, rfl, rfl, SqT.of (sw _ _ hp), at_nat (k := 1) rfl, (by show 2 ≤ sizeLine; decide), fun t ht => ?_⟩
      have st := same_new ht (.tup [V.int ((c.1 * 2 ^ n1 : Nat) : Int), V.int c.2])
      have hq6 := (hq.same sw).same st
      refine k1 _ _ _ hq6.1 ?_ ⟨((s5.trans sw).trans st).upd he _, qs ++ [t], ?_⟩
      · rw [List.length_map, hq.2.1, List.length_map]
        have := List.length_take_le' j o
        exact small1000 (by omega)
      · rw [List.take_add_one, hc, List.map_append]
        exact pairs_snoc (x := sh n1 c) hq6 (by rw [sh_eq]; exact upd_same)
    · rintro H5 ⟨s5, qs, hq⟩
      have ex : o.take (ps.map V.ref).length = o := by rw [List.length_map, hP.2.1, List.take_length]
      rw [ex] at hq
      have hC5 := hC.same s5
      have ne : e ≠ r := Ne.symm (ne_of_none hC.1 he)
      obtain ⟨g1, g2⟩ := hall_snoc hC5 hcr hq ne
      refine ⟨r, _, _, rfl, rfl, hC5.1, by rw [List.length_map]; exact small1000 (by omega), ?_⟩
      refine ⟨(s4.trans s5).upd hr _, ⟨cs ++ [e], ?_, g2⟩, _, rfl⟩
      unfold bothOf at g1 ⊢
      rw [List.take_add_one, ho, List.map_append, ← List.append_assoc]; exact g1
  · rintro σ H4 ⟨s4, ⟨cs, hC, hcr⟩, y6, rfl⟩
    rw [al2, List.take_length] at hC
    have hH14 := hH12.same s4
    have hH24 := hH2.same s4
    refine ⟨_, rfl, l1, os1, as1, 4, rfl, hH14, by omega, hf1, hp1, fun td1 xa1 xb1 H5 ch1 s5 hF1 ed1 ea1 eb1' => ?_⟩
    refine ⟨_, rfl, l2, os2, as2, 4, rfl, hH24.same s5, by omega, hf2, hp2, fun td2 xa2 xb2 H6 ch2 s6 hF2 ed2 ea2 eb2' => ?_⟩
    have s46 := s5.trans s6
    have hC6 := hC.same s46
    have ed16 := s6 _ _ ed1
    have ea16 := s6 _ _ ea1
    have eb16 := s6 _ _ eb1'
    have hFb := IsFirst.beside hlt hF1 hF2
    have eW := best_beside (ps := os2) hlt
    have lb : (bothOf n1 os1 os2).length = os1.length + os2.length := by unfold bothOf; rw [List.length_append, List.length_map]
    have hOb1 := hOb.1
    refine ⟨_, rfl, _, rfl, _, _, nv (n1 + n2), rfl, rfl, rfl, _, rfl, r, bothOf n1 os1 os2, cs, rfl, hC6, by omega, fun r7 H7 bs7 s7 _ _ _ _ hB7 => ?_⟩
    refine ⟨r7, n1 + n2, bothOf n1 os1 os2, bs7, rfl, hB7, hn7, hOb, fun H8 s8 => ?_⟩
    rw [show bestW 0 (bothOf n1 os1 os2) = bestW 0 os1 + bestW 0 os2 from eW]
    have s68 := s7.trans s8
    refine ⟨_, rfl, _, .int, rfl, TyOf.int _, _, rfl, ?_⟩
    rw [decide_eq_true rfl]
    refine iteF ?_
    refine ⟨_, rfl, _, rfl, td1, _, _, _, rfl, rfl, SqT.of (s68 _ _ ed16), at_nat (k := 2) rfl, _, rfl, td2, _, _, _, rfl, rfl, SqT.of (s68 _ _ ed2), at_nat (k := 2) rfl, _, _, rfl, rfl, rfl, _, rfl, ?_⟩
    rw [decide_eq_true rfl]
    refine iteF ?_
    have ea18 := s68 _ _ ea16
    have ea28 := s68 _ _ ea2
    have cl1 := hF1.way.length
    have cl2 := hF2.way.length
    refine ⟨_, rfl, td1, _, _, _, rfl, rfl, SqT.of (s68 _ _ ed16), at_nat (k := 0) rfl, _, rfl, td2, _, _, _, rfl, rfl, SqT.of (s68 _ _ ed2), at_nat (k := 0) rfl, xa2, rfl, ⟨_, SqL.of ea28⟩, fun lp hlp => ?_⟩
    refine comp_lst_map (fun c : Nat × Int => V.int (c.1 : Int)) ch2 (fun _ => true) (fun c => .int ((c.1 * 2 ^ n1 : Nat) : Int)) (SqL.of ea28) (by omega) hlp ?_ ?_ ?_
    · intro c hc H9 s9 C hC'; exact hC' _ (Same.refl _)
    · intro c hc _ H9 s9 C hC'
      refine ⟨_, rfl, (by show 4 ≤ sizeLine; decide), fun lw hw => ?_⟩
      exact ⟨_, rfl, lw, _, _, nv (2 ^ n1), rfl, rfl, SqL.of upd_same, at_nat (pow_at hn1), _, _, nv (c.1 * 2 ^ n1), rfl, rfl, mulOk_small (by rw [Int.natAbs_natCast]; omega), rfl, hC' _ (same_new hw _)⟩
    intro H9 s9 e9
    rw [List.filter_eq_self.mpr (fun _ _ => rfl)] at e9
    have ea19 := s9 _ _ ea18
    refine ⟨xa1, lp, _, _, rfl, rfl, ea19, e9, ?_, fun pp hpp => ?_⟩
    · rw [List.length_map, List.length_map]; exact Nat.le_of_lt (small1000 (by omega))
    have sp := same_new hpp (.lst ((ch1.map fun c => V.int (c.1 : Int)) ++ ch2.map fun c => V.int ((c.1 * 2 ^ n1 : Nat) : Int)))
    have epp : upd H9 pp (.lst ((ch1.map fun c => V.int (c.1 : Int)) ++ ch2.map fun c => V.int ((c.1 * 2 ^ n1 : Nat) : Int))) pp = some (.lst (((ch1 ++ ch2.map (sh n1)).map fun c => (c.1 : Int)).map V.int)) := by
      rw [upd_same, List.map_map, List.map_append, List.map_map]
      congr 3
      refine List.map_congr_left fun c _ => ?_
      show _ = V.int (((sh n1 c).1 : Nat) : Int)
      rw [sh_eq]
    have s610 := (s68.trans s9).trans sp
    generalize upd H9 pp (.lst ((ch1.map fun c => V.int (c.1 : Int)) ++ ch2.map fun c => V.int ((c.1 * 2 ^ n1 : Nat) : Int))) = H10 at epp sp s610 ⊢
    have hC10 := hC6.same s610
    refine ⟨_, rfl, _, rfl, _, _, nv (n1 + n2), rfl, rfl, rfl, _, rfl, r, bothOf n1 os1 os2, cs, rfl, hC10, by omega, fun r11 H11 bs11 s11 _ _ _ _ hB11 => ?_⟩
    refine ⟨r11, n1 + n2, bothOf n1 os1 os2, bs11, rfl, hB11, hn7, hOb, fun p12 H12 ch12 s12 _ hF12 ep12 => ?_⟩
    have e12 := hFb.unique hF12
    subst e12
    refine ⟨_, rfl, p12, pp, (ch1 ++ ch2.map (sh n1)).map fun c => (c.1 : Int), rfl, by rw [ep12, List.map_map]; rfl, s12 _ _ (s11 _ _ epp), by rw [List.length_map, List.length_append, List.length_map]; omega, fun H13 s13 => ⟨_, rfl, iteF ?_⟩⟩
    have s613 := s610.trans (s11.trans (s12.trans s13))
    refine ⟨_, rfl, _, rfl, _, _, nv (n1 + n2), rfl, rfl, rfl, _, rfl, r, n1 + n2, bothOf n1 os1 os2, cs, rfl, hC6.same s613, hn7, hOb, hGb, fun p14 H14 ch14 s14 _ hF14 ep14 => ?_⟩
    have e14 := hFb.unique hF14
    subst e14
    have s614 := s613.trans s14
    refine ⟨_, rfl, _, rfl, l1, td1, xa1, xb1, os1, as1, ch1, 4, rfl, (hH14.same s46).same s614, by omega, hf1, hp1, hF1, s614 _ _ ed16, s614 _ _ eb16, fun r15 H15 s15 e15 => ?_⟩
    refine ⟨_, rfl, _, rfl, l2, td2, xa2, xb2, os2, as2, ch2, 4, rfl, ((hH24.same s46).same s614).same s15, by omega, hf2, hp2, hF2, s15 _ _ (s614 _ _ ed2), s15 _ _ (s614 _ _ eb2'), fun r16 H16 s16 e16 => ?_⟩
    refine ⟨r15, r16, _, _, rfl, rfl, s16 _ _ e15, e16, ?_, fun pq hpq => ?_⟩
    · rw [List.length_map, List.length_map, List.length_map, List.length_map, List.length_range, List.length_range]; exact Nat.le_of_lt (small1000 (by omega))
    have ep : ((List.range (bothOf n1 os1 os2).length).map fun i => payOf (bothOf n1 os1 os2) (ch1 ++ ch2.map (sh n1)) i) = ((List.range os1.length).map fun i => payOf os1 ch1 i) ++ (List.range os2.length).map fun i => payOf os2 ch2 i := by
      obtain ⟨g1, g2⟩ := pay_beside hlt hF1 hF2
      rw [lb, List.range_add, List.map_append, List.map_map]
      congr 1
      · exact List.map_congr_left fun i hi => g1 i (List.mem_range.mp hi)
      · exact List.map_congr_left fun i hi => g2 i (List.mem_range.mp hi)
    have s17 := same_new hpq (.lst ((((List.range os1.length).map fun i => payOf os1 ch1 i).map V.int) ++ ((List.range os2.length).map fun i => payOf os2 ch2 i).map V.int))
    refine ⟨p14, pq, _, rfl, s17 _ _ (s16 _ _ (s15 _ _ ep14)), ?_, ?_, fun H18 s18 => q _⟩
    · rw [upd_same, ep, List.map_append]
    · rw [List.length_map, List.length_range, lb]; omega
end
theorem all_mk {l : PySem.W.OpenLaw} {w : World} {K : PySem.W.Frag} {h : Heap} {mg : Str → Option Value} {fa : Addr} (X : K.In h) (G : h.Ns mainGlobals mg) (hfa : mg "law" = some (.ref fa))
    {f0 : Addr} {od0 an0 : Option Addr} {sl0 : Array (Option Value)} {oc0 kV0 dc0 pm0 cd0 ct0 : Value}
    (a0 : PySem.W.nsIn K mainGlobals "holds" = some (some (.ref f0))) (l0 : K.lookup f0 = some ⟨oc0, od0, .func (PySem.W.fnOf "holds" "holds" (defArgs s_P_holds) (defBody s_P_holds) (defScope s_P_holds) .none kV0 dc0 pm0 an0 cd0 ct0), sl0⟩) (c0 : PySem.W.codeIn K cd0 "holds" = true) (k0 : PySem.W.keepIn K (.ref f0) = true)
    {f1 : Addr} {od1 an1 : Option Addr} {sl1 : Array (Option Value)} {oc1 kV1 dc1 pm1 cd1 ct1 : Value}
    (a1 : PySem.W.nsIn K mainGlobals "amount_of" = some (some (.ref f1))) (l1 : K.lookup f1 = some ⟨oc1, od1, .func (PySem.W.fnOf "amount_of" "amount_of" (defArgs s_P_amount_of) (defBody s_P_amount_of) (defScope s_P_amount_of) .none kV1 dc1 pm1 an1 cd1 ct1), sl1⟩) (c1 : PySem.W.codeIn K cd1 "amount_of" = true) (k1 : PySem.W.keepIn K (.ref f1) = true)
    {f2 : Addr} {od2 an2 : Option Addr} {sl2 : Array (Option Value)} {oc2 kV2 dc2 pm2 cd2 ct2 : Value}
    (a2 : PySem.W.nsIn K mainGlobals "greatest_of" = some (some (.ref f2))) (l2 : K.lookup f2 = some ⟨oc2, od2, .func (PySem.W.fnOf "greatest_of" "greatest_of" (defArgs s_P_greatest_of) (defBody s_P_greatest_of) (defScope s_P_greatest_of) .none kV2 dc2 pm2 an2 cd2 ct2), sl2⟩) (c2 : PySem.W.codeIn K cd2 "greatest_of" = true) (k2 : PySem.W.keepIn K (.ref f2) = true)
    {f3 : Addr} {od3 an3 : Option Addr} {sl3 : Array (Option Value)} {oc3 kV3 dc3 pm3 cd3 ct3 : Value}
    (a3 : PySem.W.nsIn K mainGlobals "winners_of" = some (some (.ref f3))) (l3 : K.lookup f3 = some ⟨oc3, od3, .func (PySem.W.fnOf "winners_of" "winners_of" (defArgs s_P_winners_of) (defBody s_P_winners_of) (defScope s_P_winners_of) .none kV3 dc3 pm3 an3 cd3 ct3), sl3⟩) (c3 : PySem.W.codeIn K cd3 "winners_of" = true) (k3 : PySem.W.keepIn K (.ref f3) = true)
    {f4 : Addr} {od4 an4 : Option Addr} {sl4 : Array (Option Value)} {oc4 kV4 dc4 pm4 cd4 ct4 : Value}
    (a4 : PySem.W.nsIn K mainGlobals "first_choice" = some (some (.ref f4))) (l4 : K.lookup f4 = some ⟨oc4, od4, .func (PySem.W.fnOf "first_choice" "first_choice" (defArgs s_P_first_choice) (defBody s_P_first_choice) (defScope s_P_first_choice) .none kV4 dc4 pm4 an4 cd4 ct4), sl4⟩) (c4 : PySem.W.codeIn K cd4 "first_choice" = true) (k4 : PySem.W.keepIn K (.ref f4) = true)
    {f5 : Addr} {od5 an5 : Option Addr} {sl5 : Array (Option Value)} {oc5 kV5 dc5 pm5 cd5 ct5 : Value}
    (a5 : PySem.W.nsIn K mainGlobals "choices_in" = some (some (.ref f5))) (l5 : K.lookup f5 = some ⟨oc5, od5, .func (PySem.W.fnOf "choices_in" "choices_in" (defArgs s_P_choices_in) (defBody s_P_choices_in) (defScope s_P_choices_in) .none kV5 dc5 pm5 an5 cd5 ct5), sl5⟩) (c5 : PySem.W.codeIn K cd5 "choices_in" = true) (k5 : PySem.W.keepIn K (.ref f5) = true)
    {f6 : Addr} {od6 an6 : Option Addr} {sl6 : Array (Option Value)} {oc6 kV6 dc6 pm6 cd6 ct6 : Value}
    (a6 : PySem.W.nsIn K mainGlobals "greatest_by_bundle" = some (some (.ref f6))) (l6 : K.lookup f6 = some ⟨oc6, od6, .func (PySem.W.fnOf "greatest_by_bundle" "greatest_by_bundle" (defArgs s_P_greatest_by_bundle) (defBody s_P_greatest_by_bundle) (defScope s_P_greatest_by_bundle) .none kV6 dc6 pm6 an6 cd6 ct6), sl6⟩) (c6 : PySem.W.codeIn K cd6 "greatest_by_bundle" = true) (k6 : PySem.W.keepIn K (.ref f6) = true)
    {f7 : Addr} {od7 an7 : Option Addr} {sl7 : Array (Option Value)} {oc7 kV7 dc7 pm7 cd7 ct7 : Value}
    (a7 : PySem.W.nsIn K mainGlobals "tables_behind" = some (some (.ref f7))) (l7 : K.lookup f7 = some ⟨oc7, od7, .func (PySem.W.fnOf "tables_behind" "tables_behind" (defArgs s_P_tables_behind) (defBody s_P_tables_behind) (defScope s_P_tables_behind) .none kV7 dc7 pm7 an7 cd7 ct7), sl7⟩) (c7 : PySem.W.codeIn K cd7 "tables_behind" = true) (k7 : PySem.W.keepIn K (.ref f7) = true)
    {f8 : Addr} {od8 an8 : Option Addr} {sl8 : Array (Option Value)} {oc8 kV8 dc8 pm8 cd8 ct8 : Value}
    (a8 : PySem.W.nsIn K mainGlobals "with_bidder" = some (some (.ref f8))) (l8 : K.lookup f8 = some ⟨oc8, od8, .func (PySem.W.fnOf "with_bidder" "with_bidder" (defArgs s_P_with_bidder) (defBody s_P_with_bidder) (defScope s_P_with_bidder) .none kV8 dc8 pm8 an8 cd8 ct8), sl8⟩) (c8 : PySem.W.codeIn K cd8 "with_bidder" = true) (k8 : PySem.W.keepIn K (.ref f8) = true)
    {f9 : Addr} {od9 an9 : Option Addr} {sl9 : Array (Option Value)} {oc9 kV9 dc9 pm9 cd9 ct9 : Value}
    (a9 : PySem.W.nsIn K mainGlobals "best_with" = some (some (.ref f9))) (l9 : K.lookup f9 = some ⟨oc9, od9, .func (PySem.W.fnOf "best_with" "best_with" (defArgs s_P_best_with) (defBody s_P_best_with) (defScope s_P_best_with) .none kV9 dc9 pm9 an9 cd9 ct9), sl9⟩) (c9 : PySem.W.codeIn K cd9 "best_with" = true) (k9 : PySem.W.keepIn K (.ref f9) = true)
    {f10 : Addr} {od10 an10 : Option Addr} {sl10 : Array (Option Value)} {oc10 kV10 dc10 pm10 cd10 ct10 : Value}
    (a10 : PySem.W.nsIn K mainGlobals "without" = some (some (.ref f10))) (l10 : K.lookup f10 = some ⟨oc10, od10, .func (PySem.W.fnOf "without" "without" (defArgs s_P_without) (defBody s_P_without) (defScope s_P_without) .none kV10 dc10 pm10 an10 cd10 ct10), sl10⟩) (c10 : PySem.W.codeIn K cd10 "without" = true) (k10 : PySem.W.keepIn K (.ref f10) = true)
    {f11 : Addr} {od11 an11 : Option Addr} {sl11 : Array (Option Value)} {oc11 kV11 dc11 pm11 cd11 ct11 : Value}
    (a11 : PySem.W.nsIn K mainGlobals "receipts_of" = some (some (.ref f11))) (l11 : K.lookup f11 = some ⟨oc11, od11, .func (PySem.W.fnOf "receipts_of" "receipts_of" (defArgs s_P_receipts_of) (defBody s_P_receipts_of) (defScope s_P_receipts_of) .none kV11 dc11 pm11 an11 cd11 ct11), sl11⟩) (c11 : PySem.W.codeIn K cd11 "receipts_of" = true) (k11 : PySem.W.keepIn K (.ref f11) = true)
    {f12 : Addr} {od12 an12 : Option Addr} {sl12 : Array (Option Value)} {oc12 kV12 dc12 pm12 cd12 ct12 : Value}
    (a12 : PySem.W.nsIn K mainGlobals "pays_of" = some (some (.ref f12))) (l12 : K.lookup f12 = some ⟨oc12, od12, .func (PySem.W.fnOf "pays_of" "pays_of" (defArgs s_P_pays_of) (defBody s_P_pays_of) (defScope s_P_pays_of) .none kV12 dc12 pm12 an12 cd12 ct12), sl12⟩) (c12 : PySem.W.codeIn K cd12 "pays_of" = true) (k12 : PySem.W.keepIn K (.ref f12) = true)
    {f13 : Addr} {od13 an13 : Option Addr} {sl13 : Array (Option Value)} {oc13 kV13 dc13 pm13 cd13 ct13 : Value}
    (a13 : PySem.W.nsIn K mainGlobals "_law_cell_at" = some (some (.ref f13))) (l13 : K.lookup f13 = some ⟨oc13, od13, .func (PySem.W.fnOf "_law_cell_at" "_law_cell_at" (defArgs s_L_cell_at) (defBody s_L_cell_at) (defScope s_L_cell_at) .none kV13 dc13 pm13 an13 cd13 ct13), sl13⟩) (c13 : PySem.W.codeIn K cd13 "_law_cell_at" = true) (k13 : PySem.W.keepIn K (.ref f13) = true)
    {f14 : Addr} {od14 an14 : Option Addr} {sl14 : Array (Option Value)} {oc14 kV14 dc14 pm14 cd14 ct14 : Value}
    (a14 : PySem.W.nsIn K mainGlobals "_law_whole" = some (some (.ref f14))) (l14 : K.lookup f14 = some ⟨oc14, od14, .func (PySem.W.fnOf "_law_whole" "_law_whole" (defArgs s_L_whole) (defBody s_L_whole) (defScope s_L_whole) .none kV14 dc14 pm14 an14 cd14 ct14), sl14⟩) (c14 : PySem.W.codeIn K cd14 "_law_whole" = true) (k14 : PySem.W.keepIn K (.ref f14) = true)
    {f15 : Addr} {od15 an15 : Option Addr} {sl15 : Array (Option Value)} {oc15 kV15 dc15 pm15 cd15 ct15 : Value}
    (a15 : PySem.W.nsIn K mainGlobals "_law_offer_by" = some (some (.ref f15))) (l15 : K.lookup f15 = some ⟨oc15, od15, .func (PySem.W.fnOf "_law_offer_by" "_law_offer_by" (defArgs s_L_offer_by) (defBody s_L_offer_by) (defScope s_L_offer_by) .none kV15 dc15 pm15 an15 cd15 ct15), sl15⟩) (c15 : PySem.W.codeIn K cd15 "_law_offer_by" = true) (k15 : PySem.W.keepIn K (.ref f15) = true)
    {f16 : Addr} {od16 an16 : Option Addr} {sl16 : Array (Option Value)} {oc16 kV16 dc16 pm16 cd16 ct16 : Value}
    (a16 : PySem.W.nsIn K mainGlobals "_law_listed" = some (some (.ref f16))) (l16 : K.lookup f16 = some ⟨oc16, od16, .func (PySem.W.fnOf "_law_listed" "_law_listed" (defArgs s_L_listed) (defBody s_L_listed) (defScope s_L_listed) .none kV16 dc16 pm16 an16 cd16 ct16), sl16⟩) (c16 : PySem.W.codeIn K cd16 "_law_listed" = true) (k16 : PySem.W.keepIn K (.ref f16) = true)
    {f17 : Addr} {od17 an17 : Option Addr} {sl17 : Array (Option Value)} {oc17 kV17 dc17 pm17 cd17 ct17 : Value}
    (a17 : PySem.W.nsIn K mainGlobals "_law_scale" = some (some (.ref f17))) (l17 : K.lookup f17 = some ⟨oc17, od17, .func (PySem.W.fnOf "_law_scale" "_law_scale" (defArgs s_L_scale) (defBody s_L_scale) (defScope s_L_scale) .none kV17 dc17 pm17 an17 cd17 ct17), sl17⟩) (c17 : PySem.W.codeIn K cd17 "_law_scale" = true) (k17 : PySem.W.keepIn K (.ref f17) = true)
    {f18 : Addr} {od18 an18 : Option Addr} {sl18 : Array (Option Value)} {oc18 kV18 dc18 pm18 cd18 ct18 : Value}
    (a18 : PySem.W.nsIn K mainGlobals "_law_offers" = some (some (.ref f18))) (l18 : K.lookup f18 = some ⟨oc18, od18, .func (PySem.W.fnOf "_law_offers" "_law_offers" (defArgs s_L_offers) (defBody s_L_offers) (defScope s_L_offers) .none kV18 dc18 pm18 an18 cd18 ct18), sl18⟩) (c18 : PySem.W.codeIn K cd18 "_law_offers" = true) (k18 : PySem.W.keepIn K (.ref f18) = true)
    {f19 : Addr} {od19 an19 : Option Addr} {sl19 : Array (Option Value)} {oc19 kV19 dc19 pm19 cd19 ct19 : Value}
    (a19 : PySem.W.nsIn K mainGlobals "_law_plans" = some (some (.ref f19))) (l19 : K.lookup f19 = some ⟨oc19, od19, .func (PySem.W.fnOf "_law_plans" "_law_plans" (defArgs s_L_plans) (defBody s_L_plans) (defScope s_L_plans) .none kV19 dc19 pm19 an19 cd19 ct19), sl19⟩) (c19 : PySem.W.codeIn K cd19 "_law_plans" = true) (k19 : PySem.W.keepIn K (.ref f19) = true)
    {f20 : Addr} {od20 an20 : Option Addr} {sl20 : Array (Option Value)} {oc20 kV20 dc20 pm20 cd20 ct20 : Value}
    (a20 : PySem.W.nsIn K mainGlobals "_law_greatest" = some (some (.ref f20))) (l20 : K.lookup f20 = some ⟨oc20, od20, .func (PySem.W.fnOf "_law_greatest" "_law_greatest" (defArgs s_L_greatest) (defBody s_L_greatest) (defScope s_L_greatest) .none kV20 dc20 pm20 an20 cd20 ct20), sl20⟩) (c20 : PySem.W.codeIn K cd20 "_law_greatest" = true) (k20 : PySem.W.keepIn K (.ref f20) = true)
    {f21 : Addr} {od21 an21 : Option Addr} {sl21 : Array (Option Value)} {oc21 kV21 dc21 pm21 cd21 ct21 : Value}
    (a21 : PySem.W.nsIn K mainGlobals "_law_first" = some (some (.ref f21))) (l21 : K.lookup f21 = some ⟨oc21, od21, .func (PySem.W.fnOf "_law_first" "_law_first" (defArgs s_L_first) (defBody s_L_first) (defScope s_L_first) .none kV21 dc21 pm21 an21 cd21 ct21), sl21⟩) (c21 : PySem.W.codeIn K cd21 "_law_first" = true) (k21 : PySem.W.keepIn K (.ref f21) = true)
    {f22 : Addr} {od22 an22 : Option Addr} {sl22 : Array (Option Value)} {oc22 kV22 dc22 pm22 cd22 ct22 : Value}
    (a22 : PySem.W.nsIn K mainGlobals "_law_lacking" = some (some (.ref f22))) (l22 : K.lookup f22 = some ⟨oc22, od22, .func (PySem.W.fnOf "_law_lacking" "_law_lacking" (defArgs s_L_lacking) (defBody s_L_lacking) (defScope s_L_lacking) .none kV22 dc22 pm22 an22 cd22 ct22), sl22⟩) (c22 : PySem.W.codeIn K cd22 "_law_lacking" = true) (k22 : PySem.W.keepIn K (.ref f22) = true)
    {f23 : Addr} {od23 an23 : Option Addr} {sl23 : Array (Option Value)} {oc23 kV23 dc23 pm23 cd23 ct23 : Value}
    (a23 : PySem.W.nsIn K mainGlobals "_law_list_is" = some (some (.ref f23))) (l23 : K.lookup f23 = some ⟨oc23, od23, .func (PySem.W.fnOf "_law_list_is" "_law_list_is" (defArgs s_L_list_is) (defBody s_L_list_is) (defScope s_L_list_is) .none kV23 dc23 pm23 an23 cd23 ct23), sl23⟩) (c23 : PySem.W.codeIn K cd23 "_law_list_is" = true) (k23 : PySem.W.keepIn K (.ref f23) = true)
    {f24 : Addr} {od24 an24 : Option Addr} {sl24 : Array (Option Value)} {oc24 kV24 dc24 pm24 cd24 ct24 : Value}
    (a24 : PySem.W.nsIn K mainGlobals "_law_copies" = some (some (.ref f24))) (l24 : K.lookup f24 = some ⟨oc24, od24, .func (PySem.W.fnOf "_law_copies" "_law_copies" (defArgs s_L_copies) (defBody s_L_copies) (defScope s_L_copies) .none kV24 dc24 pm24 an24 cd24 ct24), sl24⟩) (c24 : PySem.W.codeIn K cd24 "_law_copies" = true) (k24 : PySem.W.keepIn K (.ref f24) = true)
    {f25 : Addr} {od25 an25 : Option Addr} {sl25 : Array (Option Value)} {oc25 kV25 dc25 pm25 cd25 ct25 : Value}
    (a25 : PySem.W.nsIn K mainGlobals "_law_pays" = some (some (.ref f25))) (l25 : K.lookup f25 = some ⟨oc25, od25, .func (PySem.W.fnOf "_law_pays" "_law_pays" (defArgs s_L_pays) (defBody s_L_pays) (defScope s_L_pays) .none kV25 dc25 pm25 an25 cd25 ct25), sl25⟩) (c25 : PySem.W.codeIn K cd25 "_law_pays" = true) (k25 : PySem.W.keepIn K (.ref f25) = true)
    {f26 : Addr} {od26 an26 : Option Addr} {sl26 : Array (Option Value)} {oc26 kV26 dc26 pm26 cd26 ct26 : Value}
    (a26 : PySem.W.nsIn K mainGlobals "law" = some (some (.ref f26))) (l26 : K.lookup f26 = some ⟨oc26, od26, .func (PySem.W.fnOf "law" "law" (defArgs s_law) (defBody s_law) (defScope s_law) .none kV26 dc26 pm26 an26 cd26 ct26), sl26⟩) (c26 : PySem.W.codeIn K cd26 "law" = true) (k26 : PySem.W.keepIn K (.ref f26) = true)
    (z_dict : PySem.W.nsIn K mainGlobals "dict" = some none)
    (z_enumerate : PySem.W.nsIn K mainGlobals "enumerate" = some none)
    (z_max : PySem.W.nsIn K mainGlobals "max" = some none)
    (z_reversed : PySem.W.nsIn K mainGlobals "reversed" = some none)
    (z_list : PySem.W.nsIn K mainGlobals "list" = some none)
    (z_range : PySem.W.nsIn K mainGlobals "range" = some none)
    (z_len : PySem.W.nsIn K mainGlobals "len" = some none)
    (z_isinstance : PySem.W.nsIn K mainGlobals "isinstance" = some none)
    (z_int : PySem.W.nsIn K mainGlobals "int" = some none)
    (z_bool : PySem.W.nsIn K mainGlobals "bool" = some none)
    (z_sum : PySem.W.nsIn K mainGlobals "sum" = some none)
    (z_sorted : PySem.W.nsIn K mainGlobals "sorted" = some none)
    (z_min : PySem.W.nsIn K mainGlobals "min" = some none)
    : ∃ fd : FuncData, (∀ (s : Shared) (v : Value), BindsTo s fd ⟨[v], []⟩ [("_law_script", v)]) ∧ ∀ base : Heap, K.In base → base.Ns mainGlobals mg → FnOk l.prog w K mg base CX0 10 fa fd ["_law_script"] (sp_law K) := by
  have e := hfa.symm.trans (PySem.W.mg_of X G a26)
  cases e
  have F0 := fun_mk (st := s_P_holds) l0 c0 k0
  have g0 := PySem.W.mg_of X G a0
  have F1 := fun_mk (st := s_P_amount_of) l1 c1 k1
  have g1 := PySem.W.mg_of X G a1
  have F2 := fun_mk (st := s_P_greatest_of) l2 c2 k2
  have g2 := PySem.W.mg_of X G a2
  have F3 := fun_mk (st := s_P_winners_of) l3 c3 k3
  have g3 := PySem.W.mg_of X G a3
  have F4 := fun_mk (st := s_P_first_choice) l4 c4 k4
  have g4 := PySem.W.mg_of X G a4
  have F5 := fun_mk (st := s_P_choices_in) l5 c5 k5
  have g5 := PySem.W.mg_of X G a5
  have F6 := fun_mk (st := s_P_greatest_by_bundle) l6 c6 k6
  have g6 := PySem.W.mg_of X G a6
  have F7 := fun_mk (st := s_P_tables_behind) l7 c7 k7
  have g7 := PySem.W.mg_of X G a7
  have F8 := fun_mk (st := s_P_with_bidder) l8 c8 k8
  have g8 := PySem.W.mg_of X G a8
  have F9 := fun_mk (st := s_P_best_with) l9 c9 k9
  have g9 := PySem.W.mg_of X G a9
  have F10 := fun_mk (st := s_P_without) l10 c10 k10
  have g10 := PySem.W.mg_of X G a10
  have F11 := fun_mk (st := s_P_receipts_of) l11 c11 k11
  have g11 := PySem.W.mg_of X G a11
  have F12 := fun_mk (st := s_P_pays_of) l12 c12 k12
  have g12 := PySem.W.mg_of X G a12
  have F13 := fun_mk (st := s_L_cell_at) l13 c13 k13
  have g13 := PySem.W.mg_of X G a13
  have F14 := fun_mk (st := s_L_whole) l14 c14 k14
  have g14 := PySem.W.mg_of X G a14
  have F15 := fun_mk (st := s_L_offer_by) l15 c15 k15
  have g15 := PySem.W.mg_of X G a15
  have F16 := fun_mk (st := s_L_listed) l16 c16 k16
  have g16 := PySem.W.mg_of X G a16
  have F17 := fun_mk (st := s_L_scale) l17 c17 k17
  have g17 := PySem.W.mg_of X G a17
  have F18 := fun_mk (st := s_L_offers) l18 c18 k18
  have g18 := PySem.W.mg_of X G a18
  have F19 := fun_mk (st := s_L_plans) l19 c19 k19
  have g19 := PySem.W.mg_of X G a19
  have F20 := fun_mk (st := s_L_greatest) l20 c20 k20
  have g20 := PySem.W.mg_of X G a20
  have F21 := fun_mk (st := s_L_first) l21 c21 k21
  have g21 := PySem.W.mg_of X G a21
  have F22 := fun_mk (st := s_L_lacking) l22 c22 k22
  have g22 := PySem.W.mg_of X G a22
  have F23 := fun_mk (st := s_L_list_is) l23 c23 k23
  have g23 := PySem.W.mg_of X G a23
  have F24 := fun_mk (st := s_L_copies) l24 c24 k24
  have g24 := PySem.W.mg_of X G a24
  have F25 := fun_mk (st := s_L_pays) l25 c25 k25
  have g25 := PySem.W.mg_of X G a25
  have F26 := fun_mk (st := s_law) l26 c26 k26
  have g26 := PySem.W.mg_of X G a26
  have m_dict := PySem.W.mg_none_of X G z_dict
  have m_enumerate := PySem.W.mg_none_of X G z_enumerate
  have m_max := PySem.W.mg_none_of X G z_max
  have m_reversed := PySem.W.mg_none_of X G z_reversed
  have m_list := PySem.W.mg_none_of X G z_list
  have m_range := PySem.W.mg_none_of X G z_range
  have m_len := PySem.W.mg_none_of X G z_len
  have m_isinstance := PySem.W.mg_none_of X G z_isinstance
  have m_int := PySem.W.mg_none_of X G z_int
  have m_bool := PySem.W.mg_none_of X G z_bool
  have m_sum := PySem.W.mg_none_of X G z_sum
  have m_sorted := PySem.W.mg_none_of X G z_sorted
  have m_min := PySem.W.mg_none_of X G z_min
  refine ⟨PySem.W.fnOf "law" "law" (defArgs s_law) (defBody s_law) (defScope s_law) .none kV26 dc26 pm26 an26 cd26 ct26, fun s v => .of_eq rfl, fun base _ _ => ?_⟩
  have D_P_holds := ok_P_holds (P := l.prog) (w := w) (base := base) F0 g0  
  have D_P_amount_of := ok_P_amount_of (P := l.prog) (w := w) (base := base) F1 g1 m_dict 
  have D_P_choices_in := ok_P_choices_in (P := l.prog) (w := w) (base := base) F5 g5  D_P_holds
  have D_P_best_with := ok_P_best_with (P := l.prog) (w := w) (base := base) F9 g9 m_max D_P_choices_in
  have D_P_with_bidder := ok_P_with_bidder (P := l.prog) (w := w) (base := base) F8 g8 m_range m_len D_P_best_with
  have D_P_tables_behind := ok_P_tables_behind (P := l.prog) (w := w) (base := base) F7 g7 m_reversed m_list D_P_with_bidder
  have D_P_greatest_by_bundle := ok_P_greatest_by_bundle (P := l.prog) (w := w) (base := base) F6 g6  D_P_tables_behind
  have D_P_greatest_of := ok_P_greatest_of (P := l.prog) (w := w) (base := base) F2 g2  D_P_greatest_by_bundle
  have D_P_first_choice := ok_P_first_choice (P := l.prog) (w := w) (base := base) F4 g4 m_max D_P_choices_in
  have D_P_winners_of := ok_P_winners_of (P := l.prog) (w := w) (base := base) F3 g3 m_enumerate D_P_tables_behind D_P_first_choice
  have D_P_without := ok_P_without (P := l.prog) (w := w) (base := base) F10 g10 m_list m_enumerate 
  have D_P_receipts_of := ok_P_receipts_of (P := l.prog) (w := w) (base := base) F11 g11 m_enumerate D_P_greatest_of D_P_winners_of D_P_amount_of D_P_without
  have D_P_pays_of := ok_P_pays_of (P := l.prog) (w := w) (base := base) F12 g12  D_P_receipts_of
  have D_L_cell_at := ok_L_cell_at (P := l.prog) (w := w) (base := base) F13 g13 m_len 
  have D_L_whole := ok_L_whole (P := l.prog) (w := w) (base := base) F14 g14 m_isinstance m_int m_bool 
  have D_L_offer_by := ok_L_offer_by (P := l.prog) (w := w) (base := base) F15 g15 m_sum m_range 
  have D_L_listed := ok_L_listed (P := l.prog) (w := w) (base := base) F16 g16 m_sorted D_L_offer_by
  have D_L_scale := ok_L_scale (P := l.prog) (w := w) (base := base) F17 g17  
  have D_L_offers := ok_L_offers (P := l.prog) (w := w) (base := base) F18 g18 m_range D_L_scale D_L_cell_at D_L_listed
  have D_L_plans := ok_L_plans (P := l.prog) (w := w) (base := base) F19 g19  
  have D_L_greatest := ok_L_greatest (P := l.prog) (w := w) (base := base) F20 g20 m_max D_L_plans
  have D_L_first := ok_L_first (P := l.prog) (w := w) (base := base) F21 g21 m_max m_min D_L_plans
  have D_L_lacking := ok_L_lacking (P := l.prog) (w := w) (base := base) F22 g22 m_range m_len D_L_greatest
  have D_L_list_is := ok_L_list_is (P := l.prog) (w := w) (base := base) F23 g23 m_range m_len m_isinstance m_list D_L_whole
  have D_L_copies := ok_L_copies (P := l.prog) (w := w) (base := base) F24 g24 m_list 
  have D_L_pays := ok_L_pays (P := l.prog) (w := w) (base := base) F25 g25 m_range m_len D_L_lacking
  exact ok_law (P := l.prog) (w := w) (base := base) F26 g26  D_L_offers D_L_copies D_L_first D_P_greatest_of D_L_list_is D_L_cell_at D_P_pays_of D_L_whole D_P_winners_of D_L_pays
theorem walk {l : PySem.W.OpenLaw} {q : Program} {loose : List Str} {XP : (Str → Option Value) → Heap → Prop} {YP : World → Heap → Prop} {d : DefRec} {K : Params → PySem.W.Frag} (hn : l.most = some 63) (hdf : d.params.defaults = [])
    (hY : ∀ (w : World) (h : Heap), YP w h → (K w.params).In h)
    (F : ∀ (w : World) (mg : Str → Option Value) (fa : Addr) (h : Heap), (K w.params).In h → h.Ns mainGlobals mg → mg d.name = some (.ref fa) →
      ∃ fd : FuncData, (∀ (s : Shared) (u : Value), BindsTo s fd ⟨[u], []⟩ [("_law_script", u)]) ∧ ∀ base : Heap, (K w.params).In base → base.Ns mainGlobals mg → FnOk l.prog w (K w.params) mg base CX0 10 fa fd ["_law_script"] (sp_law (K w.params))) :
    PySem.W.WalkO q loose XP YP l.row.toRowW d [] (fun f vs => PySem.call f vs) :=
  L2.walk_of (n := 63) (k := 10) (x := "_law_script") (CX := fun _ => CX0) (sp := fun w => sp_law (K w.params)) hn (by decide) hdf ⟨rfl, by decide, by decide⟩ hY F (fun _ _ a ns hl _ hS => ⟨a, ns, rfl, hS, hl, fun _ => rfl⟩) fun _ _ _ _ _ z => z
theorem walkX_of {q : Program} {loose : List Str} {XP : (Str → Option Value) → Heap → Prop} {K : Params → PySem.W.Frag} {as : List Addr} {n t : Nat} {r : PySem.W.RowW} {d : DefRec} {kwd : List (Str × Expr)} {run : Value → List Value → Sem Value} (e : ∀ P, as = (K P).map (·.1))
    (h : PySem.W.WalkO q loose XP (PySem.W.InK K) r d kwd run) : PySem.W.WalkX q loose XP (PySem.W.X.obsZ as) (PySem.W.X.valZ K n t) r d kwd run :=
  fun w s₀ s₁ mg mb G y a o pm cd doc dV kV h1 h2 h3 h4 h5 h6 args vals as' L hp hl hr hw hlo => h w s₀ s₁ mg mb G (PySem.W.InK.keeps w _ _ (PySem.W.X.z_facts e y).2.1 L.keeps) a o pm cd doc dV kV h1 h2 h3 h4 h5 h6 args vals as' hp hl hr hw hlo
end My
noncomputable def PySem.W.Fast.tw139642626462159376 : Nat := 0
noncomputable def PySem.W.Fast.tw8384766125744701391 : Nat := 0
noncomputable def PySem.W.Fast.tw166120416003004424 : Nat := 0
noncomputable def PySem.W.Fast.tw6373510719809800363 : Nat := 0
noncomputable def PySem.W.Fast.tw3610943082994064176 : Nat := 0
noncomputable def PySem.W.Fast.tw11071004027513748619 : Nat := 0
open PySem PySem.W PyProof.Rows
set_option maxRecDepth 100000 in
set_option maxHeartbeats 0 in
theorem PySem.Challenge.cw_gavelhall_k49_whole_side_by_side_holds : PySem.Challenge.rw_gavelhall_k49_whole_side_by_side.Holds := by
  w_on; o_law; z_head; (case hw => w_witness2)
  k_fill
  refine My.walkX_of (fun _ => by kernel_rfl) (My.walk (l := PySem.Challenge.rw_gavelhall_k49_whole_side_by_side) rfl rfl (fun w h Y => Y) ?F)
  case F =>
    intro w mg fa h KX G hmg
    refine' My.all_mk KX G hmg ?a0 ?l0 ?c0 ?k0 ?a1 ?l1 ?c1 ?k1 ?a2 ?l2 ?c2 ?k2 ?a3 ?l3 ?c3 ?k3 ?a4 ?l4 ?c4 ?k4 ?a5 ?l5 ?c5 ?k5 ?a6 ?l6 ?c6 ?k6 ?a7 ?l7 ?c7 ?k7 ?a8 ?l8 ?c8 ?k8 ?a9 ?l9 ?c9 ?k9 ?a10 ?l10 ?c10 ?k10 ?a11 ?l11 ?c11 ?k11 ?a12 ?l12 ?c12 ?k12 ?a13 ?l13 ?c13 ?k13 ?a14 ?l14 ?c14 ?k14 ?a15 ?l15 ?c15 ?k15 ?a16 ?l16 ?c16 ?k16 ?a17 ?l17 ?c17 ?k17 ?a18 ?l18 ?c18 ?k18 ?a19 ?l19 ?c19 ?k19 ?a20 ?l20 ?c20 ?k20 ?a21 ?l21 ?c21 ?k21 ?a22 ?l22 ?c22 ?k22 ?a23 ?l23 ?c23 ?k23 ?a24 ?l24 ?c24 ?k24 ?a25 ?l25 ?c25 ?k25 ?a26 ?l26 ?c26 ?k26 ?z_dict ?z_enumerate ?z_max ?z_reversed ?z_list ?z_range ?z_len ?z_isinstance ?z_int ?z_bool ?z_sum ?z_sorted ?z_min
    (case a0 => k_is)
    (case l0 => k_is)
    (case c0 => k_is)
    (case k0 => k_is)
    (case a1 => k_is)
    (case l1 => k_is)
    (case c1 => k_is)
    (case k1 => k_is)
    (case a2 => k_is)
    (case l2 => k_is)
    (case c2 => k_is)
    (case k2 => k_is)
    (case a3 => k_is)
    (case l3 => k_is)
    (case c3 => k_is)
    (case k3 => k_is)
    (case a4 => k_is)
    (case l4 => k_is)
    (case c4 => k_is)
    (case k4 => k_is)
    (case a5 => k_is)
    (case l5 => k_is)
    (case c5 => k_is)
    (case k5 => k_is)
    (case a6 => k_is)
    (case l6 => k_is)
    (case c6 => k_is)
    (case k6 => k_is)
    (case a7 => k_is)
    (case l7 => k_is)
    (case c7 => k_is)
    (case k7 => k_is)
    (case a8 => k_is)
    (case l8 => k_is)
    (case c8 => k_is)
    (case k8 => k_is)
    (case a9 => k_is)
    (case l9 => k_is)
    (case c9 => k_is)
    (case k9 => k_is)
    (case a10 => k_is)
    (case l10 => k_is)
    (case c10 => k_is)
    (case k10 => k_is)
    (case a11 => k_is)
    (case l11 => k_is)
    (case c11 => k_is)
    (case k11 => k_is)
    (case a12 => k_is)
    (case l12 => k_is)
    (case c12 => k_is)
    (case k12 => k_is)
    (case a13 => k_is)
    (case l13 => k_is)
    (case c13 => k_is)
    (case k13 => k_is)
    (case a14 => k_is)
    (case l14 => k_is)
    (case c14 => k_is)
    (case k14 => k_is)
    (case a15 => k_is)
    (case l15 => k_is)
    (case c15 => k_is)
    (case k15 => k_is)
    (case a16 => k_is)
    (case l16 => k_is)
    (case c16 => k_is)
    (case k16 => k_is)
    (case a17 => k_is)
    (case l17 => k_is)
    (case c17 => k_is)
    (case k17 => k_is)
    (case a18 => k_is)
    (case l18 => k_is)
    (case c18 => k_is)
    (case k18 => k_is)
    (case a19 => k_is)
    (case l19 => k_is)
    (case c19 => k_is)
    (case k19 => k_is)
    (case a20 => k_is)
    (case l20 => k_is)
    (case c20 => k_is)
    (case k20 => k_is)
    (case a21 => k_is)
    (case l21 => k_is)
    (case c21 => k_is)
    (case k21 => k_is)
    (case a22 => k_is)
    (case l22 => k_is)
    (case c22 => k_is)
    (case k22 => k_is)
    (case a23 => k_is)
    (case l23 => k_is)
    (case c23 => k_is)
    (case k23 => k_is)
    (case a24 => k_is)
    (case l24 => k_is)
    (case c24 => k_is)
    (case k24 => k_is)
    (case a25 => k_is)
    (case l25 => k_is)
    (case c25 => k_is)
    (case k25 => k_is)
    (case a26 => k_is)
    (case l26 => k_is)
    (case c26 => k_is)
    (case k26 => k_is)
    (case z_dict => k_is)
    (case z_enumerate => k_is)
    (case z_max => k_is)
    (case z_reversed => k_is)
    (case z_list => k_is)
    (case z_range => k_is)
    (case z_len => k_is)
    (case z_isinstance => k_is)
    (case z_int => k_is)
    (case z_bool => k_is)
    (case z_sum => k_is)
    (case z_sorted => k_is)
    (case z_min => k_is)


