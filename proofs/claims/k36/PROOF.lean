import PyProof.Rows.All
import Wide.All
import OpenK.AllK
import Wide.FinOn
import Lean
import PyProof.EqAt
import PyProof.EqKinds
import PyProof.TupleCall
import PyProof.ZipIter
import PyProof.LayNew
import PyProof.Rows.ZipGen
import PyProof.Rows.FactsT2
import KE.KMinKey
import PyProof.FString5
import PyProof.SliceStr2
import PyProof.EnumFor
import PyProof.EnumStmt
import PyProof.EnumMake
import PyProof.StrLoop
import PyProof.StrWalks
import PyProof.Rows.EnumRows
import KE.KDictList
import KE.KEqDict
import PyProof.StrOps2
import PyProof.FitsInt
import KE.KIntText
import PyProof.Draws
import PyProof.StrLawsTight
import PyProof.Rows.StrNews2
import PySem.Challenge.RW_gavelhall_k36_whole_there_and_back
set_option genSizeOf false
set_option Elab.async false
set_option linter.all false
set_option maxRecDepth 100000
namespace L2
open PySem PySem.Spec PyProof.Rows
noncomputable abbrev Key:=Sum Int Str
noncomputable def jgs:Key->Value->Bool
  | .inl k,v=>Value.isInt k v
  | .inr x,v=>Value.isStrOf x v
noncomputable def keyH (w:World):Key->Int
  | .inl k=>hashInt k
  | .inr x=>hashStr w x
theorem qb:∀ {k:Key} {v:Value},jgs k v = true->(∃ i t,k = Sum.inl i /\ v = Value.int i t) ∨ (∃ x t,k = Sum.inr x /\ v = Value.str x t)
  | .inl i,v,h=>by
    obtain ⟨t,e⟩:=Value.isInt_shape (k:=i) (v:=v) h
    exact .inl ⟨i,t,rfl,e⟩
  | .inr x,v,h=>by
    obtain ⟨t,e⟩:=Value.isStrOf_shape (x:=x) (v:=v) h
    exact .inr ⟨x,t,rfl,e⟩
theorem jjF (i:Int) (t:Tok):jgs (.inl i) (.int i t) = true:=by simp [jgs,Value.isInt]
theorem jjG (x:Str) (t:Tok):jgs (.inr x) (.str x t) = true:=by simp [jgs,Value.isStrOf]
theorem key_ll (a b:Int):decide ((Sum.inl a:Key) = Sum.inl b) = (a == b):=by
  by_cases e:a = b
  · subst e; simp
  · have h:¬ (Sum.inl a:Key) = Sum.inl b:=fun q=>e (Sum.inl.inj q)
    rw [decide_eq_false h]
    exact (beq_eq_false_iff_ne.mpr e).symm
theorem key_rr (a b:Str):decide ((Sum.inr a:Key) = Sum.inr b) = decide (a = b):=by
  by_cases e:a = b
  · subst e; simp
  · have h:¬ (Sum.inr a:Key) = Sum.inr b:=fun q=>e (Sum.inr.inj q)
    rw [decide_eq_false h,decide_eq_false e]
theorem key_lr (a:Int) (b:Str):decide ((Sum.inl a:Key) = Sum.inr b) = false:=decide_eq_false (fun q=>nomatch q)
theorem key_rl (a:Str) (b:Int):decide ((Sum.inr a:Key) = Sum.inl b) = false:=decide_eq_false (fun q=>nomatch q)
noncomputable def qH (prog:Program) (w:World):PySem.KeyKind prog w Key where
  is:=jgs
  hash:=keyH w
  inj:=fun v a b ha hb=>by
    rcases qb ha with ⟨i,t,rfl,rfl⟩ | ⟨x,t,rfl,rfl⟩
    · rcases qb hb with ⟨j,u,rfl,e⟩ | ⟨y,u,rfl,e⟩
      · injection e with e1 _; rw [e1]
      · exact nomatch e
    · rcases qb hb with ⟨j,u,rfl,e⟩ | ⟨y,u,rfl,e⟩
      · exact nomatch e
      · injection e with e1 _; rw [e1]
  byValue:=fun k v h=>by
    rcases qb h with ⟨i,t,rfl,rfl⟩ | ⟨x,t,rfl,rfl⟩ <;> rfl
  pyHash:=fun hv h=>by
    rcases qb hv with ⟨i,t,rfl,rfl⟩ | ⟨x,t,rfl,rfl⟩
    · exact wpAny_pyHash_int h
    · exact wpAny_pyHash_str h
  eqBool:=fun hu hv h=>by
    rcases qb hu with ⟨i,t,rfl,rfl⟩ | ⟨x,t,rfl,rfl⟩
    · rcases qb hv with ⟨j,u,rfl,rfl⟩ | ⟨y,u,rfl,rfl⟩
      · rw [key_ll] at h; exact wpAny_eqBool_int h
      · rw [key_lr] at h; exact SeqAt.EqAt.int_str i t y u _ _ _ _ h
    · rcases qb hv with ⟨j,u,rfl,rfl⟩ | ⟨y,u,rfl,rfl⟩
      · rw [key_rl] at h; exact SeqAt.EqAt.str_int x t j u _ _ _ _ h
      · rw [key_rr] at h; exact wpAny_eqBool_str h
  «strs»:=fun k x t v h=>by
    rcases qb h with ⟨i,u,rfl,e⟩ | ⟨y,u,rfl,e⟩
    · exact nomatch e
    · injection e with e1 _
      subst e1
      cases v <;> rfl
theorem jhM (prog:Program) (w:World) (i:Int) (t:Tok):(qH prog w).is (.inl i) (.int i t) = true:=jjF i t
theorem jhN (prog:Program) (w:World) (x:Str) (t:Tok):(qH prog w).is (.inr x) (.str x t) = true:=jjG x t
end L2
namespace L2
open PySem PySem.Spec PyProof.Rows
inductive V where
  | non | bl (b:Bool) | int (i:Int) | str (x:Str) | byt (b:Array UInt8) | flt (b:UInt64) | ref (a:Addr) | ty (n:String)
  deriving DecidableEq
noncomputable def RelV:V->Value->Prop
  | .non,u=>u = Value.none
  | .bl b,u=>u = Value.bool b
  | .int i,u=>∃ t,u = Value.int i t
  | .str x,u=>∃ t,u = Value.str x t
  | .byt b,u=>∃ t,u = Value.bytes b t
  | .flt b,u=>∃ t,u = Value.float b t
  | .ref a,u=>u = Value.ref a
  | .ty n,u=>u = Value.type n
noncomputable abbrev Vals:List V->List Value->Prop:=Paired RelV
theorem Vals.length {xs:List V} {us:List Value} (r:Vals xs us):xs.length = us.length:=Paired.length r
theorem Vals.get:∀ {xs:List V} {us:List Value} {i:Nat} {x:V},Vals xs us->xs[i]? = some x->∃ u,us[i]? = some u /\ RelV x u
  | _,_,_,_,.nil,e=>by simp at e
  | _,_,0,_,.cons r _,e=>by simp at e; subst e; exact ⟨_,rfl,r⟩
  | _,_,i + 1,x,.cons _ t,e=>by
    obtain ⟨u,h1,h2⟩:=Vals.get (i:=i) (x:=x) t (by simpa using e)
    exact ⟨u,by simpa using h1,h2⟩
theorem Vals.append:∀ {xs ys:List V} {us ws:List Value},Vals xs us->Vals ys ws->Vals (xs ++ ys) (us ++ ws)
  | _,_,_,_,.nil,s=>s
  | _,_,_,_,.cons r t,s=>.cons r (Vals.append t s)
theorem Vals.take:∀ {xs:List V} {us:List Value} (n:Nat),Vals xs us->Vals (xs.take n) (us.take n)
  | _,_,0,_=>.nil
  | _,_,_ + 1,.nil=>.nil
  | _,_,n + 1,.cons r t=>.cons r (Vals.take n t)
theorem Vals.drop:∀ {xs:List V} {us:List Value} (n:Nat),Vals xs us->Vals (xs.drop n) (us.drop n)
  | _,_,0,r=>r
  | _,_,_ + 1,.nil=>.nil
  | _,_,n + 1,.cons _ t=>Vals.drop n t
noncomputable def RelO:Option V->Option Value->Prop
  | some v,some u=>RelV v u
  | none,none=>True
  | _,_=>False
noncomputable def KV {κ:Type}:List (κ × V)->List (κ × Value)->Prop:=Paired fun (p:κ × V) (q:κ × Value)=>p.1 = q.1 /\ RelV p.2 q.2
noncomputable def kV:Key->V
  | .inl i=>.int i
  | .inr x=>.str x
inductive HO where
  | lst (xs:List V)
  | tup (xs:List V)
  | dK (kvs:List (Key × V)) | dT (kvs:List (List Key × V))
  | set (S:Int->Bool) (n:Nat)
  | ins (C dx:Addr) (fs:List (Str × V))
  | own (x:Addr)
  | xd (fs:List (Str × V))
  | met (f x:Addr)
  | rng (lo hi:Int)
  | frz (o:Obj) (u:HO)
  | tbl (ps:Array Value)
  | ext (φ:Heap->Prop)
noncomputable abbrev Hp:=Addr->Option HO
noncomputable def upd (H:Hp) (a:Addr) (o:HO):Hp:=fun b=>if b = a then some o else H b
theorem jm {H:Hp} {a:Addr} {o:HO}:upd H a o a = some o:=by unfold upd; rw [if_pos rfl]
theorem jM {H:Hp} {a b:Addr} {o:HO} (h:b ≠ a):upd H a o b = H b:=by unfold upd; rw [if_neg h]
theorem jc8 {H:Hp} {a:Addr} {o u:HO}:upd (upd H a o) a u = upd H a u:=by
  funext b; unfold upd; split <;> rfl
theorem ne_of {H:Hp} {a b:Addr} {o u:HO} (h:H a = some o) (h':H b = some u) (d:o ≠ u):a ≠ b:=by
  intro e; subst e; rw [h] at h'; exact d (Option.some.inj h')
theorem jU {H:Hp} {a b:Addr} {o:HO} (h:H a = some o) (h':H b = none):a ≠ b:=by
  intro e; subst e; rw [h] at h'; cases h'
section
variable (P:Program) (w:World)
noncomputable def qP (H:Hp) (h:Heap) (a:Addr):HO->Prop
  | .lst xs=>xs.length <= sizeLine /\ ∃ (its:List Value) (n:Nat),Vals xs its /\ h.get? a = some { cls:=.type "list",data:=.seq its.toArray n }
  | .tup xs=>xs.length <= sizeLine /\ ∃ its:List Value,Vals xs its /\ IsTup h a its.toArray
  | .dK kvs=>kvs.length <= sizeLine /\ (a == sysModules) = false /\ ∃ vs,KV kvs vs /\ h.DictOf (qH P w) a vs
  | .dT kvs=>kvs.length <= sizeLine /\ (a == sysModules) = false /\ ∃ xs:List (List Key × Addr × Value),
      Paired (fun (p:List Key × V) (q:List Key × Addr × Value)=>p.1 = q.1 /\ H q.2.1 = some (.tup (p.1.map kV)) /\ RelV p.2 q.2.2) kvs xs /\
      ∃ o es ep,h.get? a = some o /\ o.ExactDict /\ o.data = .dict es ep /\ es.toList = xs.map (entryOfKey (tupleKind (qH P w))) /\ (xs.map (·.1)).Nodup
  | .set S n=>h.SetOf (intKind P w) a S n
  | .ins C dx fs=>H dx = some (.own a) /\ fs.length <= 1000 /\ dx ≠ a /\ h.get? a = some (PySem.W.instObj C dx) /\
      ∃ mA,h.Ns1 dx mA /\ (∀ f,RelO (fs.lookup f) (mA f)) /\ PySem.Within mA (fs.map (·.1))
  | .own _=>∃ o,h.get? a = some o
  | .xd fs=>∃ mA,h.Ns1 a mA /\ ∀ f,RelO (fs.lookup f) (mA f)
  | .rng lo hi=>∃ t u v,h.get? a = some { cls:=.type "range",data:=.fields #[.int lo t,.int hi u,.int 1 v] }
  | .frz o u=>h.get? a = some o /\ qP H h a u
  | .tbl ps=>h.get? a = some { cls:=.none,data:=.fields ps }
  | .met f x=>h.get? a = some (PySem.W.methodObj (.ref f) (.ref x))
  | .ext φ=>φ h /\ (∃ o,h.get? a = some o) /\ ∀ h1 h2:Heap,φ h1->(∀ o,h1.get? a = some o->h2.get? a = some o)->φ h2
noncomputable def HOk (H:Hp) (h:Heap):Prop:=∀ a o,H a = some o->qP P w H h a o
end
section
variable {P:Program} {w:World} {H H':Hp} {h h':Heap} {a:Addr} {o:HO}
theorem qP.lt (x:qP P w H h a o):a < h.objs.size:=by
  cases o with
  | lst xs=>obtain ⟨_,_,_,_,e⟩:=x; exact Heap.lt_size e
  | tup xs=>obtain ⟨_,_,_,p⟩:=x; exact p.lt
  | dK kvs=>obtain ⟨_,_,_,_,o,_,_,e,_⟩:=x; exact Heap.lt_size e
  | dT kvs=>obtain ⟨_,_,_,_,o,_,_,e,_⟩:=x; exact Heap.lt_size e
  | set S n=>obtain ⟨o,_,_,_,e,_⟩:=x; exact Heap.lt_size e
  | ins C dx fs=>obtain ⟨_,_,_,e,_⟩:=x; exact Heap.lt_size e
  | own y=>obtain ⟨_,e⟩:=x; exact Heap.lt_size e
  | xd fs=>obtain ⟨_,⟨_,_,_,e,_⟩,_⟩:=x; exact Heap.lt_size e
  | rng lo hi=>obtain ⟨_,_,_,e⟩:=x; exact Heap.lt_size e
  | frz ob u=>obtain ⟨e,_⟩:=x; exact Heap.lt_size e
  | tbl ps=>exact Heap.lt_size (show h.get? a = some _ from x)
  | met f y=>exact Heap.lt_size (show h.get? a = some _ from x)
  | ext φ=>obtain ⟨_,⟨_,e⟩,_⟩:=x; exact Heap.lt_size e
theorem Paired.mapP {α β:Type} {F G:α->β->Prop}:∀ {l₁:List α} {l₂:List β},Paired F l₁ l₂->(∀ a b,F a b->G a b)->Paired G l₁ l₂
  | _,_,.nil,_=>.nil
  | _,_,.cons r t,f=>.cons (f _ _ r) (Paired.mapP t f)
theorem qP.stay (x:qP P w H h a o) (k:∀ b u,(b = a ∨ H b = some (.own a))->h.get? b = some u->h'.get? b = some u)
    (ho:∀ b,H b = some (.own a)->H' b = some (.own a)) (ht:∀ b xs,H b = some (.tup xs)->H' b = some (.tup xs)):qP P w H' h' a o:=by
  induction o with
  | lst xs=>obtain ⟨z,its,n,r,e⟩:=x; exact ⟨z,its,n,r,k _ _ (.inl rfl) e⟩
  | tup xs=>obtain ⟨z,its,r,ob,e,c⟩:=x; exact ⟨z,its,r,ob,k _ _ (.inl rfl) e,c⟩
  | dK kvs=>obtain ⟨z,y,vs,r,ob,es,ep,e,c⟩:=x; exact ⟨z,y,vs,r,ob,es,ep,k _ _ (.inl rfl) e,c⟩
  | dT kvs =>
    obtain ⟨z,y,xs,r,ob,es,ep,e,c⟩:=x
    exact ⟨z,y,xs,Paired.mapP r fun p q z=>⟨z.1,ht _ _ z.2.1,z.2.2⟩,ob,es,ep,k _ _ (.inl rfl) e,c⟩
  | set S n=>obtain ⟨ob,es,ep,t,e,c⟩:=x; exact ⟨ob,es,ep,t,k _ _ (.inl rfl) e,c⟩
  | ins C dx fs =>
    obtain ⟨d,z,ne,e,mA,⟨od,es,ep,e2,c⟩,r⟩:=x
    exact ⟨ho _ d,z,ne,k _ _ (.inl rfl) e,mA,⟨od,es,ep,k _ _ (.inr d) e2,c⟩,r⟩
  | own y=>obtain ⟨ob,e⟩:=x; exact ⟨ob,k _ _ (.inl rfl) e⟩
  | xd fs=>obtain ⟨mA,⟨od,es,ep,e,c⟩,r⟩:=x; exact ⟨mA,⟨od,es,ep,k _ _ (.inl rfl) e,c⟩,r⟩
  | rng lo hi=>obtain ⟨t,u,v,e⟩:=x; exact ⟨t,u,v,k _ _ (.inl rfl) e⟩
  | frz ob u ih=>obtain ⟨e,q⟩:=x; exact ⟨k _ _ (.inl rfl) e,ih q⟩
  | tbl ps =>
    have e:h.get? a = some { cls:=.none,data:=.fields ps }:=x
    show h'.get? a = some { cls:=.none,data:=.fields ps }
    exact k a _ (.inl rfl) e
  | met f y =>
    have e:h.get? a = some (PySem.W.methodObj (.ref f) (.ref y)):=x
    show h'.get? a = some (PySem.W.methodObj (.ref f) (.ref y))
    exact k a _ (.inl rfl) e
  | ext φ=>obtain ⟨p,⟨o,e⟩,st⟩:=x; exact ⟨st _ _ p fun o q=>k _ _ (.inl rfl) q,⟨o,k _ _ (.inl rfl) e⟩,st⟩
theorem HOk.lt (x:HOk P w H h) (e:H a = some o):a < h.objs.size:=(x a o e).lt
theorem HOk.fresh (x:HOk P w H h) (e:h.objs.size <= a):H a = none:=by
  cases q:H a with
  | none=>rfl
  | some u=>exact absurd (Nat.lt_of_lt_of_le (x.lt q) e) (Nat.lt_irrefl _)
theorem HOk.kept (x:HOk P w H h) (k:∀ b u,h.get? b = some u->h'.get? b = some u):HOk P w H h':=fun a o e =>
  (x a o e).stay (fun b u _ q=>k b u q) (fun _ q=>q) fun _ _ q=>q
theorem HOk.laid (x:HOk P w H h) (k:∀ b u,h.get? b = some u->h'.get? b = some u) (hp:h.objs.size <= a) (new:qP P w (upd H a o) h' a o):HOk P w (upd H a o) h':=fun b u e=>by
  have hn:=x.fresh hp
  by_cases hb:b = a
  · subst hb; rw [jm] at e; cases e; exact new
  · rw [jM hb] at e
    exact (x b u e).stay (fun c v _ q=>k c v q) (fun c q=>by rw [jM (jU q hn)]; exact q) fun c xs q=>by rw [jM (jU q hn)]; exact q
end
noncomputable def Rd (H:Hp) (a:Addr) (u:HO):Prop:=H a = some u ∨ ∃ o,H a = some (.frz o u)
theorem Rd.ok {P:Program} {w:World} {H:Hp} {h:Heap} {a:Addr} {u:HO} (r:Rd H a u) (x:HOk P w H h):qP P w H h a u:=by
  rcases r with r | ⟨o,r⟩
  · exact x a u r
  · obtain ⟨_,q⟩:=x a _ r
    exact q
noncomputable def Mut:Option HO->Prop
  | some (.lst _)=>True
  | some (.dK _)=>True
  | some (.dT _)=>True
  | some (.set _ _)=>True
  | some (.ins _ _ _)=>True
  | some (.ext _)=>True
  | _=>False
section
variable {P:Program} {w:World} {H:Hp} {h h':Heap} {x e:Addr} {o':HO}
theorem HOk.write (ok:HOk P w H h) (mu:Mut (H x)) (he:e = x ∨ H e = some (.own x)) (k:∀ b u,b ≠ e->h.get? b = some u->h'.get? b = some u) (heo:∃ u,h'.get? e = some u)
    (new:qP P w (upd H x o') h' x o'):HOk P w (upd H x o') h':=fun b u q=>by
  have nown:∀ c y,H c = some (.own y)->c ≠ x:=fun c y r z=>by subst z; rw [r] at mu; exact mu
  have ntup:∀ c xs,H c = some (.tup xs)->c ≠ x:=fun c xs r z=>by subst z; rw [r] at mu; exact mu
  by_cases hb:b = x
  · subst hb; rw [jm] at q; cases q; exact new
  · rw [jM hb] at q
    by_cases hbe:b = e
    · have q':H b = some (.own x):=by
        rcases he with z | z
        · exact absurd (hbe.trans z) hb
        · rw [hbe]; exact z
      rw [q] at q'; cases q'
      obtain ⟨v,hv⟩:=heo
      exact ⟨v,by rw [hbe]; exact hv⟩
    · refine (ok b u q).stay (fun c v hc r=>k c v ?_ r) (fun c r=>by rw [jM (nown c b r)]; exact r) fun c xs r=>by rw [jM (ntup c xs r)]; exact r
      rcases hc with rfl | hc
      · exact hbe
      · rintro rfl
        rcases he with z | z
        · exact nown c b hc z
        · rw [hc] at z; cases z; exact hb rfl
end
structure Un (fs ex:List Addr) (H H':Hp) (h h':Heap):Prop where
  keep:∀ b o,h.get? b = some o->H b = none->b ∉ fs->b ∉ ex->h'.get? b = some o
  slot:∀ b o,h.get? b = some o->H b = none->b ∈ fs->b ∉ ex->∃ sl,h'.get? b = some { o with slots:=sl }
  free:∀ b o,h.get? b = some o->H b = none->b ∉ ex->H' b = none
  there:∀ b o,h.get? b = some o->b ∉ ex->∃ o',h'.get? b = some o'
  tups:∀ b xs,H b = some (.tup xs)->H' b = some (.tup xs)
  frzs:∀ b o u,H b = some (.frz o u)->H' b = some (.frz o u)
  tbls:∀ b ps,H b = some (.tbl ps)->∃ more,H' b = some (.tbl (ps ++ more))
section
variable {fs fs' ex ex':List Addr} {H H1 H2:Hp} {h h1 h2 h':Heap} {a x e:Addr} {o:HO}
theorem Un.any (u:Un fs ex H H1 h h1) {b:Addr} {ob:Obj} (q:h.get? b = some ob) (n:H b = none) (hx:b ∉ ex):∃ sl,h1.get? b = some { ob with slots:=sl }:=by
  by_cases hb:b ∈ fs
  · exact u.slot b ob q n hb hx
  · exact ⟨ob.slots,u.keep b ob q n hb hx⟩
theorem Un.kept (k:∀ b u,h.get? b = some u->h'.get? b = some u):Un fs ex H H h h' :=
  ⟨fun b ob q _ _ _=>k b ob q,fun b ob q _ _ _=>⟨ob.slots,k b ob q⟩,fun _ _ _ n _=>n,fun b ob q _=>⟨ob,k b ob q⟩,fun _ _ q=>q,fun _ _ _ q=>q,fun _ ps q=>⟨#[],by rw [q]; simp⟩⟩
theorem Un.refl:Un fs ex H H h h:=Un.kept fun _ _ q=>q
theorem Un.laid (k:∀ b u,h.get? b = some u->h'.get? b = some u) (hp:h.objs.size <= a) (hn:H a = none):Un fs ex H (upd H a o) h h' where
  keep:=fun b u q _ _ _=>k b u q
  slot:=fun b u q _ _ _=>⟨u.slots,k b u q⟩
  free:=fun b u q n _=>by rw [jM (Nat.ne_of_lt (Nat.lt_of_lt_of_le (Heap.lt_size q) hp))]; exact n
  there:=fun b u q _=>⟨u,k b u q⟩
  tups:=fun b xs q=>by rw [jM (jU q hn)]; exact q
  frzs:=fun b u xs q=>by rw [jM (jU q hn)]; exact q
  tbls:=fun b ps q=>⟨#[],by rw [jM (jU q hn),q]; simp⟩
theorem Un.write (mu:Mut (H x)) (he:e = x ∨ H e = some (.own x)) (k:∀ b u,b ≠ e->h.get? b = some u->h'.get? b = some u) (heo:∃ u,h'.get? e = some u):Un fs ex H (upd H x o) h h':=by
  have hx:∀ b,H b = none->b ≠ x:=fun b n z=>by subst z; rw [n] at mu; exact mu
  have hb:∀ b,H b = none->b ≠ e:=fun b n z=>by
    subst z
    rcases he with r | r
    · exact hx b n r
    · rw [n] at r; cases r
  have hm:∀ b u,H b = some u->¬ Mut (some u)->b ≠ x:=fun b u q nm z=>by subst z; rw [q] at mu; exact nm mu
  refine ⟨fun b u q n _ _=>k b u (hb b n) q,fun b u q n _ _=>⟨u.slots,k b u (hb b n) q⟩,fun b u q n _=>by rw [jM (hx b n)]; exact n,fun b u q _=>?_,
    fun b xs q=>by rw [jM (hm b _ q fun z=>z)]; exact q,fun b u xs q=>by rw [jM (hm b _ q fun z=>z)]; exact q,fun b ps q=>⟨#[],by rw [jM (hm b _ q fun z=>z),q]; simp⟩⟩
  by_cases hbe:b = e
  · subst hbe; exact heo
  · exact ⟨u,k b u hbe q⟩
end
noncomputable def trk (h:Heap) (H:Hp):List Addr:=(List.range h.objs.size).filter fun a=>(H a).isSome
noncomputable def hidT (h:Heap) (H:Hp):Heap:=PySem.W.hideAll h (trk h H)
theorem jjC (h:Heap) (H:Hp):(hidT h H).objs.size = h.objs.size:=PySem.W.hideAll_size _ _
theorem hidT_get {h:Heap} {H:Hp} {b:Addr} {o:Obj} (e:h.get? b = some o) (n:H b = none):(hidT h H).get? b = some o :=
  PySem.W.hideAll_get _ e fun hm=>by
    have q:(H b).isSome = true:=(List.mem_filter.mp hm).2
    rw [n] at q; simp at q
theorem of_hidT {h:Heap} {H:Hp} {b:Addr} {o:Obj} (e:(hidT h H).get? b = some o):h.get? b = some o /\ H b = none:=by
  have e':h.get? b = some o:=PySem.W.of_hideAll (trk h H) e
  refine ⟨e',?_⟩
  cases q:H b with
  | none=>rfl
  | some x =>
    have hm:b ∈ trk h H:=List.mem_filter.mpr ⟨List.mem_range.mpr (Heap.lt_size e'),by simp [q]⟩
    have z:(hidT h H).get? b = none:=PySem.W.hideAll_none (trk h H) hm
    rw [z] at e; cases e
end L2
namespace L2
open PySem PySem.Spec PyProof.Rows
structure Mod (K:PySem.W.Frag) (mg:Str->Option Value) (base:Heap):Prop where
  kin:K.In base
  glob:base.Ns mainGlobals mg
  blt:∃ mb,base.Ns builtinsNs mb /\ ∀ x:Str,x ≠ "__name__" -> mb x = bootBuiltins x
  nolimit:base.NoLimit
structure Cx where
  prog:Program
  w:World
  K:PySem.W.Frag
  mg:Str->Option Value
  base:Heap
  A:Around
  N:List Str
  s₀:Shared
  H₀:Hp
  env:Env
  outer:List Env
  stack:List Env
  ex:List Addr
  fn:Str->Bool
  calm:Bool
  pn:List (Addr × Obj)
  xe:Value->Shared->Prop
noncomputable def frs (l:List Env):List Addr:=l.filterMap (·.frame)
noncomputable abbrev Cx.fs (X:Cx):List Addr:=frs X.outer
noncomputable def Vis (sc:Scope) (x:Str):Prop:=sc.names.lookup x = some .local ∨ sc.names.lookup x = some .cell ∨ sc.names.lookup x = some .free
noncomputable def Loc (sc:Scope) (x:Str):Prop:=sc.names.lookup x = some .local ∨ sc.names.lookup x = some .cell
noncomputable def Look (env:Env) (h:Heap) (m:Str->Option Value) (x:Str) (u:Value):Prop :=
  (env.kindOf x = some .local /\ m x = some u) ∨ ((env.kindOf x = some .cell ∨ env.kindOf x = some .free) /\ ∃ c,env.cells.lookup x = some c /\ h.IsCell c (some u))
structure Cx.Ok (X:Cx):Prop where
  mod:Mod X.K X.mg X.base
  kind:X.env.scope.kind = .function
  glob:X.env.globals = mainGlobals
  blt:X.env.builtins = builtinsNs
  above:X.s₀.heap.objs.size <= X.env.locals
  inj:∀ x y c,X.env.cells.lookup x = some c->X.env.cells.lookup y = some c->x = y
  has:∀ x,(X.env.kindOf x = some .cell ∨ X.env.kindOf x = some .free)->∃ c,X.env.cells.lookup x = some c
  cab:∀ x c,X.fn x = true->X.env.cells.lookup x = some c->X.s₀.heap.objs.size <= c
  hd:X.calm = true->X.A.handled = none
  frames:X.A.frames = some X.stack
  stk:X.stack = X.outer ∨ (X.stack = X.env :: X.outer /\ X.env.frame = some X.env.locals)
  exf:∀ b ∈ X.ex,b ≠ X.env.locals /\ ∀ x c,X.env.cells.lookup x = some c->c ≠ b
  bs:∀ b o,X.base.get? b = some o->X.s₀.heap.get? b = some o /\ X.H₀ b = none
  bsz:X.base.objs.size <= X.s₀.heap.objs.size
  noex:∀ b o,X.base.get? b = some o->b ∉ X.ex
  exfs:∀ b ∈ X.ex,b ∉ X.fs
  funs:X.s₀.heap.FunFrames X.base X.outer
  frf:∀ b ∈ X.fs,X.H₀ b = none
structure Inv (X:Cx) (pins:List (Addr × Obj)) (σ:List (Option V)) (H:Hp) (s:Shared):Prop where
  ok:X.Ok
  os:s.os = X.s₀.os
  bare:AllBare s.gens
  base:Un X.fs X.ex X.H₀ H X.s₀.heap s.heap
  loc:∃ m,s.heap.Ns X.env.locals m /\ ∀ (i:Nat) (x:Str) (v:V),X.N[i]? = some x->σ[i]? = some (some v)->Vis X.env.scope x->∃ u,RelV v u /\ Look X.env s.heap m x u
  cell:∀ x c,X.env.cells.lookup x = some c->∃ v,s.heap.IsCell c v
  free:H X.env.locals = none
  freeC:∀ x c,X.env.cells.lookup x = some c->H c = none
  pin:∀ p ∈ X.pn ++ pins,s.heap.get? p.1 = some p.2 /\ H p.1 = none /\ p.1 ≠ X.env.locals /\ p.1 ∉ X.fs /\ ∀ v,p.2.data ≠ .cell v
  hok:HOk X.prog X.w H s.heap
  len:σ.length = X.N.length
section
variable {X:Cx} {pins:List (Addr × Obj)} {σ:List (Option V)} {H H':Hp} {s:Shared} {h':Heap}
theorem Cx.Ok.nofr (ok:X.Ok) {b:Addr} {o:Obj} (e:X.base.get? b = some o):b ∉ X.fs:=fun hb=>by
  have:=(ok.funs.mem hb).1
  rw [e] at this; cases this
theorem Inv.bs (I:Inv X pins σ H s):∀ b o,X.base.get? b = some o->s.heap.get? b = some o /\ H b = none:=fun b o e =>
  ⟨I.base.keep b o (I.ok.bs b o e).1 (I.ok.bs b o e).2 (I.ok.nofr e) (I.ok.noex b o e),I.base.free b o (I.ok.bs b o e).1 (I.ok.bs b o e).2 (I.ok.noex b o e)⟩
theorem Inv.bk (I:Inv X pins σ H s):∀ b o,X.base.get? b = some o->s.heap.get? b = some o:=fun b o e=>(I.bs b o e).1
theorem Inv.mod (I:Inv X pins σ H s):Mod X.K X.mg X.base:=I.ok.mod
theorem Inv.kIn (I:Inv X pins σ H s):X.K.In s.heap:=I.ok.mod.kin.keeps I.bk
theorem Inv.lt (I:Inv X pins σ H s):X.env.locals < s.heap.objs.size:=let ⟨_,hn,_⟩:=I.loc; hn.lt
theorem Inv.sz (I:Inv X pins σ H s):X.s₀.heap.objs.size <= s.heap.objs.size:=Nat.le_trans I.ok.above (Nat.le_of_lt I.lt)
theorem Inv.nofs (I:Inv X pins σ H s) {a:Addr} (h:s.heap.objs.size <= a):a ∉ X.fs:=fun hb=>by
  obtain ⟨_,o,ho,_⟩:=I.ok.funs.mem hb
  exact absurd (Nat.lt_of_lt_of_le (Heap.lt_size ho) (Nat.le_trans I.sz h)) (Nat.lt_irrefl _)
theorem Inv.cne (I:Inv X pins σ H s):∀ x c,X.env.cells.lookup x = some c->c ≠ X.env.locals:=fun x c e z=>by
  obtain ⟨v,o,ho,hd⟩:=I.cell x c e
  obtain ⟨m,⟨o',es,ep,ho',hd',_⟩,_⟩:=I.loc
  rw [z,ho'] at ho; cases ho; rw [hd'] at hd; cases hd
theorem Inv.funs (I:Inv X pins σ H s):s.heap.FunFrames X.base X.outer:=by
  have all:∀ (l:List Env),(∀ b ∈ frs l,b ∈ X.fs)->X.s₀.heap.FunFrames X.base l->s.heap.FunFrames X.base l:=by
    intro l
    induction l with
    | nil=>intro _ _; trivial
    | cons env r ih =>
      intro hs hl
      obtain ⟨hk,⟨L,o,hf,hn,ho,hd⟩,hr⟩:=hl
      have hL:L ∈ X.fs:=hs L (by unfold frs; rw [List.filterMap_cons,hf]; exact List.mem_cons_self)
      obtain ⟨sl,e⟩:=I.base.slot L o ho (I.ok.frf L hL) hL fun z=>I.ok.exfs L z hL
      exact ⟨hk,⟨L,_,hf,hn,e,hd⟩,ih (fun b hb=>hs b (by unfold frs; rw [List.filterMap_cons,hf]; exact List.mem_cons_of_mem _ hb)) hr⟩
  exact all X.outer (fun _ hb=>hb) I.ok.funs
theorem Inv.stack (I:Inv X pins σ H s):s.heap.FunFrames X.base X.stack:=by
  rcases I.ok.stk with e | ⟨e,hf⟩
  · rw [e]; exact I.funs
  · rw [e]
    obtain ⟨m,hn,_⟩:=I.loc
    refine .cons (by rw [I.ok.kind]; decide) hf hn ?_ I.funs
    exact Heap.get?_none_of_le (Nat.le_trans I.ok.bsz I.ok.above)
theorem Inv.jiS (I:Inv X pins σ H s):∀ b ∈ frs X.stack,b ∈ X.env.locals :: X.fs:=fun b hb=>by
  rcases I.ok.stk with e | ⟨e,hf⟩
  · rw [e] at hb; exact List.mem_cons_of_mem _ hb
  · rw [e] at hb
    unfold frs at hb
    rw [List.filterMap_cons,hf] at hb
    exact hb
theorem Inv.jjk (I:Inv X pins σ H s):∀ b ∈ frs X.stack,H b = none:=fun b hb=>by
  rcases List.mem_cons.mp (I.jiS b hb) with e | hb
  · rw [e]; exact I.free
  · obtain ⟨_,o,ho,_⟩:=I.ok.funs.mem hb
    exact I.base.free b o ho (I.ok.frf b hb) fun z=>I.ok.exfs b z hb
theorem Inv.step {g':Array GenState} {t':Nat} {d':Drawn} {ch:List Addr} (I:Inv X pins σ H s)
    (hch:∀ b ∈ ch,(b ∈ X.ex ∨ X.s₀.heap.objs.size <= b) /\ b ≠ X.env.locals /\ (∀ x c,X.env.cells.lookup x = some c->c ≠ b) /\ ∀ p ∈ X.pn ++ pins,p.1 ≠ b)
    (keep:∀ b o,b ≠ X.env.locals->b ∉ X.fs->b ∉ ch->s.heap.get? b = some o->H b = none->h'.get? b = some o)
    (slot:∀ b o,b ≠ X.env.locals->b ∈ X.fs->b ∉ ch->s.heap.get? b = some o->H b = none->∃ sl,h'.get? b = some { o with slots:=sl }) (free:∀ b o,b ∉ ch->s.heap.get? b = some o->H b = none->H' b = none)
    (there:∀ b o,b ∉ ch->s.heap.get? b = some o->∃ o',h'.get? b = some o')
    (tups:∀ b xs,H b = some (.tup xs)->H' b = some (.tup xs)) (frzs:∀ b o u,H b = some (.frz o u)->H' b = some (.frz o u)) (tbls:∀ b ps,H b = some (.tbl ps)->∃ more,H' b = some (.tbl (ps ++ more)))
    (ns:∀ m,s.heap.Ns X.env.locals m->h'.Ns X.env.locals m) (hok:HOk X.prog X.w H' h') (hg:AllBare g') :
    Inv X pins σ H' { s with heap:=h',gens:=g',drawn:=d',toks:=t' }:=by
  have neL:∀ b o,X.s₀.heap.get? b = some o->b ≠ X.env.locals:=fun b o e=>Nat.ne_of_lt (Nat.lt_of_lt_of_le (Heap.lt_size e) I.ok.above)
  have neC:∀ b o,X.s₀.heap.get? b = some o->b ∉ X.ex->b ∉ ch:=fun b o e hx hb=>by
    rcases (hch b hb).1 with z | z
    · exact hx z
    · exact absurd (Nat.lt_of_lt_of_le (Heap.lt_size e) z) (Nat.lt_irrefl _)
  have cellK:∀ x c,X.env.cells.lookup x = some c->∀ v,s.heap.IsCell c v->h'.IsCell c v:=fun x c e v ⟨o,ho,hd⟩=>by
    have nch:c ∉ ch:=fun z=>(hch c z).2.2.1 x c e rfl
    by_cases hc:c ∈ X.fs
    · obtain ⟨sl,q⟩:=slot c o (I.cne x c e) hc nch ho (I.freeC x c e)
      exact ⟨_,q,hd⟩
    · exact ⟨o,keep c o (I.cne x c e) hc nch ho (I.freeC x c e),hd⟩
  refine ⟨I.ok,I.os,hg,⟨fun b o e n hb hx=>?_,fun b o e n hb hx=>?_,fun b o e n hx=>?_,fun b o e hx=>?_,fun b xs e=>tups b xs (I.base.tups b xs e),fun b o xs e=>frzs b o xs (I.base.frzs b o xs e),fun b ps e=>?_⟩,?_,fun x c e=>?_,?_,fun x c e=>?_,fun p hp=>?_,hok,I.len⟩
  · exact keep b o (neL b o e) hb (neC b o e hx) (I.base.keep b o e n hb hx) (I.base.free b o e n hx)
  · obtain ⟨sl,e1⟩:=I.base.slot b o e n hb hx
    obtain ⟨sl',e2⟩:=slot b _ (neL b o e) hb (neC b o e hx) e1 (I.base.free b o e n hx)
    exact ⟨sl',e2⟩
  · obtain ⟨o',e1⟩:=I.base.there b o e hx
    exact free b o' (neC b o e hx) e1 (I.base.free b o e n hx)
  · obtain ⟨o',e1⟩:=I.base.there b o e hx
    exact there b o' (neC b o e hx) e1
  · obtain ⟨m1,e1⟩:=I.base.tbls b ps e
    obtain ⟨m2,e2⟩:=tbls b _ e1
    exact ⟨m1 ++ m2,by rw [e2,Array.append_assoc]⟩
  · obtain ⟨m,hn,hl⟩:=I.loc
    refine ⟨m,ns m hn,fun i x v e1 e2 e3=>?_⟩
    obtain ⟨u,r,l⟩:=hl i x v e1 e2 e3
    refine ⟨u,r,?_⟩
    rcases l with l | ⟨k,c,e,z⟩
    · exact .inl l
    · exact .inr ⟨k,c,e,cellK x c e _ z⟩
  · obtain ⟨v,z⟩:=I.cell x c e
    exact ⟨v,cellK x c e v z⟩
  · obtain ⟨m,⟨o,_,_,ho,_⟩,_⟩:=I.loc
    exact free _ o (fun z=>(hch _ z).2.1 rfl) ho I.free
  · obtain ⟨v,o,ho,hd⟩:=I.cell x c e
    exact free c o (fun z=>(hch c z).2.2.1 x c e rfl) ho (I.freeC x c e)
  · obtain ⟨e,n,ne,nf,d⟩:=I.pin p hp
    have nch:p.1 ∉ ch:=fun z=>(hch p.1 z).2.2.2 p hp rfl
    exact ⟨keep p.1 p.2 ne nf nch e n,free p.1 p.2 nch e n,ne,nf,d⟩
theorem Inv.un {t':Nat} (I:Inv X pins σ H s) (u:Un X.fs [] H H' s.heap h') (hok:HOk X.prog X.w H' h'):Inv X pins σ H' { s with heap:=h',toks:=t' }:=by
  obtain ⟨m,⟨o,es,ep,ho,r⟩,_⟩:=id I.loc
  obtain ⟨sl,hL⟩:=u.any ho I.free (by simp)
  exact I.step (g':=s.gens) (d':=s.drawn) (ch:=[]) (fun _ z=>nomatch z) (fun b o _ hb _ e n=>u.keep b o e n hb (by simp)) (fun b o _ hb _ e n=>u.slot b o e n hb (by simp)) (fun b o _ e n=>u.free b o e n (by simp)) (fun b o _ e=>u.there b o e (by simp)) u.tups u.frzs u.tbls (fun m' hm=>by
    obtain ⟨o',es',ep',ho',r'⟩:=hm
    rw [ho] at ho'; cases ho'
    exact ⟨_,es',ep',hL,r'⟩) hok I.bare
theorem Inv.call {g':Array GenState} {t':Nat} {d':Drawn} {ch:List Addr} (I:Inv X pins σ H s) (u:Un (frs X.stack) ch H H' s.heap h') (hok:HOk X.prog X.w H' h') (hg:AllBare g')
    (hch:∀ b ∈ ch,(b ∈ X.ex ∨ X.s₀.heap.objs.size <= b) /\ b ≠ X.env.locals /\ (∀ x c,X.env.cells.lookup x = some c->c ≠ b) /\ ∀ p ∈ X.pn ++ pins,p.1 ≠ b) :
    Inv X pins σ H' { s with heap:=h',gens:=g',drawn:=d',toks:=t' }:=by
  obtain ⟨m,⟨o,es,ep,ho,r⟩,_⟩:=id I.loc
  obtain ⟨sl,hL⟩:=u.any ho I.free fun z=>(hch _ z).2.1 rfl
  exact I.step (ch:=ch) hch (fun b o hL hb hc e n=>u.keep b o e n (fun z=>(List.mem_cons.mp (I.jiS b z)).elim hL hb) hc) (fun b o _ _ hc e n=>u.any e n hc) (fun b o hc e n=>u.free b o e n hc) (fun b o hc e=>u.there b o e hc) u.tups u.frzs u.tbls (fun m' hm=>by
    obtain ⟨o',es',ep',ho',r'⟩:=hm
    rw [ho] at ho'; cases ho'
    exact ⟨_,es',ep',hL,r'⟩) hok hg
theorem Inv.turned {t':Nat} {it:Addr} (I:Inv X pins σ H s) (k:∀ b o,b ≠ it->s.heap.get? b = some o->h'.get? b = some o) (hn:H it = none) (hL:it ≠ X.env.locals)
    (h1:it ∈ X.ex ∨ X.s₀.heap.objs.size <= it) (h2:∀ x c,X.env.cells.lookup x = some c->c ≠ it) (h3:∀ p ∈ X.pn ++ pins,p.1 ≠ it):Inv X pins σ H { s with heap:=h',toks:=t' }:=by
  have nit:∀ b u,H b = some u->b ≠ it:=fun b u e z=>by rw [z,hn] at e; cases e
  refine I.step (g':=s.gens) (d':=s.drawn) (ch:=[it]) (fun b hb=>?_) (fun b o _ _ hc e _=>k b o (fun z=>hc (by simp [z])) e) (fun b o _ _ hc e _=>⟨o.slots,k b o (fun z=>hc (by simp [z])) e⟩) (fun _ _ _ _ n=>n)
    (fun b o hc e=>⟨o,k b o (fun z=>hc (by simp [z])) e⟩) (fun _ _ e=>e) (fun _ _ _ e=>e) (fun b ps e=>⟨#[],by rw [e]; simp⟩) (fun m hm=>?_) (fun b u e=>?_) I.bare
  · have e:b = it:=by simpa using hb
    subst e
    exact ⟨h1,hL,h2,h3⟩
  · obtain ⟨o,es,ep,ho,r⟩:=hm
    exact ⟨o,es,ep,k _ o (Ne.symm hL) ho,r⟩
  · refine (I.hok b u e).stay (fun c v hc q=>k c v ?_ q) (fun _ q=>q) fun _ _ q=>q
    rcases hc with z | z
    · rw [z]; exact nit b u e
    · exact nit c _ z
theorem Inv.tok (I:Inv X pins σ H s) (t:Nat):Inv X pins σ H { s with toks:=t }:=I.un (h':=s.heap) (t':=t) Un.refl I.hok
theorem Inv.kept {t':Nat} (I:Inv X pins σ H s) (k:∀ b u,s.heap.get? b = some u->h'.get? b = some u):Inv X pins σ H { s with heap:=h',toks:=t' }:=I.un (Un.kept k) (I.hok.kept k)
theorem Inv.laid {a:Addr} {o:HO} {t':Nat} (I:Inv X pins σ H s) (k:∀ b u,s.heap.get? b = some u->h'.get? b = some u) (hp:s.heap.objs.size <= a) (new:qP X.prog X.w (upd H a o) h' a o) :
    Inv X pins σ (upd H a o) { s with heap:=h',toks:=t' }:=I.un (Un.laid k hp (I.hok.fresh hp)) (I.hok.laid k hp new)
theorem Inv.write {x e:Addr} {o:HO} {t':Nat} (I:Inv X pins σ H s) (mu:Mut (H x)) (he:e = x ∨ H e = some (.own x)) (k:∀ b u,b ≠ e->s.heap.get? b = some u->h'.get? b = some u) (heo:∃ u,h'.get? e = some u)
    (new:qP X.prog X.w (upd H x o) h' x o):Inv X pins σ (upd H x o) { s with heap:=h',toks:=t' }:=I.un (Un.write mu he k heo) (I.hok.write mu he k heo new)
theorem Inv.jjh {pins':List (Addr × Obj)} (I:Inv X pins σ H s) (h:∀ p ∈ pins',s.heap.get? p.1 = some p.2 /\ H p.1 = none /\ p.1 ≠ X.env.locals /\ p.1 ∉ X.fs /\ ∀ v,p.2.data ≠ .cell v):Inv X pins' σ H s :=
  ⟨I.ok,I.os,I.bare,I.base,I.loc,I.cell,I.free,I.freeC,fun p hp=>(List.mem_append.mp hp).elim (fun z=>I.pin p (List.mem_append_left _ z)) (h p),I.hok,I.len⟩
theorem jhP {N:List Str} (hN:N.Nodup) {i j:Nat} {x:Str} (a:N[i]? = some x) (b:N[j]? = some x):i = j:=by
  obtain ⟨h1,e1⟩:=List.getElem?_eq_some_iff.mp a
  obtain ⟨h2,e2⟩:=List.getElem?_eq_some_iff.mp b
  exact (List.getElem_inj hN).mp (e1.trans e2.symm)
theorem jgI {M:Model} {A:Around} {E:Value->Shared->Prop} {i:Nat} {x:Str} {v:V} {u:Value} {Q:Unit->Shared->Prop} (I:Inv X pins σ H s) (hN:X.N.Nodup) (hi:X.N[i]? = some x) (hx:Loc X.env.scope x) (r:RelV v u)
    (h:∀ s',Inv X pins (σ.set i (some v)) H s'->(∃ a,Heap.SameBut a s.heap s'.heap /\ (a = X.env.locals ∨ X.env.cells.lookup x = some a))->Q () s') (hf:X.fn x = true ∨ X.env.scope.names.lookup x = some .local:=by first | exact .inl rfl | exact .inr rfl | assumption):wpAny M A (storeName X.env x u) Q E s:=by
  obtain ⟨m,hn,hl⟩:=id I.loc
  have hcls:(X.env.scope.kind == .class || (X.env.scope.kind == .module && X.env.locals != X.env.globals)) = false:=by rw [I.ok.kind]; rfl
  have hiσ:i < σ.length:=by rw [I.len]; exact (List.getElem?_eq_some_iff.mp hi).1
  have cne:=I.cne
  have tracked:∀ {a:Addr} {h':Heap},(∃ o,s.heap.get? a = some o /\ H a = none)->Heap.SameBut a s.heap h'->HOk X.prog X.w H h':=fun {a h'} ha hs b ob e=>by
    obtain ⟨_,_,hfree⟩:=ha
    refine (I.hok b ob e).stay (fun c w' hc q=>(hs.2 c ?_).trans q) (fun _ q=>q) fun _ _ q=>q
    rintro rfl
    rcases hc with rfl | hc
    · rw [hfree] at e; cases e
    · rw [hfree] at hc; cases hc
  rcases hx with hk | hk
  · refine wpAny_storeName_local hk hn (fun h' hn' hs=>?_) hcls
    obtain ⟨oL,_,_,hoL,_⟩:=id hn
    refine h _ ⟨I.ok,I.os,I.bare,⟨fun b o e n hb hx=>?_,fun b o e n hb hx=>?_,I.base.free,fun b o e hx=>?_,I.base.tups,I.base.frzs,I.base.tbls⟩,⟨_,hn',fun j y v' e1 e2 e3=>?_⟩,fun y c e=>?_,I.free,I.freeC,fun p hp=>?_,tracked ⟨oL,hoL,I.free⟩ hs,by simpa using I.len⟩ ⟨_,hs,.inl rfl⟩
    · exact (hs.2 b (Nat.ne_of_lt (Nat.lt_of_lt_of_le (Heap.lt_size e) I.ok.above))).trans (I.base.keep b o e n hb hx)
    · obtain ⟨sl,e1⟩:=I.base.slot b o e n hb hx
      exact ⟨sl,(hs.2 b (Nat.ne_of_lt (Nat.lt_of_lt_of_le (Heap.lt_size e) I.ok.above))).trans e1⟩
    · obtain ⟨o',e1⟩:=I.base.there b o e hx
      exact ⟨o',(hs.2 b (Nat.ne_of_lt (Nat.lt_of_lt_of_le (Heap.lt_size e) I.ok.above))).trans e1⟩
    · by_cases hj:j = i
      · subst hj
        rw [hi] at e1; cases e1
        rw [List.getElem?_set_self hiσ] at e2
        cases e2
        exact ⟨u,r,.inl ⟨hk,by simp⟩⟩
      · rw [List.getElem?_set_ne (Ne.symm hj)] at e2
        obtain ⟨u',r',q⟩:=hl j y v' e1 e2 e3
        refine ⟨u',r',?_⟩
        rcases q with ⟨k,e⟩ | ⟨k,c,e,z⟩
        · refine .inl ⟨k,?_⟩
          have:y ≠ x:=fun e=>hj (jhP hN e1 (e ▸ hi))
          simp [this,e]
        · exact .inr ⟨k,c,e,z.sameBut hs (cne y c e)⟩
    · obtain ⟨w',z⟩:=I.cell y c e
      exact ⟨w',z.sameBut hs (cne y c e)⟩
    · obtain ⟨e,n,ne,nf,d⟩:=I.pin p hp
      exact ⟨(hs.2 p.1 ne).trans e,n,ne,nf,d⟩
  · have hfn:X.fn x = true:=by
      rcases hf with z | z
      · exact z
      · rw [z] at hk; cases hk
    obtain ⟨c,hc⟩:=I.ok.has x (.inl hk)
    obtain ⟨w',z⟩:=I.cell x c hc
    refine wpAny_storeName_cell I.ok.kind hk hc z (fun h' hc' hs=>?_)
    obtain ⟨oc,hoc,hocd⟩:=id z
    refine h { s with heap:=h' } ⟨I.ok,I.os,I.bare,⟨fun b o e n hb hx=>?_,fun b o e n hb hx=>?_,I.base.free,fun b o e hx=>?_,I.base.tups,I.base.frzs,I.base.tbls⟩,⟨m,hn.sameBut hs (Ne.symm (cne x c hc)),fun j y v' e1 e2 e3=>?_⟩,fun y c' e=>?_,I.free,I.freeC,fun p hp=>?_,tracked ⟨oc,hoc,I.freeC x c hc⟩ hs,by simpa using I.len⟩ ⟨c,hs,.inr hc⟩
    · exact (hs.2 b (Nat.ne_of_lt (Nat.lt_of_lt_of_le (Heap.lt_size e) (I.ok.cab x c hfn hc)))).trans (I.base.keep b o e n hb hx)
    · obtain ⟨sl,e1⟩:=I.base.slot b o e n hb hx
      exact ⟨sl,(hs.2 b (Nat.ne_of_lt (Nat.lt_of_lt_of_le (Heap.lt_size e) (I.ok.cab x c hfn hc)))).trans e1⟩
    · obtain ⟨o',e1⟩:=I.base.there b o e hx
      exact ⟨o',(hs.2 b (Nat.ne_of_lt (Nat.lt_of_lt_of_le (Heap.lt_size e) (I.ok.cab x c hfn hc)))).trans e1⟩
    · by_cases hj:j = i
      · subst hj
        rw [hi] at e1; cases e1
        rw [List.getElem?_set_self hiσ] at e2
        cases e2
        exact ⟨u,r,.inr ⟨.inl hk,c,hc,hc'⟩⟩
      · rw [List.getElem?_set_ne (Ne.symm hj)] at e2
        obtain ⟨u',r',q⟩:=hl j y v' e1 e2 e3
        refine ⟨u',r',?_⟩
        rcases q with q | ⟨k,c',e,z'⟩
        · exact .inl q
        · refine .inr ⟨k,c',e,z'.sameBut hs ?_⟩
          rintro rfl
          exact hj (jhP hN e1 (I.ok.inj _ _ _ e hc ▸ hi))
    · by_cases hcc:c' = c
      · subst hcc; exact ⟨_,hc'⟩
      · obtain ⟨w2,z2⟩:=I.cell y c' e
        exact ⟨w2,z2.sameBut hs hcc⟩
    · obtain ⟨e,n,ne,nf,d⟩:=I.pin p hp
      refine ⟨(hs.2 p.1 ?_).trans e,n,ne,nf,d⟩
      intro q
      rw [q,hoc] at e
      have q':oc = p.2:=Option.some.inj e
      exact d w' (by rw [<- q']; exact hocd)
theorem jh5 {M:Model} {A:Around} {E:Value->Shared->Prop} {i:Nat} {x:Str} {v:V} {u:Value} {Q:Unit->Shared->Prop} (I:Inv X pins σ H s) (hN:X.N.Nodup) (hi:X.N[i]? = some x) (hx:Loc X.env.scope x) (r:RelV v u)
    (h:∀ s',Inv X pins (σ.set i (some v)) H s'->Q () s') (hf:X.fn x = true ∨ X.env.scope.names.lookup x = some .local:=by first | exact .inl rfl | exact .inr rfl | assumption):wpAny M A (storeName X.env x u) Q E s :=
  jgI I hN hi hx r (fun s' I' _=>h s' I') hf
theorem Inv.call' {s':Shared} {ch:List Addr} (I:Inv X pins σ H s) (ho:s'.os = s.os) (u:Un (frs X.stack) ch H H' s.heap s'.heap) (hok:HOk X.prog X.w H' s'.heap) (hg:AllBare s'.gens)
    (hch:∀ b ∈ ch,(b ∈ X.ex ∨ X.s₀.heap.objs.size <= b) /\ b ≠ X.env.locals /\ (∀ x c,X.env.cells.lookup x = some c->c ≠ b) /\ ∀ p ∈ X.pn ++ pins,p.1 ≠ b):Inv X pins σ H' s':=by
  obtain ⟨h',g',d',t',o'⟩:=s'
  have e:o' = s.os:=ho
  subst e
  exact I.call (g':=g') (t':=t') (d':=d') u hok hg hch
end
noncomputable abbrev XK:=Value->Option Addr->Hp->Prop
noncomputable abbrev St:=List (Option V)
noncomputable abbrev VK:=V->Hp->Prop
noncomputable abbrev TE:=St->Hp->VK->Prop
noncomputable abbrev TT:=St->Hp->(Bool->Hp->Prop)->Prop
noncomputable abbrev TA:=St->Hp->(List V->Hp->Prop)->Prop
structure Ends where
  nx:St->Hp->Prop
  rt:VK
  bk:St->Hp->Prop:=fun _ _=>False
  ct:St->Hp->Prop:=fun _ _=>False
noncomputable abbrev TS:=Ends->St->Hp->Prop
noncomputable def EP (X:Cx) (pins:List (Addr × Obj)) (σ:St) (Q:VK) (u:Value) (s':Shared):Prop:=∃ v H',Inv X pins σ H' s' /\ RelV v u /\ Q v H'
noncomputable def TP (X:Cx) (pins:List (Addr × Obj)) (σ:St) (Q:Bool->Hp->Prop) (b:Bool) (s':Shared):Prop:=∃ H',Inv X pins σ H' s' /\ Q b H'
noncomputable def AP (X:Cx) (pins:List (Addr × Obj)) (σ:St) (Q:List V->Hp->Prop) (us:List Value) (s':Shared):Prop:=∃ vs H',Inv X pins σ H' s' /\ Vals vs us /\ Q vs H'
noncomputable def SP (X:Cx) (pins:List (Addr × Obj)) (D:Ends) (f:Flow) (s':Shared):Prop :=
  match f with
  | .next=>∃ σ' H',Inv X pins σ' H' s' /\ D.nx σ' H'
  | .brk=>∃ σ' H',Inv X pins σ' H' s' /\ D.bk σ' H'
  | .cont=>∃ σ' H',Inv X pins σ' H' s' /\ D.ct σ' H'
  | .ret u=>∃ v σ' H',Inv X pins σ' H' s' /\ RelV v u /\ D.rt v H'
noncomputable def PE (X:Cx) (e:Expr) (t:TE):Prop :=
  ∀ (pins:List (Addr × Obj)) (s:Shared) (σ:St) (H:Hp) (Q:VK),Inv X pins σ H s->t σ H Q->wpAny (model X.prog X.w) X.A (eval e X.env) (EP X pins σ Q) X.xe s
noncomputable def PT (X:Cx) (e:Expr) (t:TT):Prop :=
  ∀ (pins:List (Addr × Obj)) (s:Shared) (σ:St) (H:Hp) (Q:Bool->Hp->Prop),Inv X pins σ H s->t σ H Q->wpAny (model X.prog X.w) X.A (isTrue e X.env (eval e X.env)) (TP X pins σ Q) X.xe s
noncomputable def PW (X:Cx) (e:Expr) (t:TT):Prop :=
  ∀ (whole:Sem Value) (pins:List (Addr × Obj)) (s:Shared) (σ:St) (H:Hp) (Q:Bool->Hp->Prop),Inv X pins σ H s->t σ H Q->wpAny (model X.prog X.w) X.A (isTrue e X.env whole) (TP X pins σ Q) X.xe s
theorem PW.pt {X:Cx} {e:Expr} {t:TT} (h:PW X e t):PT X e t:=h _
noncomputable def PA (X:Cx) (es:List Expr) (t:TA):Prop :=
  ∀ (pos:Pos) (pins:List (Addr × Obj)) (s:Shared) (σ:St) (H:Hp) (Q:List V->Hp->Prop),Inv X pins σ H s->t σ H Q->wpAny (model X.prog X.w) X.A (spliced (backTo pos (starEach es X.env))) (AP X pins σ Q) X.xe s
noncomputable def PS (X:Cx) (st:Stmt) (t:TS):Prop :=
  ∀ (pins:List (Addr × Obj)) (s:Shared) (σ:St) (H:Hp) (D:Ends),Inv X pins σ H s->t D σ H->wpAny (model X.prog X.w) X.A (exec st X.env) (SP X pins D) X.xe s
noncomputable def PSs (X:Cx) (st:List Stmt) (t:TS):Prop :=
  ∀ (pins:List (Addr × Obj)) (s:Shared) (σ:St) (H:Hp) (D:Ends),Inv X pins σ H s->t D σ H->wpAny (model X.prog X.w) X.A (execs st X.env) (SP X pins D) X.xe s
theorem thn {α:Type} {t:Sem α} {Q Q':α->Shared->Prop} {M:Model} {A:Around} {E:Value->Shared->Prop} {s:Shared} (h:wpAny M A t Q E s) (hQ:∀ a s,Q a s->Q' a s):wpAny M A t Q' E s:=wpAny_mono h hQ fun _ _ x=>x
end L2
namespace L2
open PySem PySem.Spec PyProof.Rows
section
variable {X:Cx}
noncomputable def tVar (i:Nat):TE:=fun σ H Q=>∃ v,σ[i]? = some (some v) /\ Q v H
noncomputable def tC (v:V):TE:=fun _ H Q=>Q v H
theorem pe_var {i:Nat} {x:Str} {pos:Pos} (hN:X.N[i]? = some x) (hv:Vis X.env.scope x) (hd:(x == ("__debug__" : Str)) = false:=by decide) (hcd:(x == ("__classdict__" : Str)) = false:=by decide):PE X (.Name x pos) (tVar i):=by
  intro pins s σ H Q I h
  obtain ⟨v,e,h⟩:=h
  obtain ⟨m,hn,hl⟩:=I.loc
  obtain ⟨u,r,l⟩:=hl i x v hN e hv
  have fin:EP X pins σ Q u s:=⟨v,H,I,r,h⟩
  rcases l with ⟨hk,hm⟩ | ⟨hk,c,hc,hcell⟩
  · exact wpAny_Name (wpAny_loadName_local I.ok.kind hk hn hm fin) hd
  · rcases hk with hk | hk
    · exact wpAny_Name (wpAny_loadName_cell I.ok.kind hk hc hcell fin) hd
    · exact wpAny_Name (wpAny_loadName_free I.ok.kind hk hc hcell fin hcd) hd
theorem jg {i j pos}:PE X (.Constant (.int i) j pos) (tC (.int i)):=fun _ _ _ H _ I h=>wpAny_Constant_int ⟨.int i,H,I.tok _,⟨_,rfl⟩,h⟩
theorem jaV {b j pos}:PE X (.Constant (.bool b) j pos) (tC (.bl b)):=fun _ _ _ H _ I h=>Constant_bool ⟨.bl b,H,I,rfl,h⟩
theorem Zg {j pos}:PE X (.Constant .none j pos) (tC .non):=fun _ _ _ H _ I h=>Constant_none ⟨.non,H,I,rfl,h⟩
theorem jJ {x j pos}:PE X (.Constant (.str x) j pos) (tC (.str x)):=fun _ _ _ H _ I h=>Calls.Constant_str ⟨.str x,H,I.tok _,⟨_,rfl⟩,h⟩
noncomputable def Gl (X:Cx) (x:Str):Prop:=X.env.kindOf x = some .globalImplicit
theorem jep {E:Value->Shared->Prop} {pins:List (Addr × Obj)} {s:Shared} {σ:St} {H:Hp} {x:Str} {u:Value} {pos:Pos} {Q:Value->Shared->Prop} (I:Inv X pins σ H s) (hg:Gl X x) (hm:X.mg x = some u) (h:Q u s)
    (hd:(x == ("__debug__" : Str)) = false:=by decide):wpAny (model X.prog X.w) X.A (eval (.Name x pos) X.env) Q E s :=
  Calls.Name_function_global I.ok.kind hg (Calls.loadGlobal_global (by rw [I.ok.glob]; exact I.mod.glob.keeps I.bk) hm h) hd
theorem ZJ {E:Value->Shared->Prop} {pins:List (Addr × Obj)} {s:Shared} {σ:St} {H:Hp} {x:Str} {u:Value} {pos:Pos} {Q:Value->Shared->Prop} (I:Inv X pins σ H s) (hg:Gl X x) (hm:X.mg x = none) (hv:bootBuiltins x = some u) (h:Q u s)
    (hn:x ≠ "__name__" := by decide) (hd:(x == ("__debug__" : Str)) = false:=by decide):wpAny (model X.prog X.w) X.A (eval (.Name x pos) X.env) Q E s:=by
  obtain ⟨mb,h1,h2⟩:=I.mod.blt
  exact Calls.Name_function_global I.ok.kind hg (Calls.loadGlobal_builtin (by rw [I.ok.glob]; exact I.mod.glob.keeps I.bk) hm (by rw [I.ok.blt]; exact h1.keeps I.bk) ((h2 x hn).trans hv) h) hd
theorem pe_glob {x:Str} {v:V} {u:Value} {pos:Pos} (hg:Gl X x) (hm:X.mg x = some u) (r:RelV v u) (hd:(x == ("__debug__" : Str)) = false:=by decide):PE X (.Name x pos) (tC v) :=
  fun _ _ _ H _ I h=>jep I hg hm ⟨v,H,I,r,h⟩ hd
theorem pe_bltn {x:Str} {v:V} {u:Value} {pos:Pos} (hg:Gl X x) (hm:X.mg x = none) (hv:bootBuiltins x = some u) (r:RelV v u) (hn:x ≠ "__name__" := by decide) (hd:(x == ("__debug__" : Str)) = false:=by decide):PE X (.Name x pos) (tC v) :=
  fun _ _ _ H _ I h=>ZJ I hg hm hv ⟨v,H,I,r,h⟩ hn hd
variable {a b:Expr} {ta tb:TE} {pos:Pos}
noncomputable def tB (t:TE):TT:=fun σ H Q=>t σ H fun x H1=>∃ c,x = .bl c /\ Q c H1
theorem Jt {e:Expr} {t:TE} (h:PE X e t) (he:∀ whole,isTrue e X.env whole = (do let v <- whole; standAt e.pos; holding [v] (truthy v)):=by intro _; rfl):PT X e (tB t):=by
  intro pins s σ H Q I hw
  refine isTrue_plain (thn (h pins s σ H _ I hw) fun v s1 zz=>?_) (he _)
  obtain ⟨x,H1,I1,r1,q1⟩:=zz
  obtain ⟨d,rfl,q⟩:=q1
  cases r1
  exact wpAny_truthy_bool ⟨H1,I1,q⟩
variable {tA tB':TT} {rest:List Expr}
noncomputable def tAnd (t u:TT):TT:=fun σ H Q=>t σ H fun c H1=>if c = true then u σ H1 Q else Q false H1
noncomputable def tOr (t u:TT):TT:=fun σ H Q=>t σ H fun c H1=>if c = true then Q true H1 else u σ H1 Q
noncomputable def tNot (t:TT):TT:=fun σ H Q=>t σ H fun c H1=>Q (!c) H1
theorem jaB (ha:PT X a tA):PW X (.BoolOp .And [a] pos) tA:=by
  intro wh pins s σ H Q I h
  refine isTrue_and (thn (ha pins s σ H Q I h) fun c s1 e=>?_)
  cases c with
  | true=>exact isTrue_and_nil e
  | false=>exact e
theorem Yi (ha:PT X a tA):PW X (.BoolOp .Or [a] pos) tA:=by
  intro wh pins s σ H Q I h
  refine isTrue_or (thn (ha pins s σ H Q I h) fun c s1 e=>?_)
  cases c with
  | false=>exact isTrue_or_nil e
  | true=>exact e
theorem jcv (ha:PT X a tA) (hb:PW X (.BoolOp .And (b :: rest) pos) tB'):PW X (.BoolOp .And (a :: b :: rest) pos) (tAnd tA tB'):=by
  intro wh pins s σ H Q I h
  refine isTrue_and (thn (ha pins s σ H _ I h) fun c s1 zz=>?_)
  obtain ⟨H1,I1,q1⟩:=zz
  cases c with
  | true=>exact hb wh pins s1 σ H1 Q I1 q1
  | false=>exact ⟨H1,I1,q1⟩
theorem Zi (ha:PT X a tA) (hb:PW X (.BoolOp .Or (b :: rest) pos) tB'):PW X (.BoolOp .Or (a :: b :: rest) pos) (tOr tA tB'):=by
  intro wh pins s σ H Q I h
  refine isTrue_or (thn (ha pins s σ H _ I h) fun c s1 zz=>?_)
  obtain ⟨H1,I1,q1⟩:=zz
  cases c with
  | true=>exact ⟨H1,I1,q1⟩
  | false=>exact hb wh pins s1 σ H1 Q I1 q1
theorem JZ (ha:PT X a tA):PT X (.UnaryOp .Not a pos) (tNot tA):=by
  intro pins s σ H Q I h
  exact isTrue_not (ha pins s σ H (fun c H1=>Q (!c) H1) I h)
noncomputable def tAndV (ta tb:TE):TE:=fun σ H Q=>ta σ H fun x H1=>∃ c,x = .bl c /\ if c = true then tb σ H1 Q else Q (.bl false) H1
noncomputable def tOrV (ta tb:TE):TE:=fun σ H Q=>ta σ H fun x H1=>∃ c,x = .bl c /\ if c = true then Q (.bl true) H1 else tb σ H1 Q
noncomputable def tNotV (ta:TE):TE:=fun σ H Q=>ta σ H fun x H1=>∃ c,x = .bl c /\ Q (.bl (!c)) H1
theorem jbr {op} {t:TE} (h:PE X a t):PE X (.BoolOp op [a] pos) t:=fun pins s σ H Q I hw=>BoolOp_one (h pins s σ H Q I hw)
theorem jdy (ha:PE X a ta) (hb:PE X (.BoolOp .And (b :: rest) pos) tb):PE X (.BoolOp .And (a :: b :: rest) pos) (tAndV ta tb):=by
  intro pins s σ H Q I h
  refine BoolOp_and (thn (ha pins s σ H _ I h) fun v s1 zz=>?_)
  obtain ⟨x,H1,I1,r1,q1⟩:=zz
  obtain ⟨c,rfl,q1⟩:=q1
  cases r1
  refine wpAny_truthy_bool ?_
  cases c with
  | true=>exact hb pins s1 σ H1 Q I1 q1
  | false=>exact ⟨.bl false,H1,I1,rfl,q1⟩
theorem pe_or (ha:PE X a ta) (hb:PE X (.BoolOp .Or (b :: rest) pos) tb):PE X (.BoolOp .Or (a :: b :: rest) pos) (tOrV ta tb):=by
  intro pins s σ H Q I h
  refine BoolOp_or (thn (ha pins s σ H _ I h) fun v s1 zz=>?_)
  obtain ⟨x,H1,I1,r1,q1⟩:=zz
  obtain ⟨c,rfl,q1⟩:=q1
  cases r1
  refine wpAny_truthy_bool ?_
  cases c with
  | false=>exact hb pins s1 σ H1 Q I1 q1
  | true=>exact ⟨.bl true,H1,I1,rfl,q1⟩
theorem jfi (ha:PE X a ta):PE X (.UnaryOp .Not a pos) (tNotV ta):=by
  intro pins s σ H Q I h
  refine UnaryOp_ (thn (ha pins s σ H _ I h) fun v s1 zz=>?_)
  obtain ⟨x,H1,I1,r1,q1⟩:=zz
  obtain ⟨c,rfl,q1⟩:=q1
  cases r1
  exact not_of (wpAny_truthy_bool ⟨.bl (!c),H1,I1,rfl,q1⟩)
noncomputable def tIf (t:TT) (ta tb:TE):TE:=fun σ H Q=>t σ H fun c H1=>if c = true then ta σ H1 Q else tb σ H1 Q
theorem jcW {c:Expr} (hc:PT X c tA) (ha:PE X a ta) (hb:PE X b tb):PE X (.IfExp c a b pos) (tIf tA ta tb):=by
  intro pins s σ H Q I h
  refine wpAny_IfExp (thn (hc pins s σ H _ I h) fun d s1 zz=>?_)
  obtain ⟨H1,I1,q1⟩:=zz
  cases d with
  | true=>exact ha pins s1 σ H1 Q I1 q1
  | false=>exact hb pins s1 σ H1 Q I1 q1
end
end L2
namespace L2
open PySem PySem.Spec PyProof.Rows
noncomputable def SqL (K:PySem.W.Frag) (H:Hp) (a:Addr) (xs:List V):Prop :=
  Rd H a (.lst xs) ∨
    ∃ (o:Obj) (its:Array Value) (n:Nat),K.lookup a = some o /\ o.cls = .type "list" /\ o.dict = none /\ o.data = .seq its n /\ its.size <= sizeLine /\ Vals xs its.toList
noncomputable def SqT (K:PySem.W.Frag) (H:Hp) (a:Addr) (xs:List V):Prop :=
  Rd H a (.tup xs) ∨
    ∃ (o:Obj) (its:Array Value) (n:Nat),K.lookup a = some o /\ o.cls = .type "tuple" /\ o.data = .seq its n /\ its.size <= sizeLine /\ Vals xs its.toList
noncomputable def absV:Value->Option V
  | .none=>some .non
  | .bool b=>some (.bl b)
  | .int i _=>some (.int i)
  | .str x _=>some (.str x)
  | .bytes b _=>some (.byt b)
  | .float b _=>some (.flt b)
  | .ref a=>some (.ref a)
  | .type n=>some (.ty n)
  | _=>none
theorem RelV.abs {x:V} {u:Value} (r:RelV x u):absV u = some x:=by
  cases x with
  | non=>cases r; rfl
  | bl _=>cases r; rfl
  | int _=>obtain ⟨t,rfl⟩:=r; rfl
  | str _=>obtain ⟨t,rfl⟩:=r; rfl
  | byt _=>obtain ⟨t,rfl⟩:=r; rfl
  | flt _=>obtain ⟨t,rfl⟩:=r; rfl
  | ref _=>cases r; rfl
  | ty _=>cases r; rfl
theorem RelV.inj {x y:V} {u:Value} (r:RelV x u) (q:RelV y u):x = y:=Option.some.inj (r.abs.symm.trans q.abs)
theorem Vals.inj:∀ {xs ys:List V} {us:List Value},Vals xs us->Vals ys us->xs = ys
  | _,_,_,.nil,.nil=>rfl
  | _,_,_,.cons r t,.cons r' t'=>by rw [r.inj r',Vals.inj t t']
section
variable {X:Cx} {pins:List (Addr × Obj)} {σ:St} {H:Hp} {s:Shared} {a:Addr} {xs ys:List V}
theorem SqL.of {K:PySem.W.Frag} (h:H a = some (.lst xs)):SqL K H a xs:=.inl (.inl h)
theorem SqT.of {K:PySem.W.Frag} (h:H a = some (.tup xs)):SqT K H a xs:=.inl (.inl h)
theorem Inv.list (I:Inv X pins σ H s) (h:SqL X.K H a xs):∃ its:List Value,Vals xs its /\ PlainL s.heap a its.toArray /\ xs.length <= sizeLine:=by
  rcases h with h | ⟨o,its,n,hk,hc,hd,hs,hz,r⟩
  · obtain ⟨z,its,n,r,e⟩:=h.ok I.hok
    exact ⟨its,r,⟨_,n,e,rfl,rfl,rfl⟩,z⟩
  · refine ⟨its.toList,r,⟨o,n,I.kIn a o hk,hc,hd,by simpa using hs⟩,?_⟩
    have e:=r.length
    simp only [Array.length_toList] at e
    omega
theorem Inv.tuple (I:Inv X pins σ H s) (h:SqT X.K H a xs):∃ its:List Value,Vals xs its /\ IsTup s.heap a its.toArray /\ xs.length <= sizeLine:=by
  rcases h with h | ⟨o,its,n,hk,hc,hs,hz,r⟩
  · obtain ⟨z,its,r,p⟩:=h.ok I.hok
    exact ⟨its,r,p,z⟩
  · refine ⟨its.toList,r,⟨o,I.kIn a o hk,hc,n,by simpa using hs⟩,?_⟩
    have e:=r.length
    simp only [Array.length_toList] at e
    omega
theorem Inv.jcN (I:Inv X pins σ H s) (h:SqL X.K H a xs) (h':SqL X.K H a ys):xs = ys:=by
  obtain ⟨its,r,⟨o,n,e,_,_,d⟩,_⟩:=I.list h
  obtain ⟨its',r',⟨o',n',e',_,_,d'⟩,_⟩:=I.list h'
  rw [e] at e'; cases e'
  rw [d] at d'
  injection d' with d1 _
  have:its = its':=by simpa using congrArg Array.toList d1
  subst this
  exact r.inj r'
end
noncomputable abbrev Cx.wish (X:Cx) (E:Value->Shared->Prop):Cx:={ X with xe:=E }
noncomputable abbrev Cx.nox (X:Cx):Cx:=X.wish fun _ _=>False
theorem Cx.Ok.wish {X:Cx} (ok:X.Ok) (E:Value->Shared->Prop):(X.wish E).Ok :=
  ⟨ok.mod,ok.kind,ok.glob,ok.blt,ok.above,ok.inj,ok.has,ok.cab,ok.hd,ok.frames,ok.stk,ok.exf,ok.bs,ok.bsz,ok.noex,ok.exfs,ok.funs,ok.frf⟩
theorem Cx.Ok.jaL {X:Cx} {E:Value->Shared->Prop} (ok:(X.wish E).Ok):X.Ok :=
  ⟨ok.mod,ok.kind,ok.glob,ok.blt,ok.above,ok.inj,ok.has,ok.cab,ok.hd,ok.frames,ok.stk,ok.exf,ok.bs,ok.bsz,ok.noex,ok.exfs,ok.funs,ok.frf⟩
section
variable {X:Cx} {pins:List (Addr × Obj)} {σ:St} {H:Hp} {s:Shared} {E:Value->Shared->Prop}
theorem Inv.wish (I:Inv X pins σ H s) (E:Value->Shared->Prop):Inv (X.wish E) pins σ H s:=⟨I.ok.wish E,I.os,I.bare,I.base,I.loc,I.cell,I.free,I.freeC,I.pin,I.hok,I.len⟩
theorem Inv.jaL (I:Inv (X.wish E) pins σ H s):Inv X pins σ H s:=⟨I.ok.jaL,I.os,I.bare,I.base,I.loc,I.cell,I.free,I.freeC,I.pin,I.hok,I.len⟩
theorem SP.jaL {D:Ends} {f:Flow} {s':Shared} (h:SP (X.wish E) pins D f s'):SP X pins D f s':=by
  cases f with
  | next=>obtain ⟨σ',H',I,q⟩:=h; exact ⟨σ',H',I.jaL,q⟩
  | brk=>obtain ⟨σ',H',I,q⟩:=h; exact ⟨σ',H',I.jaL,q⟩
  | cont=>obtain ⟨σ',H',I,q⟩:=h; exact ⟨σ',H',I.jaL,q⟩
  | ret u=>obtain ⟨v,σ',H',I,r,q⟩:=h; exact ⟨v,σ',H',I.jaL,r,q⟩
theorem PSs.nox {st:List Stmt} {t:TS} (h:PSs X.nox st t):PSs X st t:=fun pins s σ H D I hw =>
  wpAny_mono (h pins s σ H D (I.wish _) hw) (fun _ _ q=>q.jaL) fun _ _ z=>False.elim z
end
section
variable {X:Cx} {st:Stmt} {rest:List Stmt} {t u:TS} {e:Expr} {te:TE} {pos:Pos}
noncomputable def tNext:TS:=fun D σ H=>D.nx σ H
noncomputable def tSeq (t u:TS):TS:=fun D σ H=>t { D with nx:=u D } σ H
theorem jL:PSs X [] tNext:=fun _ _ σ H _ I h=>wpAny_execs_nil ⟨σ,H,I,h⟩
theorem jk (h1:PS X st t) (h2:PSs X rest u):PSs X (st :: rest) (tSeq t u):=by
  intro pins s σ H D I h
  refine wpAny_execs_cons (thn (h1 pins s σ H { D with nx:=u D } I h) fun f s1 q=>?_)
  cases f with
  | next =>
    obtain ⟨σ',H',I',q⟩:=q
    exact h2 pins s1 σ' H' D I' q
  | ret v=>exact q
  | brk=>exact q
  | cont=>exact q
theorem jn (h1:PS X st t):PSs X [st] t:=by
  intro pins s σ H D I h
  refine wpAny_execs_cons (thn (h1 pins s σ H D I h) fun f s1 q=>?_)
  cases f with
  | next=>exact wpAny_execs_nil q
  | ret v=>exact q
  | brk=>exact q
  | cont=>exact q
theorem Inv.quiet {pins:List (Addr × Obj)} {σ:St} {H:Hp} {s:Shared} (I:Inv X pins σ H s):interactive X.env = false:=by simp [interactive,I.ok.kind]
noncomputable def tDrop (te:TE):TS:=fun D σ H=>te σ H fun _ H1=>D.nx σ H1
theorem JQ (he:PE X e te) (hs:swapsWith e none pos.line X.env = pure false:=by rfl):PS X (.Expr e pos) (tDrop te):=by
  intro pins s σ H D I h
  exact wpAny_Expr_any (thn (he pins s σ H _ I h) fun v s1 ⟨x,H1,I1,r1,q1⟩=>⟨σ,H1,I1,q1⟩) I.quiet hs
noncomputable def tRet (te:TE):TS:=fun D σ H=>te σ H D.rt
theorem jG (he:PE X e te):PS X (.Return (some e) pos) (tRet te):=by
  intro pins s σ H D I h
  exact wpAny_Return_some (thn (he pins s σ H _ I h) fun v s1 ⟨x,H1,I1,r1,q1⟩=>⟨x,σ,H1,I1,r1,q1⟩)
noncomputable def tIfS (c:TT) (t u:TS):TS:=fun D σ H=>c σ H fun b H1=>if b = true then t D σ H1 else u D σ H1
theorem j8 {c:Expr} {a b:List Stmt} {tc:TT} (hc:PT X c tc) (ha:PSs X a t) (hb:PSs X b u):PS X (.If c a b pos) (tIfS tc t u):=by
  intro pins s σ H D I h
  refine wpAny_If (thn (hc pins s σ H _ I h) fun d s1 zz=>?_)
  obtain ⟨H1,I1,q1⟩:=zz
  cases d with
  | true=>exact ha pins s1 σ H1 D I1 q1
  | false=>exact hb pins s1 σ H1 D I1 q1
noncomputable def tNever:TS:=fun _ _ _=>False
theorem JB:PS X st tNever:=fun _ _ _ _ _ _ h=>h.elim
end
noncomputable abbrev TG:=V->St->Hp->(St->Hp->Prop)->Prop
noncomputable abbrev TGs:=List V->St->Hp->(St->Hp->Prop)->Prop
noncomputable def PG (X:Cx) (target:Expr) (t:TG):Prop :=
  ∀ (pins:List (Addr × Obj)) (s:Shared) (σ:St) (H:Hp) (v:V) (u:Value) (Q:St->Hp->Prop),Inv X pins σ H s->RelV v u->t v σ H Q ->
    wpAny (model X.prog X.w) X.A (assign target X.env u) (fun _ s'=>∃ σ' H',Inv X pins σ' H' s' /\ Q σ' H') X.xe s
noncomputable def PGs (X:Cx) (ts:List Expr) (t:TGs):Prop :=
  ∀ (pins:List (Addr × Obj)) (s:Shared) (σ:St) (H:Hp) (vs:List V) (us:List Value) (Q:St->Hp->Prop),Inv X pins σ H s->Vals vs us->t vs σ H Q ->
    wpAny (model X.prog X.w) X.A (assignInOrder ((assignEach ts X.env).map (·.2)) us) (fun _ s'=>∃ σ' H',Inv X pins σ' H' s' /\ Q σ' H') X.xe s
section
variable {X:Cx} {pos:Pos}
noncomputable def Ye (i:Nat):TG:=fun v σ H Q=>Q (σ.set i (some v)) H
theorem jP {i:Nat} {x:Str} (hN:X.N.Nodup) (hi:X.N[i]? = some x) (hx:Loc X.env.scope x) (hf:X.fn x = true ∨ X.env.scope.names.lookup x = some .local:=by first | exact .inl rfl | exact .inr rfl | assumption):PG X (.Name x pos) (Ye i):=by
  intro pins s σ H v u Q I r h
  exact wpAny_assign_Name (jh5 I hN hi hx r (fun s' I'=>⟨_,H,I',h⟩) hf)
noncomputable def gNil:TGs:=fun vs σ H Q=>vs = [] /\ Q σ H
noncomputable def jgl (t:TG) (u:TGs):TGs:=fun vs σ H Q=>∃ v r,vs = v :: r /\ t v σ H fun σ' H'=>u r σ' H' Q
theorem Yg:PGs X [] gNil:=by
  intro pins s σ H vs us Q I r h
  obtain ⟨e,h⟩:=h
  subst e
  cases r
  exact assignInOrder_nil ⟨σ,H,I,h⟩
theorem JL {e:Expr} {es:List Expr} {t:TG} {u:TGs} (h1:PG X e t) (h2:PGs X es u)
    (hs:(assignEach (e :: es) X.env).map (·.2) = assign e X.env :: (assignEach es X.env).map (·.2):=by rfl):PGs X (e :: es) (jgl t u):=by
  intro pins s σ H vs us Q I r h
  obtain ⟨v,vr,e1,h⟩:=h
  subst e1
  cases r with
  | cons r rr =>
    rw [hs]
    refine assignInOrder_cons (thn (h1 pins s σ H _ _ _ I r h) fun _ s1 zz=>?_)
    obtain ⟨σ1,H1,I1,q1⟩:=zz
    exact h2 pins s1 σ1 H1 _ _ Q I1 rr q1
noncomputable def gTup (K:PySem.W.Frag) (n:Nat) (t:TGs):TG:=fun v σ H Q=>∃ a xs,v = .ref a /\ SqT K H a xs /\ xs.length = n /\ t xs σ H Q
theorem Zh {es:List Expr} {k:Nat} {t:TGs} {n:Nat} (hc:X.calm = true) (h:PGs X es t)
    (hn:(assignEach es X.env).length = n:=by rfl) (hst:(assignEach es X.env).findIdx? (·.1) = none:=by rfl):PG X (.Tuple es k pos) (gTup X.K n t):=by
  intro pins s σ H v u Q I r hw
  obtain ⟨a,xs,e1,hq,hl,hw⟩:=hw
  subst e1
  cases r
  obtain ⟨its,rv,ht,hz⟩:=I.tuple hq
  refine assign_Tuple_tuple (I.ok.hd hc) ht (by simp [hn,<- hl,rv.length]) hst fun h' hx=>?_
  have I1:Inv X pins σ H { s with heap:=h' }:=I.kept (t':=s.toks) fun b o e=>hx b o (Nat.ne_of_lt (Heap.lt_size e)) e
  exact h pins _ σ H xs _ Q I1 (by simpa using rv) hw
noncomputable def tAsg (te:TE) (g:TG):TS:=fun D σ H=>te σ H fun x H1=>g x σ H1 D.nx
theorem jhd {tg e:Expr} {te:TE} {g:TG} (he:PE X e te) (hg:PG X tg g) (hs:swapsWithSole [tg] e pos.line X.env = pure false:=by rfl) (hw:swappedStores [tg] e X.env = pure none:=by rfl)
    (h1:(assignEach [tg] X.env).map (·.2) = [assign tg X.env]:=by rfl):PS X (.Assign [tg] e pos) (tAsg te g):=by
  intro pins s σ H D I h
  refine wpAny_Assign_stores (thn (he pins s σ H _ I h) fun v s1 zz=>?_) hs hw
  obtain ⟨x,H1,I1,r1,q1⟩:=zz
  rw [h1]
  exact thn (hg pins s1 σ H1 x v _ I1 r1 q1) fun _ s2 q=>q
theorem jO {i:Nat} {x:Str} {e:Expr} {te:TE} {pos':Pos} (hN:X.N.Nodup) (hi:X.N[i]? = some x) (hx:Loc X.env.scope x) (he:PE X e te) (hs:swapsWith e (some (.Name x pos')) pos.line X.env = pure false:=by rfl) (hf:X.fn x = true ∨ X.env.scope.names.lookup x = some .local:=by first | exact .inl rfl | exact .inr rfl | assumption) :
    PS X (.Assign [.Name x pos'] e pos) (tAsg te (Ye i)):=by
  intro pins s σ H D I h
  refine wpAny_Assign_Name (thn (he pins s σ H _ I h) fun v s1 zz=>?_) hs
  obtain ⟨y,H1,I1,r1,q1⟩:=zz
  exact jh5 I1 hN hi hx r1 (fun s2 I2=>⟨_,H1,I2,q1⟩) hf
end
section
variable {X:Cx} {pos:Pos}
end
structure It where
  go:Nat->Hp->Prop
  yld:Nat->Hp->V->Hp->Prop
  stop:Nat->Hp->Prop
noncomputable def FpOk (X:Cx) (pins:List (Addr × Obj)) (H:Hp) (b:Addr):Prop :=
  H b = none /\ b ≠ X.env.locals /\ b ∉ X.fs /\ (b ∈ X.ex ∨ X.s₀.heap.objs.size <= b) /\ (∀ x c,X.env.cells.lookup x = some c->c ≠ b) /\ ∀ p ∈ X.pn ++ pins,p.1 ≠ b
theorem Inv.fpOk {X:Cx} {pins:List (Addr × Obj)} {σ:St} {H H':Hp} {s:Shared} {b:Addr} (I:Inv X pins σ H s) (hb:s.heap.objs.size <= b) (hn:H' b = none):FpOk X pins H' b:=by
  refine ⟨hn,Nat.ne_of_gt (Nat.lt_of_lt_of_le I.lt hb),I.nofs hb,.inr (Nat.le_trans I.sz hb),fun x c e z=>?_,fun p hp z=>?_⟩
  · obtain ⟨v,q⟩:=I.cell x c e
    exact absurd (Nat.lt_of_lt_of_le q.lt (by rw [z]; exact hb)) (Nat.lt_irrefl _)
  · exact absurd (Nat.lt_of_lt_of_le (Heap.lt_size (I.pin p hp).1) (by rw [z]; exact hb)) (Nat.lt_irrefl _)
structure Turn (P:Program) (w:World) (K:PySem.W.Frag) (tg:Expr) (J:It) (fp:List Addr) (it:Addr) (tn:Nat->Heap->Prop):Prop where
  mem:it ∈ fp
  obj:∀ i h,tn i h->∀ b ∈ fp,∃ o,h.get? b = some o /\ ∀ v,o.data ≠ .cell v
  keep:∀ i h h',tn i h->(∀ b ∈ fp,∀ o,h.get? b = some o->h'.get? b = some o)->tn i h'
  item:∀ (X:Cx),X.prog = P->X.w = w->X.K = K->X.calm = true->∀ (i:Nat) (pins:List (Addr × Obj)) (s:Shared) (σ:St) (H:Hp) (E:Value->Shared->Prop),Inv X pins σ H s->(∀ b ∈ fp,FpOk X pins H b)->tn i s.heap->J.go i H ->
    wpAny (model P w) X.A (pyNext (.ref it)) (fun r s1=>∃ u,r = some u /\
      wpAny (model P w) X.A (letOwnedTupleGo tg (.ref it) u) (fun _ s2=>∃ x H',Inv X pins σ H' s2 /\ RelV x u /\ J.yld i H x H' /\ tn (i + 1) s2.heap /\ ∀ b ∈ fp,H' b = none) E s1) E s
  done:∀ (X:Cx),X.prog = P->X.w = w->X.K = K->X.calm = true->∀ (i:Nat) (pins:List (Addr × Obj)) (s:Shared) (σ:St) (H:Hp) (E:Value->Shared->Prop),Inv X pins σ H s->(∀ b ∈ fp,FpOk X pins H b)->tn i s.heap->J.stop i H ->
    wpAny (model P w) X.A (pyNext (.ref it)) (fun r s1=>r = none /\ Inv X pins σ H s1) E s
  self:∀ (A:Around) (i:Nat) (s:Shared) (Q:Value->Shared->Prop) (E:Value->Shared->Prop),tn i s.heap->Q (.ref it) s->wpAny (model P w) A (pyIter (.ref it)) Q E s
noncomputable abbrev TI:=St->Hp->(It->Hp->Prop)->Prop
noncomputable def PIE (X:Cx) (pins:List (Addr × Obj)) (σ:St) (tg:Expr) (R:It->Hp->Prop) (itv:Value) (s2:Shared):Prop :=
  ∃ (it:Addr) (fp:List Addr) (tn:Nat->Heap->Prop) (J:It) (H':Hp),itv = .ref it /\ Inv X pins σ H' s2 /\ Turn X.prog X.w X.K tg J fp it tn /\ tn 0 s2.heap /\ (∀ b ∈ fp,FpOk X pins H' b) /\ R J H'
noncomputable def PI (X:Cx) (tg iter:Expr) (wi:TI):Prop :=
  ∀ (pins:List (Addr × Obj)) (s:Shared) (σ:St) (H:Hp) (R:It->Hp->Prop),Inv X pins σ H s->wi σ H R ->
    wpAny (model X.prog X.w) X.A (eval iter X.env) (fun v s1=>wpAny (model X.prog X.w) X.A (pyIter v) (PIE X pins σ tg R) X.xe s1) X.xe s
theorem go_of {M:Model} {A:Around} {E:Value->Shared->Prop} {s:Shared} {tg:Expr} {it:Addr} {u:Value} {o:Obj} {n:String} {vs:Array Value} {Q:Unit->Shared->Prop} (ho:s.heap.get? it = some o) (hc:o.cls = .type n) (hd:o.data = .fields vs)
    (hn:["enumerate", "zip", "dict_itemiterator", "dict_reverseitemiterator", "odict_iterator", "itertools.zip_longest", "itertools.pairwise"].contains n = false) (hQ:Q () s):wpAny M A (letOwnedTupleGo tg (.ref it) u) Q E s:=by
  unfold letOwnedTupleGo
  cases tg <;> first
    | exact wpAny_pure hQ
    | (cases u <;> first
        | exact wpAny_pure hQ
        | (refine wpAny_bind (wpAny_load ho ?_)
           rw [hc,hd]
           show wpAny M A (if (["enumerate", "zip", "dict_itemiterator", "dict_reverseitemiterator", "odict_iterator", "itertools.zip_longest", "itertools.pairwise"].contains n && vs[0]? == some (rawInt _)) = true then _ else _) Q E s
           rw [if_neg (by intro h; rw [hn,Bool.false_and] at h; cases h)]
           exact wpAny_pure hQ))
noncomputable def Itl (K:PySem.W.Frag) (a:Addr):It :=
  ⟨fun i H=>∃ xs x,SqL K H a xs /\ xs[i]? = some x,fun i H x H'=>H' = H /\ ∀ xs,SqL K H a xs->xs[i]? = some x,fun i H=>∃ xs,SqL K H a xs /\ xs.length <= i⟩
noncomputable def Itr (lo:Int) (n:Nat):It:=⟨fun i _=>i < n,fun i H x H'=>H' = H /\ x = .int (lo + i),fun i _=>n <= i⟩
theorem jj9 {P:Program} {w:World} {K:PySem.W.Frag} {tg:Expr} (a it:Addr):Turn P w K tg (Itl K a) [it] it (fun i h=>h.IsListIter it a i) where
  mem:=by simp
  obj:=fun i h st b hb=>by
    have e:b = it:=by simpa using hb
    subst e
    obtain ⟨o,e,c,d⟩:=st
    exact ⟨o,e,fun v z=>by rw [d] at z; cases z⟩
  keep:=fun i h h' st k=>st.at fun o e=>k it (by simp) o e
  item:=by
    intro X hP hw hK hc i pins s σ H E I hf st hg
    subst hP hw hK
    obtain ⟨xs,x,hq,hx⟩:=hg
    obtain ⟨its,rv,p,hz⟩:=I.list hq
    obtain ⟨u,hu,ru⟩:=rv.get hx
    obtain ⟨f0,f1,f2,f3,f4,f5⟩:=hf it (by simp)
    refine wpAny_pyNext_list_item st p.isList (x:=u) (by simpa using hu) fun h' st' sb=>?_
    have I1:Inv X pins σ H { s with heap:=h' }:=I.turned (t':=s.toks) (fun b o hb e=>(sb.2 b hb).trans e) f0 f1 f3 f4 f5
    obtain ⟨o,e,c,d⟩:=id st'
    exact ⟨u,rfl,go_of (s:={ s with heap:=h' }) e c d (by decide) ⟨x,H,I1,ru,⟨rfl,fun ys hy=>by rw [I.jcN hy hq]; exact hx⟩,st',fun b hb=>(hf b hb).1⟩⟩
  done:=by
    intro X hP hw hK hc i pins s σ H E I hf st hg
    subst hP hw hK
    obtain ⟨xs,hq,hx⟩:=hg
    obtain ⟨its,rv,p,hz⟩:=I.list hq
    obtain ⟨f0,f1,f2,f3,f4,f5⟩:=hf it (by simp)
    have hl:=rv.length
    exact wpAny_pyNext_list_end (I.ok.hd hc) st p.isList (by simp; omega) fun h' eb=>⟨rfl,I.turned (t':=s.toks) (fun b o hb e=>eb b o hb e) f0 f1 f3 f4 f5⟩
  self:=fun _ _ _ _ _ st h=>wpAny_pyIter_listiter st h
theorem jiX {P:Program} {w:World} {K:PySem.W.Frag} {tg:Expr} (it:Addr) (lo:Int) (n:Nat):Turn P w K tg (Itr lo n) [it] it (fun i h=>IsRangeIter h it (lo + (i:Nat) * 1) ((n:Int) - (i:Nat)) 1) where
  mem:=by simp
  obj:=fun i h st b hb=>by
    have e:b = it:=by simpa using hb
    subst e
    exact ⟨_,st,fun v z=>by
      have z':Data.fields _ = Data.cell v:=z
      cases z'⟩
  keep:=fun i h h' st k=>k it (by simp) _ st
  item:=by
    intro X hP hw hK hc i pins s σ H E I hf st hg
    subst hP hw hK
    obtain ⟨f0,f1,f2,f3,f4,f5⟩:=hf it (by simp)
    have W:=Walks.range (prog:=X.prog) (w:=X.w) (I.ok.hd hc) it lo 1 n
    refine W.item i s _ _ hg st fun v h' tk hv st' kk=>?_
    obtain ⟨t,rfl⟩:=hv
    have I1:Inv X pins σ H { s with heap:=h',toks:=tk }:=I.turned (fun b o hb e=>kk b o (by simpa using hb) e) f0 f1 f3 f4 f5
    refine ⟨_,rfl,go_of (s:={ s with heap:=h',toks:=tk }) (n := "range_iterator") st' rfl rfl (by decide) ⟨.int (lo + i),H,I1,⟨t,?_⟩,⟨rfl,rfl⟩,st',fun b hb=>(hf b hb).1⟩⟩
    rw [Int.mul_one]
  done:=by
    intro X hP hw hK hc i pins s σ H E I hf st hg
    subst hP hw hK
    obtain ⟨f0,f1,f2,f3,f4,f5⟩:=hf it (by simp)
    exact wpAny_pyNext_range_end (I.ok.hd hc) st (by have:n <= i:=hg; omega) fun h' eb=>⟨rfl,I.turned (t':=s.toks) (fun b o hb e=>eb b o hb e) f0 f1 f3 f4 f5⟩
  self:=fun _ _ _ _ _ st h=>wpAny_pyIter_rangeiter st h
end L2
namespace L2
open PySem PySem.Spec PyProof.Rows
section
variable {X:Cx} {tg:Expr}
noncomputable def iList (K:PySem.W.Frag) (tl:TE):TI:=fun σ H R=>tl σ H fun x H1=>∃ a,x = .ref a /\ (∃ xs,SqL K H1 a xs) /\ R (Itl K a) H1
theorem JF {l:Expr} {tl:TE} (hl:PE X l tl):PI X tg l (iList X.K tl):=by
  intro pins s σ H R I h
  refine thn (hl pins s σ H _ I h) fun v s1 zz=>?_
  obtain ⟨x,H1,I1,r1,q1⟩:=zz
  obtain ⟨a,e,⟨xs,hq⟩,q⟩:=q1
  subst e
  cases r1
  obtain ⟨its,rv,p,hz⟩:=I1.list hq
  refine wpAny_pyIter_list p.isList ?_
  refine ⟨s1.heap.objs.size,[s1.heap.objs.size],_,_,H1,rfl,I1.kept (t':=s1.toks) fun b o e=>Heap.get?_push_of_some _ e,jj9 a _,⟨_,Heap.get?_push_size _ rfl,rfl,rfl⟩,fun b hb=>?_,q⟩
  have e:b = s1.heap.objs.size:=by simpa using hb
  subst e
  exact I1.fpOk (Nat.le_refl _) (I1.hok.fresh (Nat.le_refl _))
theorem range_it {pins:List (Addr × Obj)} {σ:St} {H:Hp} {s:Shared} {R:It->Hp->Prop} {E:Value->Shared->Prop} {lo hi:Int} {t u v:Tok} {tk:Nat} (I:Inv X pins σ H s) (h1:-(2 ^ 62) <= lo) (h2:lo < 2 ^ 62) (h3:-(2 ^ 62) <= hi) (h4:hi < 2 ^ 62)
    (q:R (Itr lo (hi - lo).toNat) H):wpAny (model X.prog X.w) X.A (pyIter (.ref s.heap.objs.size)) (PIE X pins σ tg R) E { s with heap:=s.heap.push { cls:=.type "range",data:=.fields #[.int lo t,.int hi u,.int 1 v] },toks:=tk }:=by
  refine wpAny_pyIter_range (IsRange.new ..) (small_one h1 h2 h3 h4) ?_
  have I1:Inv X pins σ H { s with heap:=s.heap.push { cls:=.type "range",data:=.fields #[.int lo t,.int hi u,.int 1 v] },toks:=tk }:=I.kept fun b o e=>Heap.get?_push_of_some _ e
  refine ⟨(s.heap.push { cls:=.type "range",data:=.fields #[.int lo t,.int hi u,.int 1 v] }).objs.size,[(s.heap.push { cls:=.type "range",data:=.fields #[.int lo t,.int hi u,.int 1 v] }).objs.size],_,_,H,rfl,
    I1.kept (t':=tk) fun b o e=>Heap.get?_push_of_some _ e,jiX _ lo (hi - lo).toNat,?_,fun b hb=>?_,q⟩
  · have e1:lo + ((0:Nat):Int) * 1 = lo:=by simp
    have e2:(((hi - lo).toNat:Nat):Int) - ((0:Nat):Int) = Builtin.Range.rangeSize lo hi 1:=by rw [rangeSize_one]; split <;> omega
    show IsRangeIter _ _ (lo + ((0:Nat):Int) * 1) ((((hi - lo).toNat:Nat):Int) - ((0:Nat):Int)) 1
    rw [e1,e2]
    exact Heap.get?_push_size _ rfl
  · have e:b = (s.heap.push { cls:=.type "range",data:=.fields #[.int lo t,.int hi u,.int 1 v] }).objs.size:=by simpa using hb
    subst e
    exact I1.fpOk (Nat.le_refl _) (I1.hok.fresh (Nat.le_refl _))
noncomputable def iRng1 (ta:TA):TI:=fun σ H R=>ta σ H fun vs H1=>∃ j:Int,vs = [.int j] /\ -(2 ^ 62) <= j /\ j < 2 ^ 62 /\ R (Itr 0 j.toNat) H1
theorem Ji {a:Expr} {ta:TA} {p pos:Pos} (hg:Gl X "range") (hm:X.mg "range" = none) (ha:PA X [a] ta) (hs:starEach [a] X.env = [(false,eval a X.env)]:=by rfl):PI X tg (.Call (.Name "range" p) [a] [] pos) (iRng1 ta):=by
  intro pins s σ H R I h
  refine Call_ (ZJ I hg hm boot_range (PyProof.Rows.callWith_type1 (thn (ha pos pins s σ H _ I h) fun us s1 zz=>?_) hs rfl))
  obtain ⟨vs,H1,I1,r1,q1⟩:=zz
  obtain ⟨j,e,q1,q2,q⟩:=q1
  subst e
  cases r1 with
  | cons r rr =>
    cases rr
    obtain ⟨t,rfl⟩:=r
    exact call_range_1 (range_it I1 (by omega) (by omega) q1 q2 (by simpa using q))
noncomputable def tFor (wi:TI) (g:TG) (tb:TS):TS:=fun D σ H=>wi σ H fun J H1=>∃ W:Nat->Nat->St->Hp->Prop,(∃ m,W 0 m σ H1) /\ ∀ i m σ H,W i m σ H ->
  (J.stop i H /\ D.nx σ H) ∨ (J.go i H /\ ∃ N:St->Hp->Prop,(∀ σ' H',N σ' H'->∃ m',m' < m /\ W (i + 1) m' σ' H') /\ ∀ x H',J.yld i H x H'->g x σ H' fun σ2 H2=>tb { D with nx:=N,ct:=N,bk:=D.nx } σ2 H2)
noncomputable def jfk (fp:List Addr) (h:Heap):List (Addr × Obj):=fp.filterMap fun b=>(h.get? b).map fun o=>(b,o)
theorem jax {fp:List Addr} {h:Heap} {b:Addr} {o:Obj} (hb:b ∈ fp) (e:h.get? b = some o):(b,o) ∈ jfk fp h:=List.mem_filterMap.mpr ⟨b,hb,by rw [e]; rfl⟩
theorem jjO {fp:List Addr} {h:Heap} {p:Addr × Obj} (hp:p ∈ jfk fp h):p.1 ∈ fp /\ h.get? p.1 = some p.2:=by
  obtain ⟨b,hb,e⟩:=List.mem_filterMap.mp hp
  cases q:h.get? b with
  | none=>rw [q] at e; cases e
  | some o =>
    rw [q] at e
    have e':(b,o) = p:=Option.some.inj e
    subst e'
    exact ⟨hb,q⟩
theorem Inv.pinned {pins:List (Addr × Obj)} {σ:St} {H:Hp} {s:Shared} {fp:List Addr} (I:Inv X pins σ H s) (hf:∀ b ∈ fp,FpOk X pins H b) (ho:∀ b ∈ fp,∃ o,s.heap.get? b = some o /\ ∀ v,o.data ≠ .cell v):Inv X (pins ++ jfk fp s.heap) σ H s :=
  I.jjh fun p hp=>(List.mem_append.mp hp).elim (fun z=>I.pin p (List.mem_append_right _ z)) fun z=>by
    obtain ⟨hb,e⟩:=jjO z
    obtain ⟨f0,f1,f2,_⟩:=hf p.1 hb
    obtain ⟨o,e',d⟩:=ho p.1 hb
    rw [e] at e'; cases e'
    exact ⟨e,f0,f1,f2,d⟩
theorem Inv.jc7 {pins pl:List (Addr × Obj)} {σ:St} {H:Hp} {s:Shared} (I:Inv X (pins ++ pl) σ H s):Inv X pins σ H s:=I.jjh fun p hp=>I.pin p (List.mem_append_right _ (List.mem_append_left _ hp))
theorem J4 {iter:Expr} {body:List Stmt} {wi:TI} {g:TG} {tb:TS} {pos:Pos} (hp:PassesOwn (model X.prog X.w) X.A X.env X.xe) (hc:X.calm = true) (hi:PI X tg iter wi) (hg:PG X tg g) (hb:PSs X body tb)
    (hs:∀ x,foldedSetIterable iter X.env x = pure x:=by intro _; rfl):PS X (.For tg iter body [] pos) (tFor wi g tb):=by
  intro pins s σ H D I h
  refine wpAny_For (thn (hi pins s σ H _ I h) fun v s1 h1=>thn h1 fun itv s2 h2=>?_) hs
  obtain ⟨it,fp,tn,J,H2,e,I2,T,st2,f2,W,⟨m0,w0⟩,turn⟩:=h2
  subst e
  have stat:∀ {H':Hp},(∀ b ∈ fp,H' b = none)->∀ b ∈ fp,FpOk X pins H' b:=fun hn b hb=>⟨hn b hb,(f2 b hb).2⟩
  refine codeAny_forLoop_any (fun n s'=>∃ i σ' H',Inv X pins σ' H' s' /\ tn i s'.heap /\ (∀ b ∈ fp,H' b = none) /\ W i n σ' H') ?_ m0 ⟨0,σ,H2,I2,st2,fun b hb=>(f2 b hb).1,w0⟩
  rintro n s3 ⟨i,σ3,H3,I3,st3,fr3,w3⟩
  rcases turn i n σ3 H3 w3 with ⟨stop,qn⟩ | ⟨go,N,hN,step⟩
  · refine wpAny_passesOwn hp (thn (T.done X rfl rfl rfl hc i pins s3 σ3 H3 X.xe I3 (stat fr3) st3 stop) fun r s4 zz=>?_)
    obtain ⟨hr,I4⟩:=zz
    subst hr
    exact wpAny_execs_nil ⟨σ3,H3,I4,qn⟩
  · refine wpAny_passesOwn hp (thn (T.item X rfl rfl rfl hc i pins s3 σ3 H3 X.xe I3 (stat fr3) st3 go) fun r s4 zz=>?_)
    obtain ⟨u,hr,h4⟩:=zz
    subst hr
    refine wpAny_passesOwn hp (thn h4 fun _ s5 zz=>?_)
    obtain ⟨x,H5,I5,r5,y5,st5,fr5⟩:=zz
    have I5':=I5.pinned (stat fr5) (T.obj _ _ st5)
    refine wpAny_passesOwn hp (thn (hg _ s5 σ3 H5 x u _ I5' r5 (step x H5 y5)) fun _ s6 zz=>?_)
    obtain ⟨σ6,H6,I6,q6⟩:=zz
    refine wpAny_passesOwn hp (thn (hb _ s6 σ6 H6 _ I6 q6) fun f s7 q7=>?_)
    have again:∀ {σ7:St} {H7:Hp},Inv X (pins ++ jfk fp s5.heap) σ7 H7 s7->N σ7 H7->∃ m,m < n /\ ∃ i σ' H',Inv X pins σ' H' s7 /\ tn i s7.heap /\ (∀ b ∈ fp,H' b = none) /\ W i m σ' H':=fun {σ7 H7} I7 n7=>by
      obtain ⟨m',hm,w7⟩:=hN σ7 H7 n7
      refine ⟨m',hm,i + 1,σ7,H7,I7.jc7,T.keep _ _ _ st5 fun b hb o e=>(I7.pin (b,o) (List.mem_append_right _ (List.mem_append_right _ (jax hb e)))).1,fun b hb=>?_,w7⟩
      obtain ⟨o,e,d⟩:=T.obj _ _ st5 b hb
      exact (I7.pin (b,o) (List.mem_append_right _ (List.mem_append_right _ (jax hb e)))).2.1
    cases f with
    | next=>obtain ⟨σ7,H7,I7,n7⟩:=q7; exact again I7 n7
    | cont=>obtain ⟨σ7,H7,I7,n7⟩:=q7; exact again I7 n7
    | brk=>obtain ⟨σ7,H7,I7,q7⟩:=q7; exact ⟨σ7,H7,I7.jc7,q7⟩
    | ret v=>obtain ⟨x7,σ7,H7,I7,r7,q7⟩:=q7; exact ⟨x7,σ7,H7,I7.jc7,r7,q7⟩
end
theorem Yd {K:PySem.W.Frag} {a:Addr} {xs:List V} {g:TG} {tb:TS} {D:Ends} {σ:St} {H:Hp} (Pv:Nat->St->Hp->Prop) (h0:Pv 0 σ H) (hl:∀ i σ H,i <= xs.length->Pv i σ H->SqL K H a xs)
    (hs:∀ i x σ H,xs[i]? = some x->Pv i σ H->g x σ H fun σ2 H2=>tb { D with nx:=Pv (i + 1),ct:=Pv (i + 1),bk:=D.nx } σ2 H2) (hd:∀ σ H,Pv xs.length σ H->D.nx σ H) :
    ∃ W:Nat->Nat->St->Hp->Prop,(∃ m,W 0 m σ H) /\ ∀ i m σ H,W i m σ H ->
      ((Itl K a).stop i H /\ D.nx σ H) ∨ ((Itl K a).go i H /\ ∃ N:St->Hp->Prop,(∀ σ' H',N σ' H'->∃ m',m' < m /\ W (i + 1) m' σ' H') /\ ∀ x H',(Itl K a).yld i H x H'->g x σ H' fun σ2 H2=>tb { D with nx:=N,ct:=N,bk:=D.nx } σ2 H2):=by
  refine ⟨fun i m σ H=>m = xs.length - i /\ i <= xs.length /\ Pv i σ H,⟨xs.length,by simp,Nat.zero_le _,h0⟩,?_⟩
  rintro i m σ H ⟨rfl,hi,p⟩
  have q:=hl i σ H hi p
  by_cases hlt:i < xs.length
  · refine .inr ⟨⟨xs,xs[i],q,by simp [hlt]⟩,Pv (i + 1),fun σ' H' p'=>⟨xs.length - (i + 1),by omega,rfl,hlt,p'⟩,fun x H' y=>?_⟩
    obtain ⟨e,y⟩:=y
    subst e
    exact hs i x σ _ (y xs q) p
  · have e:i = xs.length:=by omega
    subst e
    exact .inl ⟨⟨xs,q,Nat.le_refl _⟩,hd σ H p⟩
theorem Q3 {lo:Int} {n:Nat} {g:TG} {tb:TS} {D:Ends} {σ:St} {H:Hp} (Pv:Nat->St->Hp->Prop) (h0:Pv 0 σ H)
    (hs:∀ i σ H,i < n->Pv i σ H->g (.int (lo + i)) σ H fun σ2 H2=>tb { D with nx:=Pv (i + 1),ct:=Pv (i + 1),bk:=D.nx } σ2 H2) (hd:∀ σ H,Pv n σ H->D.nx σ H) :
    ∃ W:Nat->Nat->St->Hp->Prop,(∃ m,W 0 m σ H) /\ ∀ i m σ H,W i m σ H ->
      ((Itr lo n).stop i H /\ D.nx σ H) ∨ ((Itr lo n).go i H /\ ∃ N:St->Hp->Prop,(∀ σ' H',N σ' H'->∃ m',m' < m /\ W (i + 1) m' σ' H') /\ ∀ x H',(Itr lo n).yld i H x H'->g x σ H' fun σ2 H2=>tb { D with nx:=N,ct:=N,bk:=D.nx } σ2 H2):=by
  refine ⟨fun i m σ H=>m = n - i /\ i <= n /\ Pv i σ H,⟨n,by simp,Nat.zero_le _,h0⟩,?_⟩
  rintro i m σ H ⟨rfl,hi,p⟩
  by_cases hlt:i < n
  · refine .inr ⟨hlt,Pv (i + 1),fun σ' H' p'=>⟨n - (i + 1),by omega,rfl,hlt,p'⟩,fun x H' y=>?_⟩
    obtain ⟨e,y⟩:=y
    subst e y
    exact hs i σ _ hlt p
  · have e:i = n:=by omega
    subst e
    exact .inl ⟨Nat.le_refl _,hd σ H p⟩
end L2
namespace L2
open PySem PySem.Spec PyProof.Rows
noncomputable abbrev R2:=V->V->Hp->VK->Prop
noncomputable def OpR (X:Cx) (f:Value->Value->Sem Value) (r:R2):Prop :=
  ∀ (pins:List (Addr × Obj)) (s:Shared) (σ:St) (H:Hp) (x y:V) (v u:Value) (Q:VK),Inv X pins σ H s->RelV x v->RelV y u->r x y H Q ->
    wpAny (model X.prog X.w) X.A (f v u) (EP X pins σ Q) X.xe s
noncomputable def UnR (X:Cx) (f:Value->Sem Value) (r:V->Hp->VK->Prop):Prop :=
  ∀ (pins:List (Addr × Obj)) (s:Shared) (σ:St) (H:Hp) (x:V) (v:Value) (Q:VK),Inv X pins σ H s->RelV x v->r x H Q ->
    wpAny (model X.prog X.w) X.A (f v) (EP X pins σ Q) X.xe s
noncomputable def yl (X:Cx) (f:Value) (r:List V->Hp->VK->Prop):Prop :=
  ∀ (pins:List (Addr × Obj)) (s:Shared) (σ:St) (H:Hp) (xs:List V) (us:List Value) (Q:VK),Inv X pins σ H s->Vals xs us->r xs H Q ->
    wpAny (model X.prog X.w) X.A (call f us) (EP X pins σ Q) X.xe s
noncomputable def tOp (r:R2) (ta tb:TE):TE:=fun σ H Q=>ta σ H fun x H1=>tb σ H1 fun y H2=>r x y H2 Q
noncomputable def tUn (r:V->Hp->VK->Prop) (ta:TE):TE:=fun σ H Q=>ta σ H fun x H1=>r x H1 Q
noncomputable def rI (C:Int->Int->Prop) (g:Int->Int->V):R2:=fun x y H Q=>∃ i j,x = .int i /\ y = .int j /\ C i j /\ Q (g i j) H
noncomputable def rI0 (g:Int->Int->V):R2:=fun x y H Q=>∃ i j,x = .int i /\ y = .int j /\ Q (g i j) H
noncomputable def rU (g:Int->V):V->Hp->VK->Prop:=fun x H Q=>∃ i,x = .int i /\ Q (g i) H
section
variable {X:Cx} {a b c:Expr} {ta tb tc:TE} {pos:Pos}
theorem binT (ha:PE X a ta) (hb:PE X b tb) {pins:List (Addr × Obj)} {s:Shared} {σ:St} {H:Hp} {R:V->V->Hp->Prop} (I:Inv X pins σ H s)
    (h:ta σ H fun x H1=>tb σ H1 fun y H2=>R x y H2) {Q:Value->Shared->Prop} {f:Value->Value->Sem Value}
    (hf:∀ v u s2 x y H2,Inv X pins σ H2 s2->RelV x v->RelV y u->R x y H2->wpAny (model X.prog X.w) X.A (f v u) Q X.xe s2) :
    wpAny (model X.prog X.w) X.A (eval a X.env) (fun v s₁=>wpAny (model X.prog X.w) X.A (eval b X.env) (fun u s₂=>wpAny (model X.prog X.w) X.A (f v u) Q X.xe s₂) X.xe s₁) X.xe s:=by
  refine thn (ha pins s σ H _ I h) fun v s1 zz=>?_
  obtain ⟨x,H1,I1,r1,q1⟩:=zz
  refine thn (hb pins s1 σ H1 _ I1 q1) fun u s2 zz=>?_
  obtain ⟨y,H2,I2,r2,q2⟩:=zz
  exact hf v u s2 x y H2 I2 r1 r2 q2
theorem jD {op:Operator} {r:R2} (ho:OpR X (binaryOp op) r) (ha:PE X a ta) (hb:PE X b tb):PE X (.BinOp a op b pos) (tOp r ta tb):=by
  intro pins s σ H Q I h
  exact wpAny_BinOp (binT ha hb I h fun v u s2 x y H2 I2 rx ry q=>ho pins s2 σ H2 x y v u Q I2 rx ry q)
theorem pe_un {op:UnaryOp} {r:V->Hp->VK->Prop} (ho:UnR X (unaryOp op) r) (ha:PE X a ta):PE X (.UnaryOp op a pos) (tUn r ta):=by
  intro pins s σ H Q I h
  exact UnaryOp_ (thn (ha pins s σ H _ I h) fun v s1 ⟨x,H1,I1,r1,q1⟩=>ho pins s1 σ H1 x v Q I1 r1 q1)
theorem opI {f:Value->Value->Sem Value} {C:Int->Int->Prop} {g:Int->Int->Int}
    (rule:∀ (i j:Int) (t u:Tok) (s:Shared) (Q:Value->Shared->Prop) (E:Value->Shared->Prop),C i j->Q (.int (g i j) s.toks) { s with toks:=s.toks + 1 }->wpAny (model X.prog X.w) X.A (f (.int i t) (.int j u)) Q E s) :
    OpR X f (rI C fun i j=>.int (g i j)):=by
  intro pins s σ H x y v u Q I rx ry h
  obtain ⟨i,j,rfl,rfl,hc,q⟩:=h
  obtain ⟨t,rfl⟩:=rx
  obtain ⟨t',rfl⟩:=ry
  exact rule i j t t' s _ _ hc ⟨.int (g i j),H,I.tok _,⟨_,rfl⟩,q⟩
theorem opI0 {f:Value->Value->Sem Value} {g:Int->Int->Int}
    (rule:∀ (i j:Int) (t u:Tok) (s:Shared) (Q:Value->Shared->Prop) (E:Value->Shared->Prop),Q (.int (g i j) s.toks) { s with toks:=s.toks + 1 }->wpAny (model X.prog X.w) X.A (f (.int i t) (.int j u)) Q E s) :
    OpR X f (rI0 fun i j=>.int (g i j)):=by
  intro pins s σ H x y v u Q I rx ry h
  obtain ⟨i,j,rfl,rfl,q⟩:=h
  obtain ⟨t,rfl⟩:=rx
  obtain ⟨t',rfl⟩:=ry
  exact rule i j t t' s _ _ ⟨.int (g i j),H,I.tok _,⟨_,rfl⟩,q⟩
theorem opB0 {f:Value->Value->Sem Value} {g:Int->Int->Bool}
    (rule:∀ (i j:Int) (t u:Tok) (s:Shared) (Q:Value->Shared->Prop) (E:Value->Shared->Prop),Q (.bool (g i j)) s->wpAny (model X.prog X.w) X.A (f (.int i t) (.int j u)) Q E s) :
    OpR X f (rI0 fun i j=>.bl (g i j)):=by
  intro pins s σ H x y v u Q I rx ry h
  obtain ⟨i,j,rfl,rfl,q⟩:=h
  obtain ⟨t,rfl⟩:=rx
  obtain ⟨t',rfl⟩:=ry
  exact rule i j t t' s _ _ ⟨.bl (g i j),H,I,rfl,q⟩
noncomputable def CDiv (i j:Int):Prop:=0 < j /\ j < 1073741824
noncomputable def CPow (i j:Int):Prop:=0 <= j /\ j <= 1000000 /\ i.natAbs < 2 ^ 64
theorem jiY (k:Nat):(0:Int) <= 2 ^ k:=by
  rw [two_pow_cast]
  exact Int.natCast_nonneg _
theorem Jy:OpR X (binaryOp .Add) (rI0 fun i j=>.int (i + j)):=opI0 fun _ _ _ _ _ _ _ q=>add_int q
theorem jaA:OpR X (binaryOp .Sub) (rI0 fun i j=>.int (i - j)):=opI0 fun _ _ _ _ _ _ _ q=>sub_int q
theorem Ql:OpR X (binaryOp .FloorDiv) (rI CDiv fun i j=>.int (i / j)):=opI fun i j _ _ _ _ _ hc q=>by
  have h1:(0:Int) < j:=hc.1
  have h2:j < 1073741824:=hc.2
  exact floordiv_int (by omega) (by rw [Int.fdiv_eq_ediv_of_nonneg i (by omega)]; exact q) (.inl (PyProof.noPylong_small (by omega)))
theorem Jk:OpR X (binaryOp .Mod) (rI (fun _ j=>0 < j) fun i j=>.int (i % j)):=opI fun i j _ _ _ _ _ hc q=>by
  have h1:(0:Int) < j:=hc
  exact mod_int' (by omega) (by rw [Int.fmod_eq_emod_of_nonneg i (by omega)]; exact q)
theorem jfe:OpR X (binaryOp .Pow) (rI CPow fun i j=>.int (i ^ j.toNat)):=opI fun _ _ _ _ _ _ _ hc q=>pow_int_small hc.1 hc.2.1 hc.2.2 q
theorem op_shl:OpR X (binaryOp .LShift) (rI CPow fun i j=>.int (i * 2 ^ j.toNat)):=opI fun _ _ _ _ _ _ _ hc q=>lshift_int_small hc.1 hc.2.1 hc.2.2 q
theorem op_shr:OpR X (binaryOp .RShift) (rI (fun _ j=>0 <= j) fun i j=>.int (i / 2 ^ j.toNat)):=opI fun i j _ _ _ _ _ hc q =>
  rshift_int hc (by rw [Int.fdiv_eq_ediv_of_nonneg i (jiY _)]; exact q)
theorem op_and:OpR X (binaryOp .BitAnd) (rI0 fun i j=>.int (Builtin.bitAnd i j)):=opI0 fun _ _ _ _ _ _ _ q=>and_int q
theorem op_or:OpR X (binaryOp .BitOr) (rI0 fun i j=>.int (Builtin.bitOr i j)):=opI0 fun _ _ _ _ _ _ _ q=>or_int q
theorem unI {f:Value->Sem Value} {g:Int->Int}
    (rule:∀ (i:Int) (t:Tok) (s:Shared) (Q:Value->Shared->Prop) (E:Value->Shared->Prop),Q (.int (g i) s.toks) { s with toks:=s.toks + 1 }->wpAny (model X.prog X.w) X.A (f (.int i t)) Q E s) :
    UnR X f (rU fun i=>.int (g i)):=by
  intro pins s σ H x v Q I rx h
  obtain ⟨i,rfl,q⟩:=h
  obtain ⟨t,rfl⟩:=rx
  exact rule i t s _ _ ⟨.int (g i),H,I.tok _,⟨_,rfl⟩,q⟩
theorem un_neg:UnR X (unaryOp .USub) (rU fun i=>.int (-i)):=unI fun _ _ _ _ _ q=>neg_int q
end
noncomputable def scal:V->V->Bool
  | .non,.non=>true | .non,.int _=>true | .int _,.non=>true | .non,.bl _=>true | .bl _,.non=>true | .non,.str _=>true | .str _,.non=>true
  | .int _,.int _=>true | .bl _,.bl _=>true | .str _,.str _=>true | .byt _,.byt _=>true
  | .int _,.str _=>true | .str _,.int _=>true | .bl _,.str _=>true | .str _,.bl _=>true
  | _,_=>false
noncomputable def rEq:R2:=fun x y H Q=>scal x y = true /\ Q (.bl (decide (x = y))) H
noncomputable def rNe:R2:=fun x y H Q=>scal x y = true /\ Q (.bl (!decide (x = y))) H
theorem ji9 {i j:Int}:decide (V.int i = V.int j) = (i == j):=by
  rw [Bool.eq_iff_iff]
  simp
theorem dec_bl {i j:Bool}:decide (V.bl i = V.bl j) = (i == j):=by
  rw [Bool.eq_iff_iff]
  simp
theorem jja {i j:Str}:decide (V.str i = V.str j) = (i == j):=by
  rw [Bool.eq_iff_iff]
  simp
theorem ji8 {i j:Array UInt8}:decide (V.byt i = V.byt j) = (i.toList == j.toList):=by
  rw [Bool.eq_iff_iff]
  cases i
  cases j
  simp
section
variable {X:Cx} {a b c:Expr} {ta tb tc:TE} {pos:Pos}
theorem JG {pins:List (Addr × Obj)} {σ:St} {H:Hp} {s:Shared} {Q:VK} {k k':Bool} (I:Inv X pins σ H s) (q:Q (.bl k) H) (e:k = k'):EP X pins σ Q (.bool k') s:=by
  subst e
  exact ⟨.bl k,H,I,rfl,q⟩
theorem JN:OpR X (compareOp .Eq) rEq:=by
  intro pins s σ H x y v u Q I rx ry h
  obtain ⟨hs,q⟩:=h
  cases x with
  | non =>
    cases rx
    cases y with
    | non=>cases ry; exact PySem.EqNone.eq_none_none (JG I q (by simp))
    | bl j=>cases ry; exact PySem.EqNone.eq_none_bool (JG I q (by simp))
    | int j=>obtain ⟨t',rfl⟩:=ry; exact PySem.EqNone.eq_none_int (JG I q (by simp))
    | str j=>obtain ⟨t',rfl⟩:=ry; exact PySem.EqNone.eq_none_str (JG I q (by simp))
    | _=>exact absurd (show false = true from hs) Bool.false_ne_true
  | bl i =>
    cases rx
    cases y with
    | non=>cases ry; exact PySem.EqNone.eq_bool_none (JG I q (by simp))
    | bl j=>cases ry; exact eq_bool (JG I q dec_bl)
    | str j=>obtain ⟨t',rfl⟩:=ry; exact PySem.EqMixed.eq_bool_str (JG I q (by simp))
    | _=>exact absurd (show false = true from hs) Bool.false_ne_true
  | int i =>
    obtain ⟨t,rfl⟩:=rx
    cases y with
    | non=>cases ry; exact PySem.EqNone.eq_int_none (JG I q (by simp))
    | int j=>obtain ⟨t',rfl⟩:=ry; exact eq_int (JG I q ji9)
    | str j=>obtain ⟨t',rfl⟩:=ry; exact PySem.EqMixed.eq_int_str (JG I q (by simp))
    | _=>exact absurd (show false = true from hs) Bool.false_ne_true
  | str i =>
    obtain ⟨t,rfl⟩:=rx
    cases y with
    | non=>cases ry; exact PySem.EqNone.eq_str_none (JG I q (by simp))
    | bl j=>cases ry; exact PySem.EqMixed.eq_str_bool (JG I q (by simp))
    | int j=>obtain ⟨t',rfl⟩:=ry; exact PySem.EqMixed.eq_str_int (JG I q (by simp))
    | str j=>obtain ⟨t',rfl⟩:=ry; exact eq_str (JG I q jja)
    | _=>exact absurd (show false = true from hs) Bool.false_ne_true
  | byt i =>
    obtain ⟨t,rfl⟩:=rx
    cases y with
    | byt j=>obtain ⟨t',rfl⟩:=ry; exact PySem.W.eq_bytes (JG I q ji8)
    | _=>exact absurd (show false = true from hs) Bool.false_ne_true
  | _=>cases y <;> exact absurd (show false = true from hs) Bool.false_ne_true
theorem jgx:OpR X (compareOp .NotEq) rNe:=by
  intro pins s σ H x y v u Q I rx ry h
  obtain ⟨hs,q⟩:=h
  cases x with
  | non =>
    cases rx
    cases y with
    | non=>cases ry; exact PySem.EqNone.ne_none_none (JG I q (by simp))
    | bl j=>cases ry; exact PySem.EqNone.ne_none_bool (JG I q (by simp))
    | int j=>obtain ⟨t',rfl⟩:=ry; exact PySem.EqNone.ne_none_int (JG I q (by simp))
    | str j=>obtain ⟨t',rfl⟩:=ry; exact PySem.EqNone.ne_none_str (JG I q (by simp))
    | _=>exact absurd (show false = true from hs) Bool.false_ne_true
  | bl i =>
    cases rx
    cases y with
    | non=>cases ry; exact PySem.EqNone.ne_bool_none (JG I q (by simp))
    | bl j=>cases ry; exact ne_bool (JG I q (congrArg not dec_bl))
    | str j=>obtain ⟨t',rfl⟩:=ry; exact PySem.EqMixed.ne_bool_str (JG I q (by simp))
    | _=>exact absurd (show false = true from hs) Bool.false_ne_true
  | int i =>
    obtain ⟨t,rfl⟩:=rx
    cases y with
    | non=>cases ry; exact PySem.EqNone.ne_int_none (JG I q (by simp))
    | int j=>obtain ⟨t',rfl⟩:=ry; exact ne_int (JG I q (congrArg not ji9))
    | str j=>obtain ⟨t',rfl⟩:=ry; exact PySem.EqMixed.ne_int_str (JG I q (by simp))
    | _=>exact absurd (show false = true from hs) Bool.false_ne_true
  | str i =>
    obtain ⟨t,rfl⟩:=rx
    cases y with
    | non=>cases ry; exact PySem.EqNone.ne_str_none (JG I q (by simp))
    | bl j=>cases ry; exact PySem.EqMixed.ne_str_bool (JG I q (by simp))
    | int j=>obtain ⟨t',rfl⟩:=ry; exact PySem.EqMixed.ne_str_int (JG I q (by simp))
    | str j=>obtain ⟨t',rfl⟩:=ry; exact ne_str (JG I q (congrArg not jja))
    | _=>exact absurd (show false = true from hs) Bool.false_ne_true
  | byt i =>
    obtain ⟨t,rfl⟩:=rx
    cases y with
    | byt j=>obtain ⟨t',rfl⟩:=ry; exact PySem.W.ne_bytes (JG I q (congrArg not ji8))
    | _=>exact absurd (show false = true from hs) Bool.false_ne_true
  | _=>cases y <;> exact absurd (show false = true from hs) Bool.false_ne_true
theorem op_lt:OpR X (compareOp .Lt) (rI0 fun i j=>.bl (decide (i < j))):=opB0 fun _ _ _ _ _ _ _ q=>lt_int q
theorem jgw:OpR X (compareOp .LtE) (rI0 fun i j=>.bl (decide (i <= j))):=opB0 fun _ _ _ _ _ _ _ q=>le_int q
theorem jdW:OpR X (compareOp .Gt) (rI0 fun i j=>.bl (decide (j < i))):=opB0 fun _ _ _ _ _ _ _ q=>gt_int q
theorem op_ge:OpR X (compareOp .GtE) (rI0 fun i j=>.bl (decide (j <= i))):=opB0 fun _ _ _ _ _ _ _ q=>ge_int q
theorem op_isN:OpR X (compareOp .Is) (fun x y H Q=>y = .non /\ Q (.bl (decide (x = .non))) H):=by
  intro pins s σ H x y v u Q I rx ry h
  obtain ⟨rfl,q⟩:=h
  cases ry
  refine is_none_gen (JG I q ?_)
  cases x <;> first
    | (cases rx; rfl)
    | (obtain ⟨t,rfl⟩:=rx; rfl)
theorem jZ (b:Expr) {op:CmpOp} (h:op ≠ .In:=by decide) (h2:op ≠ .NotIn:=by decide):behindInMarks op b = false:=by
  have e1:(op == CmpOp.In) = false:=by cases op <;> first | rfl | exact absurd rfl h
  have e2:(op == CmpOp.NotIn) = false:=by cases op <;> first | rfl | exact absurd rfl h2
  cases b <;> simp [behindInMarks,e1,e2]
theorem Y5 {op:CmpOp} {r:R2} (ho:OpR X (compareOp op) r) (ha:PE X a ta) (hb:PE X b tb) (hm:behindInMarks op b = false):PE X (.Compare a [op] [b] pos) (tOp r ta tb):=by
  intro pins s σ H Q I h
  exact wpAny_Compare1 (binT ha hb I h fun v u s2 x y H2 I2 rx ry q=>ho pins s2 σ H2 x y v u Q I2 rx ry q) hm
noncomputable def tTest (t:TE):TT:=fun σ H Q=>t σ H fun x H'=>∃ k,x = .bl k /\ Q k H'
theorem jR {op:CmpOp} {r:R2} (ho:OpR X (compareOp op) r) (ha:PE X a ta) (hb:PE X b tb) (hm:behindInMarks op b = false):PT X (.Compare a [op] [b] pos) (tTest (tOp r ta tb)):=by
  intro pins s σ H Q I h
  refine wpAny_isTrue_Compare1 (thn (ha pins s σ H _ I h) fun v s1 ⟨x,H1,I1,r1,q1⟩=>thn (hb pins s1 σ H1 _ I1 q1) fun u s2 ⟨y,H2,I2,r2,q2⟩ =>
    thn (ho pins s2 σ H2 x y v u _ I2 r1 r2 q2) fun c s3 zz=>?_) hm
  obtain ⟨z,H3,I3,r3,k,e,q3⟩:=zz
  subst e
  cases r3
  exact wpAny_truthy_bool ⟨H3,I3,q3⟩
noncomputable def jhn (r r':R2) (ta tb tc:TE):TE:=fun σ H Q=>ta σ H fun x H1=>tb σ H1 fun y H2=>r x y H2 fun z H3=>∃ k,z = .bl k /\
  (if k = true then tc σ H3 fun w' H4=>r' y w' H4 Q else Q (.bl false) H3)
theorem jbq {op op':CmpOp} {r r':R2} (ho:OpR X (compareOp op) r) (ho':OpR X (compareOp op') r') (ha:PE X a ta) (hb:PE X b tb) (hc:PE X c tc)
    (hm:lastMarks [op,op'] [b,c] = false:=by with_unfolding_all rfl):PE X (.Compare a [op,op'] [b,c] pos) (jhn r r' ta tb tc):=by
  intro pins s σ H Q I h
  refine Compare_chain (thn (ha pins s σ H _ I h) fun v s1 ⟨x,H1,I1,r1,q1⟩=>chain_link (thn (hb pins s1 σ H1 _ I1 q1) fun u s2 ⟨y,H2,I2,r2,q2⟩ =>
    thn (ho pins s2 σ H2 x y v u _ I2 r1 r2 q2) fun d s3 zz=>?_)) hm
  obtain ⟨z,H3,I3,r3,k,e,q3⟩:=zz
  subst e
  cases r3
  refine wpAny_truthy_bool ?_
  cases k with
  | false=>exact ite_ff ⟨.bl false,H3,I3,rfl,q3⟩
  | true=>exact ite_tt (chain_last (thn (hc pins s3 σ H3 _ I3 q3) fun w' s4 ⟨z',H4,I4,r4,q4⟩=>ho' pins s4 σ H4 y z' u w' Q I4 r2 r4 q4))
theorem jcZ {op op':CmpOp} {r r':R2} (ho:OpR X (compareOp op) r) (ho':OpR X (compareOp op') r') (ha:PE X a ta) (hb:PE X b tb) (hc:PE X c tc)
    (hm:lastMarks [op,op'] [b,c] = false:=by with_unfolding_all rfl):PT X (.Compare a [op,op'] [b,c] pos) (tTest (jhn r r' ta tb tc)):=by
  intro pins s σ H Q I h
  refine isTrue_chain (thn (ha pins s σ H _ I h) fun v s1 ⟨x,H1,I1,r1,q1⟩=>test_link (thn (hb pins s1 σ H1 _ I1 q1) fun u s2 ⟨y,H2,I2,r2,q2⟩ =>
    thn (ho pins s2 σ H2 x y v u _ I2 r1 r2 q2) fun d s3 zz=>?_)) hm
  obtain ⟨z,H3,I3,r3,k,e,q3⟩:=zz
  subst e
  cases r3
  refine wpAny_truthy_bool ?_
  cases k with
  | false =>
    obtain ⟨k',e',q'⟩:=q3
    cases e'
    exact ite_ff ⟨H3,I3,q'⟩
  | true =>
    refine ite_tt (test_last (thn (hc pins s3 σ H3 _ I3 q3) fun w' s4 ⟨z',H4,I4,r4,q4⟩=>thn (ho' pins s4 σ H4 y z' u w' _ I4 r2 r4 q4) fun d' s5 zz=>?_))
    obtain ⟨z2,H5,I5,r5,k2,e2,q5⟩:=zz
    subst e2
    cases r5
    exact wpAny_truthy_bool ⟨H5,I5,q5⟩
theorem je6:(sizeLine:Nat) < 2 ^ 63:=by rw [sizeLine_eq]; decide
theorem Jh:OpR X (binaryOp .Add) (fun x y H Q=>∃ i j,x = .str i /\ y = .str j /\ i.length + j.length <= sizeLine /\ Q (.str (i ++ j)) H):=by
  intro pins s σ H x y v u Q I rx ry h
  obtain ⟨i,j,rfl,rfl,hz,q⟩:=h
  obtain ⟨t,rfl⟩:=rx
  obtain ⟨t',rfl⟩:=ry
  exact add_str (fun t' tk=>⟨.str (i ++ j),H,I.tok _,⟨_,rfl⟩,q⟩) hz
theorem vals1 {x:V} {us:List Value} (r:Vals [x] us):∃ u,us = [u] /\ RelV x u:=by
  cases r with
  | cons r1 r2=>cases r2; exact ⟨_,rfl,r1⟩
theorem vals2 {x y:V} {us:List Value} (r:Vals [x,y] us):∃ u w',us = [u,w'] /\ RelV x u /\ RelV y w':=by
  cases r with
  | cons r1 r2 =>
    cases r2 with
    | cons r3 r4=>cases r4; exact ⟨_,_,rfl,r1,r3⟩
theorem jgh (hc:X.calm = true):yl X (.builtin "max") (fun xs H Q=>∃ i j,xs = [.int i,.int j] /\ Q (.int (if j > i then j else i)) H):=by
  intro pins s σ H xs us Q I r h
  obtain ⟨i,j,rfl,q⟩:=h
  obtain ⟨u,w',rfl,⟨t,rfl⟩,⟨t',rfl⟩⟩:=vals2 r
  refine max_two_ints (I.ok.hd hc) fun h' tk k=>⟨_,H,I.kept k,?_,q⟩
  by_cases hj:j > i
  · rw [if_pos hj,if_pos hj]; exact ⟨_,rfl⟩
  · rw [if_neg hj,if_neg hj]; exact ⟨_,rfl⟩
theorem jdh (hc:X.calm = true):yl X (.builtin "min") (fun xs H Q=>∃ i j,xs = [.int i,.int j] /\ Q (.int (if j < i then j else i)) H):=by
  intro pins s σ H xs us Q I r h
  obtain ⟨i,j,rfl,q⟩:=h
  obtain ⟨u,w',rfl,⟨t,rfl⟩,⟨t',rfl⟩⟩:=vals2 r
  refine min_two_ints (I.ok.hd hc) fun h' tk k=>⟨_,H,I.kept k,?_,q⟩
  by_cases hj:j < i
  · rw [if_pos hj,if_pos hj]; exact ⟨_,rfl⟩
  · rw [if_neg hj,if_neg hj]; exact ⟨_,rfl⟩
theorem jgg:yl X (.type "int") (fun xs H Q=>(∃ i,xs = [.int i] /\ Q (.int i) H) ∨ ∃ k,xs = [.bl k] /\ Q (.int (if k then 1 else 0)) H):=by
  intro pins s σ H xs us Q I r h
  rcases h with ⟨i,rfl,q⟩ | ⟨k,rfl,q⟩
  · obtain ⟨u,rfl,t,rfl⟩:=vals1 r
    exact call_int_int ⟨.int i,H,I,⟨_,rfl⟩,q⟩
  · obtain ⟨u,rfl,r1⟩:=vals1 r
    cases r1
    exact call_int_bool ⟨.int (if k then 1 else 0),H,I.tok _,⟨_,rfl⟩,q⟩
theorem Yc:yl X (.type "str") (fun xs H Q=>∃ i,xs = [.int i] /\ i.natAbs.log2 < 1920 /\ Q (.str (toString i)) H):=by
  intro pins s σ H xs us Q I r h
  obtain ⟨i,rfl,hz,q⟩:=h
  obtain ⟨u,rfl,t,rfl⟩:=vals1 r
  exact PySem.P.str_of_int hz ⟨.str _,H,I.tok _,⟨_,rfl⟩,q⟩
theorem jdU:yl X (.builtin "divmod") (fun xs H Q=>∃ i j,xs = [.int i,.int j] /\ CDiv i j /\ ∀ p,H p = none->Q (.ref p) (upd H p (.tup [.int (i / j),.int (i % j)]))):=by
  intro pins s σ H xs us Q I r h
  obtain ⟨i,j,rfl,⟨h1,h2⟩,q⟩:=h
  obtain ⟨u,w',rfl,⟨t,rfl⟩,⟨t',rfl⟩⟩:=vals2 r
  refine divmod_int (by omega) ?_ (.inl (PyProof.noPylong_small (by omega)))
  rw [Int.fdiv_eq_ediv_of_nonneg i (by omega),Int.fmod_eq_emod_of_nonneg i (by omega)]
  have hn:H s.heap.objs.size = none:=I.hok.fresh (Nat.le_refl _)
  refine ⟨.ref s.heap.objs.size,_,?_,rfl,q _ hn⟩
  refine I.laid (fun b o e=>Heap.get?_push_of_some _ e) (Nat.le_refl _) ⟨by simp only [List.length_cons,List.length_nil]; rw [sizeLine_eq]; decide,[.int (i / j) s.toks,.int (i % j) (s.toks + 1)],.cons ⟨_,rfl⟩ (.cons ⟨_,rfl⟩ .nil),?_⟩
  exact ⟨_,Heap.get?_push_size s.heap rfl,rfl,0,rfl⟩
end
end L2
namespace L2
open PySem PySem.Spec PyProof.Rows
structure ObjM (h:Heap) (x dx C:Addr) (mA:Str->Option Value):Prop where
  obj:h.get? x = some (PySem.W.instObj C dx)
  ns:h.Ns1 dx mA
  ne:dx ≠ x
theorem jjK {h:Heap} {dx:Addr} {mA:Str->Option Value} (n:h.Ns1 dx mA):∃ od,h.get? dx = some od /\ ∀ name,PySem.W.lookIn name od = some (mA name):=by
  obtain ⟨o,es,ep,ho,hd,hk,_,hm⟩:=n
  refine ⟨o,ho,fun name=>?_⟩
  have e:=hm name
  unfold nsFind findBy at e
  rw [<- Array.find?_toList] at e
  unfold PySem.W.lookIn
  rw [hd]
  dsimp only
  split
  · rename_i y q
    rw [q] at e
    exact congrArg some e
  · rename_i q
    rw [q] at e
    have a:es.toList.any (·.refKey) = false:=by
      rw [List.any_eq_false]
      intro y hy
      obtain ⟨z,t,hkey⟩:=hk y (Array.mem_toList_iff.mp hy)
      simp [DictEntry.refKey,hkey]
    have a':¬ es.toList.any (·.refKey) = true:=by rw [a]; exact Bool.false_ne_true
    rw [if_neg a']
    exact congrArg some e
theorem ObjM.look {h:Heap} {x dx C:Addr} {mA:Str->Option Value} (I:ObjM h x dx C mA):∃ od,PySem.W.InstAt h x (PySem.W.instObj C dx) C (some od) /\ ∀ name,PySem.W.lookIn name od = some (mA name) :=
  let ⟨od,ho,hl⟩:=jjK I.ns
  ⟨od,⟨I.obj,rfl,rfl,ho⟩,hl⟩
section
variable {prog:Program} {w:World} {A:Around} {E:Value->Shared->Prop} {s:Shared} {K:PySem.W.Frag} {x dx C f:Addr} {mA:Str->Option Value} {name:Str} {v:Value}
theorem get_map {expr:Bool} {Q:Value->Shared->Prop} (X:K.In s.heap) (I:ObjM s.heap x dx C mA) (hg:PySem.W.plainGet K C name = true) (hh:PySem.W.hasDictIn K C = true)
    (ha:PySem.W.findIn K (.ref C) name = some none) (hv:mA name = some v) (hv':PySem.W.handedIn v = true) (h:Q v { s with toks:=s.toks + 1 }) :
    wpAny (model prog w) A (getAttr (.ref x) name expr) Q E s:=by
  obtain ⟨od,J,hl⟩:=I.look
  exact PySem.W.get_value X J (PySem.W.plainGet_of hg).1 (PySem.W.findObj_own hh ha rfl (by rw [hl,hv])) hv' h
theorem get_meth {pl:Sem Bool} {Q:Value × List Value->Shared->Prop} (X:K.In s.heap) (I:ObjM s.heap x dx C mA) (hg:PySem.W.plainGet K C name = true)
    (hf:PySem.W.findIn K (.ref C) name = some (some (.ref f))) (ht:PySem.W.isFn K (.ref f) = true) (hv:mA name = none) (h:Q (.ref f,[.ref x]) s) :
    wpAny (model prog w) A (getMethod (.ref x) name pl) Q E s:=by
  obtain ⟨od,J,hl⟩:=I.look
  exact PySem.W.method_fn X J (PySem.W.plainGet_of hg).1 (PySem.W.plainGet_of hg).2 hf (beq_iff_eq.mp ht) (by show (PySem.W.lookIn name od).map (·.isSome) = some false; rw [hl,hv]; rfl) h
theorem set_map {ns:List Str} {Q:Unit->Shared->Prop} (X:K.In s.heap) (I:ObjM s.heap x dx C mA)
    (hs:PySem.W.findIn K (.ref C) "__setattr__" = some (some (.builtin "object.__setattr__"))) (hp:PySem.W.plainOver K C = true) (ht:PySem.W.takerIn K C name = some none) (hh:PySem.W.hasDictIn K C = true)
    (hw:PySem.Within mA ns) (hsz:ns.length <= sizeLine)
    (h:∀ h',ObjM h' x dx C (fun y=>if y = name then some v else mA y)->Heap.SameBut dx s.heap h'->Q () { s with heap:=h',toks:=s.toks + 2 }) :
    wpAny (model prog w) A (setAttr (.ref x) name v) Q E s:=by
  obtain ⟨od,J,hl⟩:=I.look
  refine PySem.W.set_plain X J hs (PySem.W.osa_open (s:={ s with toks:=s.toks + 1 }) (r:=none) X J hp ht fun b=>?_)
  obtain ⟨cd,hc,hd'⟩:=PySem.W.any_some hh
  have hx:s.heap.get? x = some ⟨.ref C,some dx,.plain,#[]⟩:=I.obj
  refine wpAny_bind (wpAny_pure (wpAny_bind (wpAny_bind (wpAny_loadPart hx (wpAny_bind (PySem.W.Looks.here (s:={ s with toks:=s.toks + 1 }) (PySem.W.looks_clsIn X hc) ?_))))))
  rw [hd']
  refine wpAny_pure (a:=some dx) (wpAny_bind (wpAny_pure (wpAny_bind ?_)))
  refine wpAny_nsSet1 (s:={ s with toks:=s.toks + 1 }) I.ns fun h' hn2 hs2=>?_
  obtain ⟨oD,esD,epD,hoD,hdD,hcD⟩:=hn2.count (PySem.Within.cons name v hw)
  refine wpAny_bind (wpAny_lookBehind hoD (by rw [hdD]; exact pastItsLine_dict (Nat.le_trans hcD (by rw [List.length_cons]; omega))) ?_)
  exact wpAny_pure (h _ ⟨(hs2.2 _ (Ne.symm I.ne)).trans I.obj,hn2,I.ne⟩ hs2)
theorem make_map {R:Result->Shared->Prop} {vs:List Value} {kw:List (Str × Value)} (X:K.In s.heap) (hm:PySem.W.makesIn K C = true)
    (hi:PySem.W.findIn K (.ref C) "__init__" = some (some (.ref f))) (hf:PySem.W.typeIn K (.ref f) = some (.type "function"))
    (h:codeAny (model prog w) (A.under (.builtin "type.__call__" ⟨.ref C :: vs,kw⟩)) (.call (.ref f) ⟨.ref (s.heap.objs.size + 1) :: vs,kw⟩) (PySem.W.InitBack (s.heap.objs.size + 1) R)
      { s with heap:=(s.heap.push PySem.W.emptyDict).push (PySem.W.instObj C s.heap.objs.size) }) :
    codeAny (model prog w) A (.call (.ref C) ⟨vs,kw⟩) R s:=by
  obtain ⟨hh,g,d,t,os⟩:=s
  exact PySem.W.make_core (PySem.W.makes_of X hm) (PySem.W.looks_findIn X hi) (fun self=>PySem.W.bind_fn X self hf) (.inl rfl) h
theorem jjL {R:Result->Shared->Prop} (X:K.In s.heap) (hm:PySem.W.makesIn K C = true)
    (hi:PySem.W.findIn K (.ref C) "__init__" = some (some (.builtin "object.__init__")))
    (hb:∀ self,PySem.W.Looks (model prog w) s.heap (bindSpecial (.builtin "object.__init__") self) (.builtin "object.__init__",[self]))
    (h:codeAny (model prog w) (A.under (.builtin "type.__call__" ⟨[.ref C],[]⟩)) (.call (.builtin "object.__init__") ⟨[.ref (s.heap.objs.size + 1)],[]⟩) (PySem.W.InitBack (s.heap.objs.size + 1) R)
      { s with heap:=(s.heap.push PySem.W.emptyDict).push (PySem.W.instObj C s.heap.objs.size) }) :
    codeAny (model prog w) A (.call (.ref C) ⟨[],[]⟩) R s:=by
  obtain ⟨hh,g,d,t,os⟩:=s
  exact PySem.W.make_core (PySem.W.makes_of X hm) (PySem.W.looks_findIn X hi) hb (.inr ⟨rfl,rfl⟩) h
end
noncomputable def putF (f:Str) (v:V):List (Str × V)->List (Str × V)
  | []=>[(f,v)]
  | (g,x) :: r=>if g = f then (g,v) :: r else (g,x) :: putF f v r
theorem zj (f g:Str) (v:V):∀ fs:List (Str × V),(putF f v fs).lookup g = if g = f then some v else fs.lookup g
  | []=>by
    show List.lookup g [(f,v)] = _
    by_cases h:g = f
    · have hb:(g == f) = true:=beq_iff_eq.mpr h
      simp only [List.lookup,hb,if_pos h]
    · have hb:(g == f) = false:=beq_eq_false_iff_ne.mpr h
      simp only [List.lookup,hb,if_neg h]
  | (k,x) :: r=>by
    have ih:=zj f g v r
    rw [show putF f v ((k,x) :: r) = (if k = f then (k,v) :: r else (k,x) :: putF f v r) from rfl]
    by_cases hk:k = f
    · rw [if_pos hk]
      by_cases h:g = k
      · have hb:(g == k) = true:=beq_iff_eq.mpr h
        simp only [List.lookup,hb,if_pos (h.trans hk)]
      · have hb:(g == k) = false:=beq_eq_false_iff_ne.mpr h
        simp only [List.lookup,hb,if_neg (fun e:g = f=>h (e.trans hk.symm))]
    · rw [if_neg hk]
      by_cases h:g = k
      · have hb:(g == k) = true:=beq_iff_eq.mpr h
        simp only [List.lookup,hb,if_neg (fun e:g = f=>hk (h.symm.trans e))]
      · have hb:(g == k) = false:=beq_eq_false_iff_ne.mpr h
        simp only [List.lookup,hb]
        exact ih
theorem jdo (f:Str) (v:V):∀ fs:List (Str × V),f ∈ (putF f v fs).map (·.1) /\ ∀ g,g ∈ fs.map (·.1)->g ∈ (putF f v fs).map (·.1)
  | []=>⟨by simp [putF],fun g h=>by simp at h⟩
  | (k,x) :: r=>by
    obtain ⟨i1,i2⟩:=jdo f v r
    rw [show putF f v ((k,x) :: r) = (if k = f then (k,v) :: r else (k,x) :: putF f v r) from rfl]
    by_cases hk:k = f
    · rw [if_pos hk]
      subst hk
      exact ⟨by simp,fun g h=>by simpa using h⟩
    · rw [if_neg hk]
      refine ⟨?_,fun g h=>?_⟩
      · rw [List.map_cons]
        exact List.mem_cons_of_mem _ i1
      · rw [List.map_cons] at h ⊢
        rcases List.mem_cons.mp h with e | e
        · exact List.mem_cons.mpr (.inl e)
        · exact List.mem_cons_of_mem _ (i2 g e)
theorem zg (f:Str) (v:V):∀ fs:List (Str × V),(putF f v fs).length <= fs.length + 1
  | []=>by simp [putF]
  | (k,x) :: r=>by
    have ih:=zg f v r
    rw [show putF f v ((k,x) :: r) = (if k = f then (k,v) :: r else (k,x) :: putF f v r) from rfl]
    by_cases hk:k = f
    · rw [if_pos hk,List.length_cons,List.length_cons]; omega
    · rw [if_neg hk,List.length_cons,List.length_cons]; omega
theorem RelO.some_of {v:V} {o:Option Value} (r:RelO (some v) o):∃ u,o = some u /\ RelV v u:=by
  cases o with
  | none=>exact (show False from r).elim
  | some u=>exact ⟨u,rfl,r⟩
theorem RelO.none_of {o:Option Value} (r:RelO none o):o = none:=by
  cases o with
  | none=>rfl
  | some u=>exact (show False from r).elim
theorem jjB {v:V} {u:Value} (r:RelV v u):PySem.W.handedIn u = true:=by
  cases v with
  | non=>cases (show u = Value.none from r); rfl
  | bl b=>cases (show u = Value.bool b from r); rfl
  | int i=>obtain ⟨t,e⟩:=(show ∃ t,u = Value.int i t from r); cases e; rfl
  | str x=>obtain ⟨t,e⟩:=(show ∃ t,u = Value.str x t from r); cases e; rfl
  | byt b=>obtain ⟨t,e⟩:=(show ∃ t,u = Value.bytes b t from r); cases e; rfl
  | flt b=>obtain ⟨t,e⟩:=(show ∃ t,u = Value.float b t from r); cases e; rfl
  | ref a=>cases (show u = Value.ref a from r); rfl
  | ty n=>cases (show u = Value.type n from r); rfl
section
variable {P:Program} {w:World} {H H':Hp} {h h':Heap} {a C dx:Addr} {fs fs':List (Str × V)}
theorem jeo (hok:HOk P w H h) (e:H a = some (.ins C dx fs)):∃ mA,ObjM h a dx C mA /\ (∀ f,RelO (fs.lookup f) (mA f)) /\ PySem.Within mA (fs.map (·.1)) /\ fs.length <= 1000 /\ H dx = some (.own a):=by
  obtain ⟨d,z,ne,ob,mA,n,r,q⟩:=(show qP P w H h a (.ins C dx fs) from hok a _ e)
  exact ⟨mA,⟨ob,n,ne⟩,r,q,z,d⟩
end
structure Cls (K:PySem.W.Frag) (C:Addr):Prop where
  pg:PySem.W.plainGet K C Str.empty = true
  hd:PySem.W.hasDictIn K C = true
  po:PySem.W.plainOver K C = true
  sa:PySem.W.findIn K (.ref C) "__setattr__" = some (some (.builtin "object.__setattr__"))
theorem Cls.get {K:PySem.W.Frag} {C:Addr} (c:Cls K C) (f:Str):PySem.W.plainGet K C f = true:=c.pg
noncomputable def jaq (K:PySem.W.Frag) (C:Addr) (f:Str):Prop:=PySem.W.findIn K (.ref C) f = some none
theorem jaq.taker {K:PySem.W.Frag} {C:Addr} {f:Str} (n:jaq K C f):PySem.W.takerIn K C f = some none:=by
  unfold PySem.W.takerIn
  rw [show PySem.W.findIn K (.ref C) f = some none from n]
  rfl
structure Meth (K:PySem.W.Frag) (C:Addr) (m:Str) (f:Addr):Prop where
  at_:PySem.W.findIn K (.ref C) m = some (some (.ref f))
  fn:PySem.W.isFn K (.ref f) = true
  kp:PySem.W.keepIn K (.ref f) = true
section
variable {X:Cx} {pins:List (Addr × Obj)} {σ:St} {H:Hp} {s:Shared} {a C dx:Addr} {fs:List (Str × V)} {f:Str} {v:V} {A:Around} {E:Value->Shared->Prop}
theorem jit {b:Bool} {Q:Value->Shared->Prop} (I:Inv X pins σ H s) (e:H a = some (.ins C dx fs)) (c:Cls X.K C) (n:jaq X.K C f) (l:fs.lookup f = some v)
    (h:∀ u s',Inv X pins σ H s'->RelV v u->Q u s'):wpAny (model X.prog X.w) A (getAttr (.ref a) f b) Q E s:=by
  obtain ⟨mA,O,r,_,_,_⟩:=jeo I.hok e
  obtain ⟨u,hu,ru⟩:=RelO.some_of (v:=v) (o:=mA f) (by rw [<- l]; exact r f)
  exact get_map I.kIn O (c.get f) c.hd n hu (jjB ru) (h u _ (I.tok _) ru)
theorem je1 {m:Str} {g:Addr} {pl:Sem Bool} {Q:Value × List Value->Shared->Prop} (I:Inv X pins σ H s) (e:H a = some (.ins C dx fs)) (c:Cls X.K C) (k:Meth X.K C m g) (l:fs.lookup m = none)
    (h:Q (.ref g,[.ref a]) s):wpAny (model X.prog X.w) A (getMethod (.ref a) m pl) Q E s:=by
  obtain ⟨mA,O,r,_,_,_⟩:=jeo I.hok e
  have hn:mA m = none:=RelO.none_of (by rw [<- l]; exact r m)
  exact get_meth I.kIn O (c.get m) k.at_ k.fn hn h
theorem jiN {y:V} {u:Value} {Q:Unit->Shared->Prop} (I:Inv X pins σ H s) (e:H a = some (.ins C dx fs)) (c:Cls X.K C) (n:jaq X.K C f) (hl:fs.length < 1000) (ry:RelV y u)
    (h:∀ s',Inv X pins σ (upd H a (.ins C dx (putF f y fs))) s'->Q () s'):wpAny (model X.prog X.w) A (setAttr (.ref a) f u) Q E s:=by
  obtain ⟨mA,O,r,wi,_,ho⟩:=jeo I.hok e
  have hz:(fs.map (·.1)).length <= sizeLine:=by rw [List.length_map,sizeLine_eq]; omega
  refine set_map I.kIn O c.sa c.po n.taker c.hd wi hz fun h' O' sb=>h _ ?_
  have hd:∃ o,h'.get? dx = some o:=let ⟨o,_,_,e',_⟩:=O'.ns; ⟨o,e'⟩
  refine I.write (x:=a) (e:=dx) (by rw [e]; exact True.intro) (.inr ho) (fun b q hb z=>(sb.2 b hb).trans z) hd ?_
  refine ⟨by rw [jM O.ne]; exact ho,?_,O.ne,O'.obj,_,O'.ns,fun g=>?_,fun g hg=>?_⟩
  · have:=zg f y fs; omega
  · show RelO ((putF f y fs).lookup g) (if g = f then some u else mA g)
    rw [zj]
    by_cases q:g = f
    · rw [if_pos q,if_pos q]; exact ry
    · rw [if_neg q,if_neg q]; exact r g
  · by_cases q:g = f
    · rw [q]; exact (jdo f y fs).1
    · refine (jdo f y fs).2 g (wi g fun z=>hg ?_)
      show (if g = f then some u else mA g) = none
      rw [if_neg q]; exact z
theorem Inv.made (I:Inv X pins σ H s):Inv X pins σ (upd (upd H s.heap.objs.size (.own (s.heap.objs.size + 1))) (s.heap.objs.size + 1) (.ins C s.heap.objs.size []))
    { s with heap:=(s.heap.push PySem.W.emptyDict).push (PySem.W.instObj C s.heap.objs.size) }:=by
  have e1:(s.heap.push PySem.W.emptyDict).get? s.heap.objs.size = some PySem.W.emptyDict:=Heap.get?_push_size s.heap rfl
  have e2:((s.heap.push PySem.W.emptyDict).push (PySem.W.instObj C s.heap.objs.size)).get? (s.heap.objs.size + 1) = some (PySem.W.instObj C s.heap.objs.size):=by
    have:=Heap.get?_push_size (s.heap.push PySem.W.emptyDict) (o:=PySem.W.instObj C s.heap.objs.size) rfl
    rwa [Heap.size_push] at this
  have e3:(s.heap.push PySem.W.emptyDict).Ns s.heap.objs.size (fun _=>none):=⟨PySem.W.emptyDict,#[],_,e1,rfl,(fun e he=>absurd he (by simp)),fun _=>rfl⟩
  have I1:=I.laid (a:=s.heap.objs.size) (o:=.own (s.heap.objs.size + 1)) (h':=s.heap.push PySem.W.emptyDict) (t':=s.toks) (fun b u q=>Heap.get?_push_of_some _ q) (Nat.le_refl _) ⟨_,e1⟩
  refine I1.laid (a:=s.heap.objs.size + 1) (o:=.ins C s.heap.objs.size []) (t':=s.toks) (fun b u q=>Heap.get?_push_of_some _ q) (Nat.le_of_eq (Heap.size_push _ _)) ?_
  have ne:s.heap.objs.size ≠ s.heap.objs.size + 1:=Nat.ne_of_lt (Nat.lt_succ_self _)
  refine ⟨by rw [jM ne,jm],Nat.zero_le _,ne,e2,fun _=>none,(Heap.Ns1.of_empty e3).at fun o q=>Heap.get?_push_of_some _ q,fun _=>True.intro,fun y hy=>absurd rfl hy⟩
theorem attr_of {prog:Program} {w:World} {env:Env} {e:Expr} {f:Str} {pos:Pos} {s:Shared} {Q:Value->Shared->Prop} (hb:attributeBase e f env (eval e env) = eval e env)
    (h:wpAny (model prog w) A (eval e env) (fun o s₁=>wpAny (model prog w) A (getAttr o f true) Q E s₁) E s):wpAny (model prog w) A (eval (.Attribute e f pos) env) Q E s :=
  Attribute_any_ h (by rw [arm_eval_Attribute,hb])
end
noncomputable def tFld (K:PySem.W.Frag) (ta:TE) (f:Str):TE:=fun σ H Q=>ta σ H fun x H1=>∃ a C dx fs v,x = .ref a /\ H1 a = some (.ins C dx fs) /\ Cls K C /\ jaq K C f /\ fs.lookup f = some v /\ Q v H1
noncomputable def sFld (K:PySem.W.Frag) (ta tv:TE) (f:Str):TS:=fun D σ H=>tv σ H fun y H1=>ta σ H1 fun x H2=>∃ a C dx fs,x = .ref a /\ H2 a = some (.ins C dx fs) /\ Cls K C /\ jaq K C f /\ fs.length < 1000 /\
  D.nx σ (upd H2 a (.ins C dx (putF f y fs)))
section
variable {X:Cx} {o e value:Expr} {f:Str} {pos pos' tpos:Pos} {ta tv:TE}
theorem Jo (he:PE X e ta) (hb:attributeBase e f X.env (eval e X.env) = eval e X.env):PE X (.Attribute e f pos) (tFld X.K ta f):=by
  intro pins s σ H Q I h
  refine attr_of hb (thn (he pins s σ H _ I h) fun u s1 zz=>?_)
  obtain ⟨x,H1,I1,rx,a,C,dx,fs,v,ex,ea,c,n,l,q⟩:=zz
  subst ex
  obtain rfl:u = Value.ref a:=rx
  exact jit I1 ea c n l fun u' s2 I2 ru=>⟨v,H1,I2,ru,q⟩
theorem YG (ha:PE X o ta) (hv:PE X value tv) (hs:swapsWith value (some (.Attribute o f pos')) pos.line X.env = pure false):PS X (.Assign [.Attribute o f pos'] value pos) (sFld X.K ta tv f):=by
  intro pins s σ H D I h
  refine plainObj_wpAny_Assign_Attribute (thn (hv pins s σ H _ I h) fun u s1 ⟨y,H1,I1,ry,q⟩=>thn (ha pins s1 σ H1 _ I1 q) fun ov s2 zz=>?_) hs
  obtain ⟨x,H2,I2,rx,a,C,dx,fs,ex,ea,c,n,l,q2⟩:=zz
  subst ex
  obtain rfl:ov = Value.ref a:=rx
  exact jiN I2 ea c n l ry fun s3 I3=>⟨σ,_,I3,q2⟩
end
section
variable {X:Cx} {pins:List (Addr × Obj)} {σ:St} {H:Hp} {s:Shared} {A:Around} {E:Value->Shared->Prop} {Q:Value->Shared->Prop} {c:Value} {b:Bool}
inductive TyOf (K:PySem.W.Frag) (H:Hp):V->Value->Prop where
  | non:TyOf K H .non (.type "NoneType")
  | bl (x:Bool):TyOf K H (.bl x) (.type "bool")
  | int (i:Int):TyOf K H (.int i) (.type "int")
  | str (x:Str):TyOf K H (.str x) (.type "str")
  | flt (x:UInt64):TyOf K H (.flt x) (.type "float")
  | lst {a:Addr} {xs:List V} (e:H a = some (.lst xs)):TyOf K H (.ref a) (.type "list")
  | frz {a:Addr} {o:Obj} {xs:List V} (e:H a = some (.frz o (.lst xs))):TyOf K H (.ref a) (.type "list")
  | tup {a:Addr} {xs:List V} (e:H a = some (.tup xs)):TyOf K H (.ref a) (.type "tuple")
  | dK {a:Addr} {kvs:List (Key × V)} (e:H a = some (.dK kvs)):TyOf K H (.ref a) (.type "dict")
  | dT {a:Addr} {kvs:List (List Key × V)} (e:H a = some (.dT kvs)):TyOf K H (.ref a) (.type "dict")
  | ins {a C dx:Addr} {fs:List (Str × V)} (e:H a = some (.ins C dx fs)) (cl:Cls K C) (ha:PySem.W.findIn K (.ref C) "__class__" = some (some (.builtin "object.__class__")))
      (hn:PySem.W.specialIn K (.builtin "object.__class__") "__get__" = some (some (.builtin "getset_descriptor.__get__"))) (htk:PySem.W.takesIn K (.builtin "object.__class__") = some true)
      (hm:PySem.W.mroIn K C (.type "object") = some true):TyOf K H (.ref a) (.ref C)
theorem jgn {x:V} {u t:Value} (I:Inv X pins σ H s) (rx:RelV x u) (ty:TyOf X.K H x t) (e:PySem.W.kitOne X.K t c = some b) (h:∀ tk,Q (.bool b) { s with toks:=tk }) :
    wpAny (model X.prog X.w) A (call (.builtin "isinstance") [u,c]) Q E s:=by
  cases ty with
  | non=>cases (show u = Value.none from rx); exact PySem.W.kia_one PySem.W.kitx_none I.kIn True.intro e (fun z=>nomatch z) h
  | bl y=>cases (show u = Value.bool y from rx); exact PySem.W.kia_one PySem.W.kitx_bool I.kIn True.intro e (fun z=>nomatch z) h
  | int i=>obtain ⟨t,q⟩:=(show ∃ t,u = Value.int i t from rx); cases q; exact PySem.W.kia_one PySem.W.kitx_int I.kIn True.intro e (fun z=>nomatch z) h
  | str y=>obtain ⟨t,q⟩:=(show ∃ t,u = Value.str y t from rx); cases q; exact PySem.W.kia_one PySem.W.kitx_str I.kIn True.intro e (fun z=>nomatch z) h
  | flt y=>obtain ⟨t,q⟩:=(show ∃ t,u = Value.float y t from rx); cases q; exact PySem.W.kia_one PySem.W.kitx_float I.kIn True.intro e (fun z=>nomatch z) h
  | @lst a xs ea =>
    cases (show u = Value.ref a from rx)
    obtain ⟨_,_,n,_,h1⟩:=(show qP X.prog X.w H s.heap a (.lst xs) from I.hok a _ ea)
    exact PySem.W.kia_one PySem.W.kitx_list I.kIn ⟨_,h1,rfl⟩ e (fun z=>nomatch z) h
  | @frz a ob xs ea =>
    cases (show u = Value.ref a from rx)
    obtain ⟨_,_,_,n,_,h1⟩:=(show qP X.prog X.w H s.heap a (.frz ob (.lst xs)) from I.hok a _ ea)
    exact PySem.W.kia_one PySem.W.kitx_list I.kIn ⟨_,h1,rfl⟩ e (fun z=>nomatch z) h
  | @tup a xs ea =>
    cases (show u = Value.ref a from rx)
    obtain ⟨_,_,_,p⟩:=(show qP X.prog X.w H s.heap a (.tup xs) from I.hok a _ ea)
    obtain ⟨o,h1,h2,_⟩:=p
    exact PySem.W.kia_one PySem.W.kitx_tuple I.kIn ⟨o,h1,h2⟩ e (fun z=>nomatch z) h
  | @dK a kvs ea =>
    cases (show u = Value.ref a from rx)
    obtain ⟨_,_,vs,_,p⟩:=(show qP X.prog X.w H s.heap a (.dK kvs) from I.hok a _ ea)
    obtain ⟨o,es,ep,h1,h2,_⟩:=p
    exact PySem.W.kia_one PySem.W.kitx_dict I.kIn ⟨o,h1,h2.1⟩ e (fun z=>nomatch z) h
  | @dT a kvs ea =>
    cases (show u = Value.ref a from rx)
    obtain ⟨_,_,xs,_,o,es,ep,h1,h2,_⟩:=(show qP X.prog X.w H s.heap a (.dT kvs) from I.hok a _ ea)
    exact PySem.W.kia_one PySem.W.kitx_dict I.kIn ⟨o,h1,h2.1⟩ e (fun z=>nomatch z) h
  | @ins a C dx fs ea cl ha hn htk hm =>
    cases (show u = Value.ref a from rx)
    obtain ⟨mA,O,_⟩:=jeo I.hok ea
    obtain ⟨od,J,_⟩:=O.look
    exact PySem.W.kia_one (PySem.W.kitx_own (cl.get _) cl.hd ha hn htk hm) I.kIn J e (fun z=>nomatch z) h
end
end L2
namespace L2
open PySem PySem.Spec PyProof.Rows
structure Room (k:Nat) (A:Around):Prop where
  hd:A.handled = none
  dp:A.depth + 3 * k + 5 < recursionLimit
  un:A.units + 16 * k + 200 < cLine
  gd:A.guards = some []
theorem Room.mono {j k:Nat} {A:Around} (r:Room k A) (h:j <= k):Room j A:=⟨r.hd,by have:=r.dp; omega,by have:=r.un; omega,r.gd⟩
theorem Room.deeper {k:Nat} {A:Around} (r:Room (k + 1) A) (env:Env):Room k (A.deeper env) :=
  ⟨r.hd,by have:=r.dp; show A.depth + 1 + 3 * k + 5 < _; omega,by have:=r.un; show A.units + 3 + 16 * k + 200 < _; omega,r.gd⟩
theorem jiw {A:Around} {C:Addr} {us:List Value} {kw:List (Str × Value)}:(A.under (.builtin "type.__call__" ⟨.ref C :: us,kw⟩)).depth = A.depth + 1:=by
  first | rfl | simp [Around.under,Code.weight,Code.isCreation,Code.isGuard,Code.isCaller,Code.frames,Code.isFrame,guardIds]
theorem jix {A:Around} {C:Addr} {us:List Value} {kw:List (Str × Value)}:(A.under (.builtin "type.__call__" ⟨.ref C :: us,kw⟩)).units = A.units + 1:=by
  first | rfl | simp [Around.under,Code.cUnits,Code.frames,Code.isFrame]
theorem Room.make {k:Nat} {A:Around} (r:Room (k + 1) A) (C:Addr) (us:List Value) (kw:List (Str × Value)):Room k (A.under (.builtin "type.__call__" ⟨.ref C :: us,kw⟩)) :=
  ⟨r.hd,by have:=r.dp; rw [jiw]; omega,by have:=r.un; rw [jix]; omega,by simp [Around.under,r.gd,Code.guards,Code.isGuard,guardIds,pushGuards]⟩
theorem Room.depth {k:Nat} {A:Around} (r:Room k A):A.depth < recursionLimit:=by have:=r.dp; omega
theorem Room.units {k:Nat} {A:Around} (r:Room k A):A.units + 64 < cLine:=by have:=r.un; omega
theorem Room.units0 {k:Nat} {A:Around} (r:Room k A):A.units < cLine:=by have:=r.un; omega
noncomputable def tNil:TA:=fun _ H Q=>Q [] H
noncomputable def jc6 (ta:TE) (tr:TA):TA:=fun σ H Q=>ta σ H fun x H1=>tr σ H1 fun xs H2=>Q (x :: xs) H2
section
variable {X:Cx} {e:Expr} {es:List Expr} {te:TE} {t:TA} {pos:Pos}
theorem jh:PA X [] tNil:=fun _ _ _ _ H Q I h=>Calls.spliced_nil ⟨[],H,I,.nil,h⟩
theorem pa_cons (ha:PE X e te) (hr:PA X es t) (hs:starEach (e :: es) X.env = (false,eval e X.env) :: starEach es X.env:=by rfl):PA X (e :: es) (jc6 te t):=by
  intro pos pins s σ H Q I h
  rw [hs]
  show wpAny _ _ (spliced ((false,eval e X.env) :: backTo pos (starEach es X.env))) _ _ s
  refine Calls.spliced_cons (thn (ha pins s σ H _ I h) fun u s1 zz=>?_)
  obtain ⟨x,H1,I1,r1,q1⟩:=zz
  exact thn (hr pos pins s1 σ H1 _ I1 q1) fun us s2 ⟨xs,H2,I2,r2,q2⟩=>⟨x :: xs,H2,I2,.cons r1 r2,q2⟩
noncomputable def tTup (t:TA):TE:=fun σ H Q=>t σ H fun xs H1=>xs.length <= sizeLine /\ ∀ p,H1 p = none->Q (.ref p) (upd H1 p (.tup xs))
noncomputable def tLst (t:TA):TE:=fun σ H Q=>t σ H fun xs H1=>xs.length <= sizeLine /\ ∀ p,H1 p = none->Q (.ref p) (upd H1 p (.lst xs))
theorem yI {x1} (h:PA X es t):PE X (.Tuple es x1 pos) (tTup t):=by
  intro pins s σ H Q I hq
  refine wpAny_Tuple_spliced (thn (h pos pins s σ H _ I hq) fun us s1 ⟨xs,H1,I1,r,z,q⟩=>⟨by rw [<- r.length]; exact z,?_⟩)
  have hf:H1 s1.heap.objs.size = none:=I1.hok.fresh (Nat.le_refl _)
  refine ⟨.ref s1.heap.objs.size,upd H1 s1.heap.objs.size (.tup xs),I1.laid (t':=s1.toks) (fun b u e=>Heap.get?_push_of_some _ e) (Nat.le_refl _) ?_,rfl,q _ hf⟩
  exact ⟨z,us,r,⟨_,Heap.get?_push_size _ rfl,rfl,_,rfl⟩⟩
theorem Jz (h:PA X es t):PE X (.List es pos) (tLst t):=by
  intro pins s σ H Q I hq
  refine wpAny_List_spliced (thn (h pos pins s σ H _ I hq) fun us s1 ⟨xs,H1,I1,r,z,q⟩=>⟨by rw [<- r.length]; exact z,?_⟩)
  have hf:H1 s1.heap.objs.size = none:=I1.hok.fresh (Nat.le_refl _)
  refine ⟨.ref s1.heap.objs.size,upd H1 s1.heap.objs.size (.lst xs),I1.laid (t':=s1.toks) (fun b u e=>Heap.get?_push_of_some _ e) (Nat.le_refl _) ?_,rfl,q _ hf⟩
  exact ⟨z,us,0,r,Heap.get?_push_size _ rfl⟩
end
noncomputable abbrev Sp:=List V->Hp->VK->XK->Prop
noncomputable abbrev CXT:=List Env->Hp->Shared->XK->Value->Shared->Prop
structure Env0 (P:Program) (w:World) (K:PySem.W.Frag) (mg:Str->Option Value) (base:Heap) (A:Around) (outer:List Env) (s:Shared) (H:Hp):Prop where
  frames:A.frames = some outer
  mod:Mod K mg base
  bs:∀ b o,base.get? b = some o->s.heap.get? b = some o /\ H b = none
  bsz:base.objs.size <= s.heap.objs.size
  funs:s.heap.FunFrames base outer
  frf:∀ b ∈ frs outer,H b = none
  hok:HOk P w H s.heap
  bare:AllBare s.gens
noncomputable def CE (outer:List Env) (P:Program) (w:World) (H:Hp) (s:Shared) (Q:VK) (u:Value) (s':Shared):Prop :=
  ∃ v H',s'.os = s.os /\ AllBare s'.gens /\ Un (frs outer) [] H H' s.heap s'.heap /\ HOk P w H' s'.heap /\ RelV v u /\ Q v H'
noncomputable def CR (CX:CXT) (outer:List Env) (P:Program) (w:World) (H:Hp) (s:Shared) (Q:VK) (E:XK) (r:Result) (s':Shared):Prop :=
  match r with
  | .ok (.ret u)=>CE outer P w H s Q u s'
  | .ok _=>False
  | .error e=>CX outer H s E e s'
structure FnOk (P:Program) (w:World) (K:PySem.W.Frag) (mg:Str->Option Value) (base:Heap) (CX:CXT) (k:Nat) (f:Addr) (fd:FuncData) (ps:List Str) (sp:Sp):Prop where
  len:∀ vs H Q E,sp vs H Q E->vs.length = ps.length
  run:∀ (A:Around) (outer:List Env) (s:Shared) (H:Hp) (args:Args) (us:List Value) (vs:List V) (Q:VK) (E:XK),Room k A->Env0 P w K mg base A outer s H->BindsTo s fd args (ps.zip us)->Vals vs us->sp vs H Q E ->
    codeAny (model P w) A (.call (.ref f) args) (CR CX outer P w H s Q E) s
theorem FnOk.mono {P:Program} {w:World} {K:PySem.W.Frag} {mg:Str->Option Value} {base:Heap} {CX:CXT} {j k:Nat} {f:Addr} {fd:FuncData} {ps:List Str} {sp:Sp} (F:FnOk P w K mg base CX j f fd ps sp) (h:j <= k) :
    FnOk P w K mg base CX k f fd ps sp:=⟨F.len,fun A outer s H args us vs Q E hr=>F.run A outer s H args us vs Q E (hr.mono h)⟩
theorem Env0.make {P:Program} {w:World} {K:PySem.W.Frag} {mg:Str->Option Value} {base:Heap} {A:Around} {outer:List Env} {s:Shared} {H:Hp} (e:Env0 P w K mg base A outer s H) (C:Addr) (us:List Value) (kw:List (Str × Value)) :
    Env0 P w K mg base (A.under (.builtin "type.__call__" ⟨.ref C :: us,kw⟩)) outer s H:=⟨by first | exact e.frames | (simpa [Around.under,Code.envs,Code.isFrame,pushEnvs] using e.frames),e.mod,e.bs,e.bsz,e.funs,e.frf,e.hok,e.bare⟩
section
variable {X:Cx} {pins:List (Addr × Obj)} {σ:St} {H:Hp} {s s':Shared}
theorem Inv.env0 (I:Inv X pins σ H s):Env0 X.prog X.w X.K X.mg X.base X.A X.stack s H :=
  ⟨I.ok.frames,I.ok.mod,I.bs,Nat.le_trans I.ok.bsz I.sz,I.stack,I.jjk,I.hok,I.bare⟩
theorem Inv.after {Q:VK} {u:Value} (I:Inv X pins σ H s) (h:CE X.stack X.prog X.w H s Q u s'):EP X pins σ Q u s':=by
  obtain ⟨v,H',os,bare,un,hok,r,q⟩:=h
  obtain ⟨hh,g,d,t,os'⟩:=s'
  obtain rfl:os' = s.os:=os
  exact ⟨v,H',I.call (h':=hh) (g':=g) (d':=d) (t':=t) (ch:=[]) un hok bare (fun b z=>absurd z (by simp)),r,q⟩
end
noncomputable def tCall (sp:Sp) (dvs:List V) (E:XK) (t:TA):TE:=fun σ H Q=>t σ H fun vs H1=>sp (vs ++ dvs) H1 Q E
noncomputable def tMake (C:Addr) (sp:Sp) (dvs:List V) (E:XK) (t:TA):TE:=fun σ H Q=>t σ H fun vs H1=>∀ x dx,H1 x = none->H1 dx = none->dx ≠ x ->
  sp (.ref x :: (vs ++ dvs)) (upd (upd H1 dx (.own x)) x (.ins C dx [])) (fun v H2=>v = .non /\ Q (.ref x) H2) E
noncomputable def Binds (K:PySem.W.Frag) (fd:FuncData) (ps:List Str) (ds:List Value):Prop :=
  ∀ (s:Shared) (us:List Value),K.In s.heap->(us ++ ds).length = ps.length->BindsTo s fd ⟨us,[]⟩ (ps.zip (us ++ ds))
theorem Binds.all {K:PySem.W.Frag} {fd:FuncData} {ps:List Str} (h:∀ us:List Value,us.length = ps.length->bindArgs fd ⟨us,[]⟩ = pure (ps.zip us)):Binds K fd ps []:=fun s us _ hl=>by
  rw [List.append_nil] at hl ⊢
  exact .of_eq (h us hl)
noncomputable def jeG (CX:CXT) (X:Cx) (E:XK):Prop:=∀ (pins:List (Addr × Obj)) (σ:St) (H:Hp) (s:Shared) (e:Value) (s':Shared),Inv X pins σ H s->CX X.stack H s E e s'->X.xe e s'
section
variable {X:Cx} {CX:CXT} {k:Nat} {f C:Addr} {fd:FuncData} {ps:List Str} {sp:Sp} {dvs:List V} {ds:List Value} {E:XK} {x m:Str} {p pos apos:Pos} {e o:Expr} {es:List Expr} {ta:TE} {t:TA}
theorem jiJ {pins:List (Addr × Obj)} {σ:St} {H:Hp} {s:Shared} {Q:VK} {us:List Value} {vs:List V} (F:FnOk X.prog X.w X.K X.mg X.base CX k f fd ps sp) (hr:Room k X.A) (hb:Binds X.K fd ps ds) (hd:Vals dvs ds) (hx:jeG CX X E)
    (I:Inv X pins σ H s) (r:Vals vs us) (h:sp (vs ++ dvs) H Q E):wpAny (model X.prog X.w) X.A (call (.ref f) us) (EP X pins σ Q) X.xe s:=by
  have r2:Vals (vs ++ dvs) (us ++ ds):=r.append hd
  have hl:(us ++ ds).length = ps.length:=by rw [<- r2.length]; exact F.len _ _ _ _ h
  refine wpAny_call (codeAny_mono (F.run X.A X.stack s H ⟨us,[]⟩ (us ++ ds) (vs ++ dvs) Q E hr I.env0 (hb s us I.kIn hl) r2 h) fun r s' hq=>?_)
  cases r with
  | error e=>exact hx pins σ H s e s' I hq
  | ok fl =>
    cases fl with
    | ret u=>exact I.after hq
    | next=>exact False.elim hq
    | brk=>exact False.elim hq
    | cont=>exact False.elim hq
theorem pe_call (F:FnOk X.prog X.w X.K X.mg X.base CX k f fd ps sp) (hr:Room k X.A) (hg:Gl X x) (hm:X.mg x = some (.ref f)) (hk:PySem.W.keepIn X.K (.ref f) = true) (hb:Binds X.K fd ps ds) (hd:Vals dvs ds) (hx:jeG CX X E)
    (ha:PA X (e :: es) t) (hdb:(x == ("__debug__" : Str)) = false:=by decide) (he:starEach (e :: es) X.env = (false,eval e X.env) :: starEach es X.env:=by rfl) (hpl:(backTo pos (starEach es X.env)).any (·.1) = false:=by rfl) :
    PE X (.Call (.Name x p) (e :: es) [] pos) (tCall sp dvs E t):=by
  intro pins s σ H Q I h
  refine wpAny_Call_Name_kw (jep I hg hm ?_ hdb)
  refine PySem.W.callWith_K (h₀:=X.base) I.ok.mod.kin hk (thn (ha pos pins s σ H _ I h) fun us s1 ⟨vs,H1,I1,r,q⟩=>⟨I1.kIn,?_⟩) he hpl
  exact jiJ F hr hb hd hx I1 r q
structure Mk (K:PySem.W.Frag) (C f:Addr):Prop where
  makes:PySem.W.makesIn K C = true
  init:PySem.W.findIn K (.ref C) "__init__" = some (some (.ref f))
  fn:PySem.W.isFn K (.ref f) = true
  kp:PySem.W.keepIn K (.ref C) = true
theorem run_make {pins:List (Addr × Obj)} {σ:St} {H:Hp} {s:Shared} {Q:VK} {us:List Value} {vs:List V} (M:Mk X.K C f) (F:FnOk X.prog X.w X.K X.mg X.base CX k f fd ps sp) (hr:Room (k + 1) X.A) (hb:Binds X.K fd ps ds) (hd:Vals dvs ds)
    (hx:jeG CX X E) (I:Inv X pins σ H s) (r:Vals vs us)
    (h:∀ x dx,H x = none->H dx = none->dx ≠ x->sp (.ref x :: (vs ++ dvs)) (upd (upd H dx (.own x)) x (.ins C dx [])) (fun v H2=>v = .non /\ Q (.ref x) H2) E) :
    wpAny (model X.prog X.w) X.A (call (.ref C) us) (EP X pins σ Q) X.xe s:=by
  have hq:=h (s.heap.objs.size + 1) s.heap.objs.size (I.hok.fresh (Nat.le_succ _)) (I.hok.fresh (Nat.le_refl _)) (Nat.ne_of_lt (Nat.lt_succ_self _))
  have I2:=Inv.made (C:=C) I
  have r2:Vals (V.ref (s.heap.objs.size + 1) :: (vs ++ dvs)) (Value.ref (s.heap.objs.size + 1) :: (us ++ ds)):=.cons rfl (r.append hd)
  have hl:(Value.ref (s.heap.objs.size + 1) :: us ++ ds).length = ps.length:=by
    have e:=r2.length
    rw [F.len _ _ _ _ hq] at e
    exact e.symm
  refine wpAny_call (make_map (f:=f) I.kIn M.makes M.init (beq_iff_eq.mp M.fn) (codeAny_mono (F.run _ X.stack _ _ ⟨Value.ref (s.heap.objs.size + 1) :: us,[]⟩ (Value.ref (s.heap.objs.size + 1) :: (us ++ ds)) _ _ E (hr.make C us [])
    (I2.env0.make C us []) (hb _ (Value.ref (s.heap.objs.size + 1) :: us) I2.kIn hl) r2 hq) fun r s' hq'=>?_))
  cases r with
  | error e=>exact hx pins σ _ _ e s' I2 hq'
  | ok fl =>
    cases fl with
    | ret u =>
      obtain ⟨v,H',I3,rv,ev,q3⟩:=I2.after hq'
      subst ev
      exact ⟨rv,⟨V.ref (s.heap.objs.size + 1),H',I3,rfl,q3⟩⟩
    | next=>exact False.elim hq'
    | brk=>exact False.elim hq'
    | cont=>exact False.elim hq'
theorem pe_make (M:Mk X.K C f) (F:FnOk X.prog X.w X.K X.mg X.base CX k f fd ps sp) (hr:Room (k + 1) X.A) (hg:Gl X x) (hm:X.mg x = some (.ref C)) (hb:Binds X.K fd ps ds) (hd:Vals dvs ds) (hx:jeG CX X E)
    (ha:PA X (e :: es) t) (hdb:(x == ("__debug__" : Str)) = false:=by decide) (he:starEach (e :: es) X.env = (false,eval e X.env) :: starEach es X.env:=by rfl) (hpl:(backTo pos (starEach es X.env)).any (·.1) = false:=by rfl) :
    PE X (.Call (.Name x p) (e :: es) [] pos) (tMake C sp dvs E t):=by
  intro pins s σ H Q I h
  refine wpAny_Call_Name_kw (jep I hg hm ?_ hdb)
  refine PySem.W.callWith_K (h₀:=X.base) I.ok.mod.kin M.kp (thn (ha pos pins s σ H _ I h) fun us s1 ⟨vs,H1,I1,r,q⟩=>⟨I1.kIn,?_⟩) he hpl
  exact run_make M F hr hb hd hx I1 r q
end
section
variable {X:Cx} {CX:CXT} {k:Nat} {f C:Addr} {fd:FuncData} {ps ks:List Str} {sp:Sp} {E:XK} {x m:Str} {p pos apos kpos:Pos} {e o:Expr} {es:List Expr} {kws:List Keyword} {te ta:TE} {t tk:TA} {nm:Option Str}
variable {g:List Value->List Value->List Value} {gV:List V->List V->List V}
end
structure jH (N P:List Str) (sc:Scope):Prop where
  kind:sc.kind = .function
  co:sc.isCoroutine = false
  gen:sc.isGenerator = false
  nd:N.Nodup
  pre:N.take P.length = P
  par:∀ x ∈ P,sc.names.lookup x = some .local ∨ sc.names.lookup x = some .cell
  nofree:∀ y ∈ sc.names,y.2 ≠ .free
theorem jgf {kindOf:Str->Option NameKind} {x:Str}:∀ {binds:List (Str × Value)} {m:Str->Option Value},(∀ v,(x,v) ∉ binds)->bindL kindOf binds m x = m x
  | [],_,_=>rfl
  | (n,v) :: r,m,h=>by
    unfold bindL
    rw [jgf fun w hw=>h w (List.mem_cons_of_mem _ hw)]
    split
    · have:x ≠ n:=by rintro rfl; exact h v List.mem_cons_self
      simp [this]
    · rfl
theorem jgd {kindOf:Str->Option NameKind} {x:Str}:∀ {binds:List (Str × Value)} {m:Str->Option Value},(∀ v,(x,v) ∉ binds)->bindC kindOf binds m x = m x
  | [],_,_=>rfl
  | (n,v) :: r,m,h=>by
    unfold bindC
    rw [jgd fun w hw=>h w (List.mem_cons_of_mem _ hw)]
    split
    · rfl
    · have:x ≠ n:=by rintro rfl; exact h v List.mem_cons_self
      simp [this]
theorem jge {kindOf:Str->Option NameKind} {x:Str} {v:Value}:∀ {P:List Str} {vs:List Value} {i:Nat} {m:Str->Option Value},P.Nodup->P[i]? = some x->vs[i]? = some v->kindOf x = some .local ->
    bindL kindOf (P.zip vs) m x = some v
  | [],_,_,_,_,h,_,_=>by simp at h
  | _ :: _,[],_,_,_,_,h,_=>by simp at h
  | p :: P,w :: vs,0,m,nd,h1,h2,hk=>by
    simp at h1 h2; subst h1; subst h2
    show bindL kindOf ((p,w) :: P.zip vs) m p = _
    unfold bindL
    rw [jgf fun v hv=>(List.nodup_cons.mp nd).1 (List.of_mem_zip hv).1,if_pos hk]
    simp
  | p :: P,w :: vs,i + 1,m,nd,h1,h2,hk=>by
    show bindL kindOf ((p,w) :: P.zip vs) m x = _
    unfold bindL
    exact jge (i:=i) (List.nodup_cons.mp nd).2 (by simpa using h1) (by simpa using h2) hk
theorem jgc {kindOf:Str->Option NameKind} {x:Str} {v:Value}:∀ {P:List Str} {vs:List Value} {i:Nat} {m:Str->Option Value},P.Nodup->P[i]? = some x->vs[i]? = some v->kindOf x ≠ some .local ->
    bindC kindOf (P.zip vs) m x = some v
  | [],_,_,_,_,h,_,_=>by simp at h
  | _ :: _,[],_,_,_,_,h,_=>by simp at h
  | p :: P,w :: vs,0,m,nd,h1,h2,hk=>by
    simp at h1 h2; subst h1; subst h2
    show bindC kindOf ((p,w) :: P.zip vs) m p = _
    unfold bindC
    rw [jgd fun v hv=>(List.nodup_cons.mp nd).1 (List.of_mem_zip hv).1,if_neg hk]
    simp
  | p :: P,w :: vs,i + 1,m,nd,h1,h2,hk=>by
    show bindC kindOf ((p,w) :: P.zip vs) m x = _
    unfold bindC
    exact jgc (i:=i) (List.nodup_cons.mp nd).2 (by simpa using h1) (by simpa using h2) hk
noncomputable def start (N:List Str) (vs:List V):St:=vs.map some ++ List.replicate (N.length - vs.length) none
noncomputable def cxOf (CX:CXT) (P:Program) (w:World) (K:PySem.W.Frag) (mg:Str->Option Value) (base:Heap) (N:List Str) (qual:Str) (scope:Scope) (f:Addr) (cd:Value) (A:Around) (outer:List Env) (s:Shared) (H:Hp) (E:XK):Cx where
  prog:=P
  w:=w
  K:=K
  mg:=mg
  base:=base
  A:=A.deeper (envOfC qual scope s.heap.objs.size f cd)
  N:=N
  s₀:=s
  H₀:=H
  env:=envOfC qual scope s.heap.objs.size f cd
  outer:=outer
  stack:=envOfC qual scope s.heap.objs.size f cd :: outer
  ex:=[]
  calm:=true
  fn:=fun _=>true
  pn:=[]
  xe:=fun e s'=>wpAny (model P w) (A.deeper (envOfC qual scope s.heap.objs.size f cd)) (leaving (envOfC qual scope s.heap.objs.size f cd) e) (fun _ s''=>CX outer H s E e s'') (fun e' s''=>CX outer H s E e' s'') s'
theorem jeL {sc:Scope} {n:Nat} {x:Str} (h:sc.names.lookup x = some .cell):∃ c,(cellsFrom n sc.names []).lookup x = some c:=by
  have q:=PySem.W.cellsFrom_some sc.names n [] (.inl h)
  exact Option.isSome_iff_exists.mp q
theorem jjD {CX:CXT} {P:Program} {w:World} {K:PySem.W.Frag} {mg:Str->Option Value} {base:Heap} {N ps:List Str} {qual:Str} {scope:Scope} {f:Addr} {cd:Value} {A:Around} {outer:List Env} {s s1:Shared} {H:Hp} {E:XK} {us:List Value} {vs:List V}
    (S:jH N ps scope) (hd:A.handled = none) (e0:Env0 P w K mg base A outer s H) (hl:vs.length = ps.length) (r:Vals vs us)
    (x:InCallC s s.heap.objs.size (bindL (envOfC qual scope s.heap.objs.size f cd).kindOf (ps.zip us) fun _=>none) (cellsFrom (s.heap.objs.size + 1) scope.names []) (bindC (envOfC qual scope s.heap.objs.size f cd).kindOf (ps.zip us) fun _=>none) s1) :
    Inv (cxOf CX P w K mg base N qual scope f cd A outer s H E) [] (start N vs) H s1:=by
  have hpl:ps.length <= N.length:=by have:=congrArg List.length S.pre; rw [List.length_take] at this; omega
  obtain ⟨h1,tk,rfl,hk⟩:=x.done
  have noA:∀ b:Addr,b ∉ (cxOf CX P w K mg base N qual scope f cd A outer s H E).ex:=fun b z=>absurd (show b ∈ ([]:List Addr) from z) (by simp)
  refine ⟨⟨e0.mod,S.kind,rfl,rfl,Nat.le_refl _,fun y z c h1 h2=>?_,fun y hy=>?_,fun y c _ h=>?_,fun _=>hd,Around.frames_deeper e0.frames,.inr ⟨rfl,rfl⟩,fun b z=>absurd z (noA b),e0.bs,e0.bsz,fun b _ _=>noA b,fun b z=>absurd z (noA b),e0.funs,e0.frf⟩,
    rfl,e0.bare,Un.kept hk,⟨_,x.toInCall.ns,fun i y v h1 h2 h3=>?_⟩,fun y c h=>⟨_,x.cell y c h⟩,e0.hok.fresh (Nat.le_refl _),fun y c h=>?_,fun p hp=>absurd (show p ∈ ([]:List (Addr × Obj)) from hp) (by simp),e0.hok.kept hk,?_⟩
  · exact name_of_addr x.apart (PySem.mem_of_lookup h1) (PySem.mem_of_lookup h2)
  · have hy:scope.names.lookup y = some .cell ∨ scope.names.lookup y = some .free:=hy
    rcases hy with hy | hy
    · exact jeL hy
    · exact absurd rfl (S.nofree _ (PySem.mem_of_lookup hy))
  · exact Nat.le_of_lt (x.above y c (PySem.mem_of_lookup h))
  · have hi:i < vs.length:=by
      unfold start at h2
      by_cases hi:i < vs.length
      · exact hi
      · rw [List.getElem?_append_right (by simpa using hi)] at h2
        rw [List.getElem?_replicate] at h2
        split at h2 <;> cases h2
    have ha:vs[i]? = some v:=by
      unfold start at h2
      rw [List.getElem?_append_left (by simpa using hi),List.getElem?_map] at h2
      cases e:vs[i]? with
      | none=>rw [e] at h2; cases h2
      | some a=>rw [e] at h2; cases h2; rfl
    obtain ⟨u,hu,rv⟩:=r.get ha
    have hp:ps[i]? = some y:=by
      rw [<- S.pre,List.getElem?_take_of_lt (by omega)]; exact h1
    have ndP:ps.Nodup:=by rw [<- S.pre]; exact S.nd.sublist (List.take_sublist _ _)
    refine ⟨u,rv,?_⟩
    rcases S.par y (List.mem_of_getElem? hp) with k | k
    · exact .inl ⟨k,jge ndP hp hu k⟩
    · obtain ⟨c,e⟩:=jeL (n:=s.heap.objs.size + 1) k
      refine .inr ⟨.inl k,c,e,?_⟩
      have q:=x.cell y c e
      rw [jgc ndP hp hu (by show scope.names.lookup y ≠ _; rw [k]; decide)] at q
      exact q
  · exact e0.hok.fresh (Nat.le_of_lt (x.above y c (PySem.mem_of_lookup h)))
  · unfold start
    show _ = N.length
    rw [List.length_append,List.length_map,List.length_replicate]
    omega
theorem fn_of {CX:CXT} {P:Program} {w:World} {K:PySem.W.Frag} {mg:Str->Option Value} {base:Heap} {k:Nat} {f:Addr} {name qual:Str} {params:Arguments} {body:List Stmt} {scope:Scope} {dV kV doc pm cdv ct oc:Value} {an od:Option Addr}
    {osl:Array (Option Value)} {N ps:List Str} {sp:Sp} (lk:K.lookup f = some ⟨oc,od,.func (PySem.W.fnOf name qual params body scope dV kV doc pm an cdv ct),osl⟩) (hcd:PySem.W.codeIn K cdv qual = true) (S:jH N ps scope)
    (len:∀ vs H Q E,sp vs H Q E->vs.length = ps.length)
    (hbody:∀ (A:Around) (outer:List Env) (s:Shared) (H:Hp) (vs:List V) (Q:VK) (E:XK),Room k (A.deeper (envOfC qual scope s.heap.objs.size f cdv))->sp vs H Q E ->
      ∃ t,PSs (cxOf CX P w K mg base N qual scope f cdv A outer s H E) body t /\ t { nx:=fun _ H'=>Q .non H',rt:=Q } (start N vs) H) :
    FnOk P w K mg base CX (k + 1) f (PySem.W.fnOf name qual params body scope dV kV doc pm an cdv ct) ps sp:=by
  refine ⟨len,fun A outer s H args us vs Q E hr e0 hb r hsp=>?_⟩
  have hl:=len _ _ _ _ hsp
  have KX:K.In s.heap:=e0.mod.kin.keeps fun b o e=>(e0.bs b o e).1
  have lim:s.heap.NoLimit:=e0.mod.nolimit.keeps fun b o e=>(e0.bs b o e).1
  have hkind:∀ y ∈ ps.zip us,scope.names.lookup y.1 = some .local ∨ (scope.names.lookup y.1 = some .cell /\ ((cellsFrom (s.heap.objs.size + 1) scope.names []).lookup y.1).isSome = true):=fun ⟨n,v⟩ hy=>by
    rcases S.par n (List.of_mem_zip hy).1 with q | q
    · exact .inl q
    · exact .inr ⟨q,PySem.W.cellsFrom_some _ _ _ (.inl q)⟩
  refine codeAny_call_function hr.depth (KX _ _ lk) rfl S.co S.gen rfl (PySem.W.codeRec_of KX hcd) (hb _ _ _ _ ?_)
  refine wpAny_newFunctionEnv_cells S.kind hkind fun env he s1 x=>?_
  subst he
  refine ⟨lim.keeps x.toInCall.keep,codeAny_func ?_⟩
  obtain ⟨t,ht,hq⟩:=hbody A outer s H vs Q E (hr.deeper _) hsp
  have I:Inv (cxOf CX P w K mg base N qual scope f cdv A outer s H E) [] (start N vs) H s1:=jjD S hr.hd e0 hl r x
  refine wpAny_mono (ht [] s1 (start N vs) H _ I hq) (fun fl s' hs=>?_) fun e s' hs=>hs
  have fin:∀ {σ':St} {H':Hp} {v:V} {u:Value},Inv (cxOf CX P w K mg base N qual scope f cdv A outer s H E) [] σ' H' s'->RelV v u->Q v H'->CE outer P w H s Q u s' :=
    fun {σ' H' v u} J rv q=>⟨v,H',J.os,J.bare,J.base,J.hok,rv,q⟩
  cases fl with
  | ret u =>
    obtain ⟨v,σ',H',J,rv,q⟩:=hs
    exact fin J rv q
  | next =>
    obtain ⟨σ',H',J,q⟩:=hs
    exact fin (v:=V.non) (u:=Value.none) J rfl q
  | brk =>
    obtain ⟨_,_,_,q⟩:=hs
    exact False.elim q
  | cont =>
    obtain ⟨_,_,_,q⟩:=hs
    exact False.elim q
end L2
namespace L2
open PySem PySem.Spec PyProof.Rows
section
variable {X:Cx} {x:Str} {p pos:Pos} {e:Expr} {es:List Expr} {t:TA} {id T:String} {r:List V->Hp->VK->Prop}
noncomputable def tCB (r:List V->Hp->VK->Prop) (t:TA):TE:=fun σ H Q=>t σ H fun vs H1=>r vs H1 Q
theorem pe_callB (hc:yl X (.builtin id) r) (hg:Gl X x) (hm:X.mg x = none) (hv:bootBuiltins x = some (.builtin id)) (ha:PA X (e :: es) t) (hn:x ≠ "__name__" := by decide) (hdb:(x == ("__debug__" : Str)) = false:=by decide)
    (he:starEach (e :: es) X.env = (false,eval e X.env) :: starEach es X.env:=by rfl) (hpl:(backTo pos (starEach es X.env)).any (·.1) = false:=by rfl):PE X (.Call (.Name x p) (e :: es) [] pos) (tCB r t):=by
  intro pins s σ H Q I h
  refine wpAny_Call_Name_kw (ZJ I hg hm hv ?_ hn hdb)
  exact PyProof.Rows.callWith_builtin1 (thn (ha pos pins s σ H _ I h) fun us s1 ⟨vs,H1,I1,r1,q1⟩=>hc pins s1 σ H1 vs us Q I1 r1 q1) he hpl
theorem jjZ (hc:yl X (.type T) r) (hg:Gl X x) (hm:X.mg x = none) (hv:bootBuiltins x = some (.type T)) (ha:PA X (e :: es) t) (hn:x ≠ "__name__" := by decide) (hdb:(x == ("__debug__" : Str)) = false:=by decide)
    (he:starEach (e :: es) X.env = (false,eval e X.env) :: starEach es X.env:=by rfl) (hpl:(backTo pos (starEach es X.env)).any (·.1) = false:=by rfl):PE X (.Call (.Name x p) (e :: es) [] pos) (tCB r t):=by
  intro pins s σ H Q I h
  refine wpAny_Call_Name_kw (ZJ I hg hm hv ?_ hn hdb)
  exact PyProof.Rows.callWith_type1 (thn (ha pos pins s σ H _ I h) fun us s1 ⟨vs,H1,I1,r1,q1⟩=>hc pins s1 σ H1 vs us Q I1 r1 q1) he hpl
end
end L2
namespace HT
open PySem PyProof.Rows
section
open PySem.SeqAt
open PySem.AutoSeq1 (wpAny_loadPart')
open PySem.MeetsSeq PySem.MeetsSeq2 PySem.MeetsSeq3
end
section
variable {prog:Program} {w:World} {A:Around} {E:Value->Shared->Prop} {s:Shared}
noncomputable def sIx (n d:Nat):Option Int->Nat
  | none=>d
  | some v=>if v < 0 then (v + (n:Int)).toNat else min v.toNat n
theorem sIx_none (n d:Nat):sIx n d none = d:=rfl
theorem zJ (n d k:Nat):sIx n d (some (k:Int)) = min k n:=by
  show (if (k:Int) < 0 then ((k:Int) + (n:Int)).toNat else min (k:Int).toNat n) = min k n
  rw [if_neg (by omega),Int.toNat_natCast]
theorem sIx_le (n d:Nat) (hd:d <= n) (o:Option Int):sIx n d o <= n:=by
  cases o with
  | none=>exact hd
  | some v =>
    show (if v < 0 then (v + (n:Int)).toNat else min v.toNat n) <= n
    by_cases hv:v < 0
    · rw [if_pos hv]; omega
    · rw [if_neg hv]; exact Nat.min_le_right _ _
end
end HT
namespace L2
open PySem PySem.Spec PyProof.Rows
noncomputable abbrev TO:=St->Hp->(Option Int->Hp->Prop)->Prop
noncomputable def PO (X:Cx) (e:Option Expr) (t:TO):Prop :=
  ∀ (pins:List (Addr × Obj)) (s:Shared) (σ:St) (H:Hp) (Q:Option Int->Hp->Prop),Inv X pins σ H s->t σ H Q ->
    wpAny (model X.prog X.w) X.A (evalPart e X.env) (fun u s'=>∃ o H',Inv X pins σ H' s' /\ IsPart u o /\ Q o H') X.xe s
noncomputable def jjl:TO:=fun _ H Q=>Q none H
noncomputable def tPart (t:TE):TO:=fun σ H Q=>t σ H fun x H1=>∃ i,x = .int i /\ Q (some i) H1
section
variable {X:Cx} {e:Expr} {te:TE} {lo hi:Option Expr} {tl th:TO} {pos p2:Pos}
theorem Zy:PO X none jjl:=by
  intro pins s σ H Q I h
  rw [evalPart_none]
  exact wpAny_pure ⟨none,H,I,.none,h⟩
theorem qC (h:PE X e te):PO X (some e) (tPart te):=by
  intro pins s σ H Q I hw
  rw [evalPart_some]
  refine thn (h pins s σ H _ I hw) fun u s1 zz=>?_
  obtain ⟨x,H1,I1,r1,q1⟩:=zz
  obtain ⟨i,rfl,q⟩:=q1
  obtain ⟨t,rfl⟩:=r1
  exact ⟨some i,H1,I1,.int i t,q⟩
noncomputable def SlR (X:Cx) (r:V->Option Int->Option Int->Hp->VK->Prop):Prop :=
  ∀ (pins:List (Addr × Obj)) (s:Shared) (σ:St) (H:Hp) (x:V) (v vl vu:Value) (lo hi:Option Int) (sl:Addr) (Q:VK),Inv X pins σ H s->RelV x v->s.heap.IsSliceOf sl vl vu .none->IsPart vl lo->IsPart vu hi->r x lo hi H Q ->
    ∃ T id,typeLookup (.type T) "__getitem__" = pure (some (.builtin id)) /\ s.TypeIs v T /\ wpAny (model X.prog X.w) X.A (getItem v (.ref sl)) (EP X pins σ Q) X.xe s
noncomputable def tSl (r:V->Option Int->Option Int->Hp->VK->Prop) (te:TE) (tl th:TO):TE:=fun σ H Q=>te σ H fun x H1=>tl σ H1 fun l H2=>th σ H2 fun u H3=>r x l u H3 Q
theorem qT {r:V->Option Int->Option Int->Hp->VK->Prop} (hr:SlR X r) (he:PE X e te) (hl:PO X lo tl) (hu:PO X hi th):PE X (.Subscript e (.Slice lo hi none p2) pos) (tSl r te tl th):=by
  intro pins s σ H Q I h
  refine Subscript_ (thn (he pins s σ H _ I h) fun v s1 zz=>?_)
  obtain ⟨x,H1,I1,r1,q1⟩:=zz
  refine wpAny_Slice (thn (hl pins s1 σ H1 _ I1 q1) fun vl s2 ⟨l,H2,I2,pl,q2⟩=>thn (hu pins s2 σ H2 _ I2 q2) fun vu s3 zz=>?_)
  obtain ⟨u,H3,I3,pu,q3⟩:=zz
  rw [evalPart_none]
  refine wpAny_pure ?_
  have I4:Inv X pins σ H3 { s3 with heap:=s3.heap.push { cls:=.type "slice",data:=.fields #[vl,vu,.none] } }:=I3.kept (t':=s3.toks) fun b ob q=>Heap.get?_push_of_some _ q
  obtain ⟨T,id,hT,ht,hg⟩:=hr pins { s3 with heap:=s3.heap.push { cls:=.type "slice",data:=.fields #[vl,vu,.none] } } σ H3 x v vl vu l u s3.heap.objs.size Q I4 r1 (Heap.IsSliceOf.new ..) pl pu q3
  show wpAny (model X.prog X.w) X.A (subscriptTail e (.Slice lo hi none p2) v (.ref s3.heap.objs.size)) (EP X pins σ Q) X.xe { s3 with heap:=s3.heap.push { cls:=.type "slice",data:=.fields #[vl,vu,.none] } }
  exact tail_any (ops:=[.ref s3.heap.objs.size,v]) ht hT hg (by with_unfolding_all rfl)
noncomputable def cutV (xs:List V) (lo hi:Option Int):List V:=(xs.drop (HT.sIx xs.length 0 lo)).take (HT.sIx xs.length xs.length hi - HT.sIx xs.length 0 lo)
theorem jhy (xs:List V) (lo hi:Option Int):(cutV xs lo hi).length <= xs.length:=by
  unfold cutV
  rw [List.length_take,List.length_drop]
  omega
end
end L2
namespace L2
open PySem PySem.Spec PyProof.Rows
noncomputable def ixN (n:Nat) (i:Int):Option Nat:=if 0 <= i then (if i < n then some i.toNat else none) else if -(n:Int) <= i then some (i + n).toNat else none
noncomputable def atI {α:Type} (xs:List α) (i:Int):Option α:=(ixN xs.length i).bind fun j=>xs[j]?
theorem ixN_seq {n:Nat} {i:Int} {j:Nat} (h:ixN n i = some j):seqIndex? i n = some j /\ j < n /\ -(n:Int) <= i /\ i < n:=by
  unfold ixN at h
  by_cases h0:0 <= i
  · rw [if_pos h0] at h
    by_cases h1:i < n
    · rw [if_pos h1] at h
      have e:i.toNat = j:=Option.some.inj h
      exact ⟨by rw [seqIndex_of h0 h1,e],by omega,by omega,h1⟩
    · rw [if_neg h1] at h; cases h
  · rw [if_neg h0] at h
    by_cases h1:-(n:Int) <= i
    · rw [if_pos h1] at h
      have e:(i + n).toNat = j:=Option.some.inj h
      exact ⟨by rw [seqIndex_neg (by omega) h1,e],by omega,h1,by omega⟩
    · rw [if_neg h1] at h; cases h
theorem jgP {α:Type} {xs:List α} {i:Int} {v:α} (h:atI xs i = some v):∃ j,seqIndex? i xs.length = some j /\ xs[j]? = some v /\ j < xs.length /\ -(xs.length:Int) <= i /\ i < xs.length:=by
  unfold atI at h
  cases e:ixN xs.length i with
  | none=>rw [e] at h; cases h
  | some j =>
    rw [e] at h
    obtain ⟨h1,h2,h3,h4⟩:=ixN_seq e
    exact ⟨j,h1,h,h2,h3,h4⟩
theorem jen {α:Type} {xs:List α} {j:Nat} {v:α} (h:xs[j]? = some v):atI xs (j:Int) = some v:=by
  have hj:j < xs.length:=(List.getElem?_eq_some_iff.mp h).1
  have e:ixN xs.length (j:Int) = some j:=by
    unfold ixN
    rw [if_pos (by omega),if_pos (by omega)]; simp
  unfold atI; rw [e]; exact h
noncomputable def ji2 (b:Expr):Prop:=∀ o i,subscripted b false o i = operate [o,i] (getItem o i)
noncomputable def IxR (X:Cx) (r:R2):Prop :=
  ∀ (value slice:Expr) (pins:List (Addr × Obj)) (s:Shared) (σ:St) (H:Hp) (x y:V) (v u:Value) (Q:VK),Inv X pins σ H s->RelV x v->RelV y u->r x y H Q ->
    subscripted slice false v u = operate [v,u] (getItem v u)->wpAny (model X.prog X.w) X.A (subscriptTail value slice v u) (EP X pins σ Q) X.xe s
noncomputable def MtR (X:Cx) (id:String) (r:V->List V->Hp->VK->Prop):Prop :=
  ∀ (pins:List (Addr × Obj)) (s:Shared) (σ:St) (H:Hp) (x:V) (xs:List V) (v:Value) (us:List Value) (Q:VK),Inv X pins σ H s->RelV x v->Vals xs us->r x xs H Q ->
    wpAny (model X.prog X.w) X.A (call (.builtin id) (v :: us)) (EP X pins σ Q) X.xe s
section
variable {X:Cx} {a b:Expr} {ta tb:TE} {pos:Pos}
theorem jX {r:R2} (hr:IxR X r) (ha:PE X a ta) (hb:PE X b tb) (hs:ji2 b):PE X (.Subscript a b pos) (tOp r ta tb):=by
  intro pins s σ H Q I h
  exact Subscript_ (binT ha hb I h fun v u s2 x y H2 I2 rx ry q=>hr a b pins s2 σ H2 x y v u Q I2 rx ry q (hs _ _))
noncomputable def rIxL (K:PySem.W.Frag):R2:=fun x y H Q=>∃ p xs i v,x = .ref p /\ y = .int i /\ SqL K H p xs /\ atI xs i = some v /\ Q v H
noncomputable def rIxT (K:PySem.W.Frag):R2:=fun x y H Q=>∃ p xs i v,x = .ref p /\ y = .int i /\ SqT K H p xs /\ atI xs i = some v /\ Q v H
noncomputable def rIxS:R2:=fun x y H Q=>∃ z i c,x = .str z /\ y = .int i /\ z.length <= sizeLine /\ atI z.cps.toList i = some c /\ Q (.str ⟨#[c]⟩) H
theorem ix_list:IxR X (rIxL X.K):=by
  intro value slice pins s σ H x y v u Q I rx ry h hs
  obtain ⟨p,xs,i,z,rfl,rfl,hq,he,q⟩:=h
  cases rx
  obtain ⟨t,rfl⟩:=ry
  obtain ⟨its,r,pl,hz⟩:=I.list hq
  obtain ⟨j,h1,h2,h3,h4,h5⟩:=jgP he
  obtain ⟨w,ew,rw'⟩:=r.get h2
  have hl:=r.length
  have hn:=je6
  have fin:EP X pins σ Q w s:=⟨z,H,I,rw',q⟩
  by_cases h0:0 <= i
  · have hj:i.toNat = j:=by
      rw [seqIndex_of h0 h5] at h1
      exact Option.some.inj h1
    exact item_listR pl.isList h0 (by omega) (by rw [hj]; simpa using ew) fin hs
  · have hj:(i + (its.toArray.size:Int)).toNat = j:=by
      rw [seqIndex_neg (by omega) h4] at h1
      rw [List.size_toArray,<- hl]
      exact Option.some.inj h1
    exact subscriptTail_builtinR (x:=w) pl.isList.typeIs slot_list_getitem.lookup
      (wpAny_getItem_list_neg (Q:=fun r s'=>r = w /\ EP X pins σ Q r s') pl.isList (by omega) (by rw [List.size_toArray] <;> omega) (by omega) (by rw [hj]; simpa using ew) ⟨rfl,fin⟩) hs
theorem Jq:IxR X (rIxT X.K):=by
  intro value slice pins s σ H x y v u Q I rx ry h hs
  obtain ⟨p,xs,i,z,rfl,rfl,hq,he,q⟩:=h
  cases rx
  obtain ⟨t,rfl⟩:=ry
  obtain ⟨its,r,pl,hz⟩:=I.tuple hq
  obtain ⟨j,h1,h2,h3,h4,h5⟩:=jgP he
  obtain ⟨w,ew,rw'⟩:=r.get h2
  have hl:=r.length
  have hn:=je6
  have fin:EP X pins σ Q w s:=⟨z,H,I,rw',q⟩
  exact subscriptTail_builtinR (x:=w) pl.typeIs slot_tuple_getitem.lookup
    (getItem_tuple (j:=j) (Q:=fun r s'=>r = w /\ EP X pins σ Q r s') pl (by omega) (by omega) (by rw [List.size_toArray,<- hl]; exact h1) (by simpa using ew) ⟨rfl,fin⟩) hs
theorem ix_str:IxR X rIxS:=by
  intro value slice pins s σ H x y v u Q I rx ry h hs
  obtain ⟨z,i,c,rfl,rfl,hz,he,q⟩:=h
  obtain ⟨t,rfl⟩:=rx
  obtain ⟨t',rfl⟩:=ry
  obtain ⟨j,h1,h2,h3,h4,h5⟩:=jgP he
  have hl:z.cps.toList.length = z.length:=by simp [Str.length]
  rw [hl] at h1 h4 h5
  have hn:=je6
  exact tail_any (typeIs_str s z t) slot_str_getitem.lookup (getItem_str (c:=c) (by
    have e1:decide (i < -(2 ^ 63:Int)) = false:=decide_eq_false (by omega)
    have e2:decide (i ≥ 2 ^ 63) = false:=decide_eq_false (by omega)
    rw [e1,e2,Bool.or_false]) (by rw [h1]; simpa using h2) ⟨.str ⟨#[c]⟩,H,I.tok _,⟨_,rfl⟩,q⟩) hs
theorem jhh (lo hi:Option Int) (n:Nat):(sliceBounds lo hi none n).1 = ((HT.sIx n 0 lo:Nat):Int) /\ (sliceBounds lo hi none n).2.1 = ((HT.sIx n n hi:Nat):Int) /\ (sliceBounds lo hi none n).2.2 = 1:=by
  refine ⟨?_,?_,rfl⟩
  · cases lo with
    | none=>simp [sliceBounds,HT.sIx]
    | some i =>
      simp only [sliceBounds,HT.sIx,Option.getD_none,show (1:Int) > 0 by decide,if_true]
      by_cases h:i < 0
      · simp only [h,if_true] <;> omega
      · simp only [h,if_false] <;> omega
  · cases hi with
    | none=>simp [sliceBounds,HT.sIx]
    | some i =>
      simp only [sliceBounds,HT.sIx,Option.getD_none,show (1:Int) > 0 by decide,if_true]
      by_cases h:i < 0
      · simp only [h,if_true] <;> omega
      · simp only [h,if_false] <;> omega
theorem jf5 (its:List Value) (lo hi:Option Int):slicePick its.toArray lo hi none = ((its.drop (HT.sIx its.length 0 lo)).take (HT.sIx its.length its.length hi - HT.sIx its.length 0 lo)).toArray:=by
  obtain ⟨h1,h2,h3⟩:=jhh lo hi its.toArray.size
  unfold slicePick
  rw [h1,h2,h3]
  simp only [sliceRange_one,pick_run,List.size_toArray] <;> rfl
noncomputable def rSlL (K:PySem.W.Frag):V->Option Int->Option Int->Hp->VK->Prop:=fun x lo hi H Q=>∃ a xs,x = .ref a /\ SqL K H a xs /\ ∀ p,H p = none->Q (.ref p) (upd H p (.lst (cutV xs lo hi)))
theorem sl_list:SlR X (rSlL X.K):=by
  intro pins s σ H x v vl vu lo hi sl Q I rx hs pl pu h
  obtain ⟨a,xs,rfl,hx,q⟩:=h
  cases rx
  obtain ⟨its,r,ht,hz⟩:=I.list hx
  have hlen:=r.length
  refine ⟨"list",_,slot_list_getitem.lookup,ht.isList.typeIs,?_⟩
  refine wpAny_getItem_list_slice ht.isList hs pl pu .none (by simp) ?_ (by rw [List.size_toArray] <;> omega)
  rw [jf5,<- hlen]
  refine ⟨.ref s.heap.objs.size,_,I.laid (t':=s.toks) (o:=.lst (cutV xs lo hi)) (fun b ob q=>Heap.get?_push_of_some _ q) (Nat.le_refl _) ?_,rfl,q _ (I.hok.fresh (Nat.le_refl _))⟩
  exact ⟨Nat.le_trans (jhy xs lo hi) hz,_,0,(r.drop (HT.sIx xs.length 0 lo)).take (HT.sIx xs.length xs.length hi - HT.sIx xs.length 0 lo),Heap.get?_push_size _ rfl⟩
noncomputable def jdV:V->Bool
  | .non=>true
  | .bl _=>true
  | .int _=>true
  | .str _=>true
  | _=>false
noncomputable def eqV:V->V->Bool
  | .non,.non=>true
  | .bl a,.bl b=>a == b
  | .bl a,.int b=>(if a then 1 else 0) == b
  | .int a,.bl b=>a == (if b then 1 else 0)
  | .int a,.int b=>a == b
  | .str a,.str b=>a == b
  | _,_=>false
theorem eqAt_V {A:Around} {s:Shared} {y x:V} {u v:Value} (ry:RelV y u) (rx:RelV x v) (fy:jdV y = true) (fx:jdV x = true):SeqAt.EqAt A s u v (eqV y x):=by
  cases y with
  | non =>
    cases ry
    cases x with
    | non=>cases rx; exact SeqAt.EqAt.same _
    | bl b=>cases rx; exact SeqAt.EqAt.none_bool b
    | int b=>obtain ⟨t,rfl⟩:=rx; exact SeqAt.EqAt.none_int b t
    | str b=>obtain ⟨t,rfl⟩:=rx; exact SeqAt.EqAt.none_str b t
    | _=>exact absurd (show false = true from fx) Bool.false_ne_true
  | bl a =>
    cases ry
    cases x with
    | non=>cases rx; exact SeqAt.EqAt.bool_none a
    | bl b=>cases rx; exact SeqAt.EqAt.bool_bool a b
    | int b=>obtain ⟨t,rfl⟩:=rx; exact SeqAt.EqAt.bool_int a b t
    | str b=>obtain ⟨t,rfl⟩:=rx; exact SeqAt.EqAt.bool_str a b t
    | _=>exact absurd (show false = true from fx) Bool.false_ne_true
  | int a =>
    obtain ⟨t',rfl⟩:=ry
    cases x with
    | non=>cases rx; exact SeqAt.EqAt.int_none a t'
    | bl b=>cases rx; exact SeqAt.EqAt.int_bool a t' b
    | int b=>obtain ⟨t,rfl⟩:=rx; exact SeqAt.EqAt.int_int a t' b t
    | str b=>obtain ⟨t,rfl⟩:=rx; exact SeqAt.EqAt.int_str a t' b t
    | _=>exact absurd (show false = true from fx) Bool.false_ne_true
  | str a =>
    obtain ⟨t',rfl⟩:=ry
    cases x with
    | non=>cases rx; exact SeqAt.EqAt.str_none a t'
    | bl b=>cases rx; exact SeqAt.EqAt.str_bool a t' b
    | int b=>obtain ⟨t,rfl⟩:=rx; exact SeqAt.EqAt.str_int a t' b t
    | str b=>obtain ⟨t,rfl⟩:=rx; exact SeqAt.EqAt.str_str a t' b t
    | _=>exact absurd (show false = true from fx) Bool.false_ne_true
  | _=>exact absurd (show false = true from fy) Bool.false_ne_true
noncomputable def eqU (x:V) (u:Value):Bool:=match u with
  | .none=>eqV .non x
  | .bool b=>eqV (.bl b) x
  | .int i _=>eqV (.int i) x
  | .str z _=>eqV (.str z) x
  | _=>false
theorem eqU_of {x y:V} {u:Value} (r:RelV y u) (f:jdV y = true):eqU x u = eqV y x:=by
  cases y with
  | non=>cases r; rfl
  | bl b=>cases r; rfl
  | int i=>obtain ⟨t,rfl⟩:=r; rfl
  | str z=>obtain ⟨t,rfl⟩:=r; rfl
  | _=>exact absurd (show false = true from f) Bool.false_ne_true
theorem jcJ {x:V}:∀ {xs:List V} {us:List Value},Vals xs us->xs.all jdV = true->us.any (eqU x) = xs.any fun y=>eqV y x
  | _,_,.nil,_=>rfl
  | y :: xs,u :: us,.cons r t,f=>by
    rw [List.all_cons,Bool.and_eq_true] at f
    rw [List.any_cons,List.any_cons,eqU_of r f.1,jcJ t f.2]
theorem jbi {A:Around} {s:Shared} {x:V} {v:Value} (rx:RelV x v) (fx:jdV x = true):∀ {xs:List V} {us:List Value},Vals xs us->xs.all jdV = true->∀ u ∈ us,SeqAt.EqAt A s u v (eqU x u)
  | _,_,.nil,_=>fun u hu=>by cases hu
  | y :: xs,u :: us,.cons r t,f=>fun u' hu=>by
    rw [List.all_cons,Bool.and_eq_true] at f
    rcases List.mem_cons.mp hu with rfl | hu
    · rw [eqU_of r f.1]; exact eqAt_V r rx f.1 fx
    · exact jbi rx fx t f.2 u' hu
noncomputable def inV (x:V) (xs:List V):Bool:=xs.any fun y=>eqV y x
noncomputable def rIn (K:PySem.W.Frag) (neg:Bool):R2:=fun x y H Q=>∃ p xs,y = .ref p /\ (SqL K H p xs ∨ SqT K H p xs) /\ jdV x = true /\ xs.all jdV = true /\ Q (.bl (if neg then !inV x xs else inV x xs)) H
theorem jjY:OpR X (compareOp .In) (rIn X.K false):=by
  intro pins s σ H x y v u Q I rx ry h
  obtain ⟨p,xs,rfl,hq,fx,fs,q⟩:=h
  cases ry
  rcases hq with hq | hq
  · obtain ⟨its,r,pl,hz⟩:=I.list hq
    refine SeqAt.in_listAt (eqU x) pl.isList (fun w hw=>jbi rx fx r fs w (by simpa using hw)) ⟨.bl _,H,I,rfl,?_⟩
    rw [show its.toArray.any (eqU x) = its.any (eqU x) by simp,jcJ r fs]
    exact q
  · obtain ⟨its,r,pl,hz⟩:=I.tuple hq
    refine SeqAt.in_tupleAt (eqU x) pl (fun w hw=>jbi rx fx r fs w (by simpa using hw)) ⟨.bl _,H,I,rfl,?_⟩
    rw [show its.toArray.any (eqU x) = its.any (eqU x) by simp,jcJ r fs]
    exact q
theorem jaz:OpR X (compareOp .NotIn) (rIn X.K true):=by
  intro pins s σ H x y v u Q I rx ry h
  obtain ⟨p,xs,rfl,hq,fx,fs,q⟩:=h
  cases ry
  rcases hq with hq | hq
  · obtain ⟨its,r,pl,hz⟩:=I.list hq
    refine SeqAt.notIn_listAt (eqU x) pl.isList (fun w hw=>jbi rx fx r fs w (by simpa using hw)) ⟨.bl _,H,I,rfl,?_⟩
    rw [show its.toArray.any (eqU x) = its.any (eqU x) by simp,jcJ r fs]
    exact q
  · obtain ⟨its,r,pl,hz⟩:=I.tuple hq
    refine SeqAt.notIn_tupleAt (eqU x) pl (fun w hw=>jbi rx fx r fs w (by simpa using hw)) ⟨.bl _,H,I,rfl,?_⟩
    rw [show its.toArray.any (eqU x) = its.any (eqU x) by simp,jcJ r fs]
    exact q
theorem Jf:yl X (.builtin "len") (fun xs H Q=>∃ p ys,xs = [.ref p] /\ (SqL X.K H p ys ∨ SqT X.K H p ys) /\ Q (.int ys.length) H):=by
  intro pins s σ H xs us Q I r h
  obtain ⟨p,ys,rfl,hq,q⟩:=h
  obtain ⟨u,rfl,rx⟩:=vals1 r
  cases rx
  have hn:=je6
  rcases hq with hq | hq
  · obtain ⟨its,r',pl,hz⟩:=I.list hq
    have hlen:=r'.length
    exact Calls.call_len_list pl.isList (by simp only [List.size_toArray] <;> omega) ⟨.int ys.length,H,I.tok _,⟨s.toks + 1,by rw [List.size_toArray,hlen]⟩,q⟩
  · obtain ⟨its,r',pl,hz⟩:=I.tuple hq
    have hlen:=r'.length
    exact len_tuple pl (by simp only [List.size_toArray] <;> omega) ⟨.int ys.length,H,I.tok _,⟨s.toks + 1,by rw [List.size_toArray,hlen]⟩,q⟩
theorem Yb:yl X (.builtin "len") (fun xs H Q=>∃ z,xs = [.str z] /\ z.length <= sizeLine /\ Q (.int z.length) H):=by
  intro pins s σ H xs us Q I r h
  obtain ⟨z,rfl,hz,q⟩:=h
  obtain ⟨u,rfl,t,rfl⟩:=vals1 r
  have hn:=je6
  exact len_str (by omega) ⟨.int z.length,H,I.tok _,⟨_,rfl⟩,q⟩
theorem jcK:yl X (.type "list") (fun xs H Q=>∃ p ys,xs = [.ref p] /\ (SqL X.K H p ys ∨ SqT X.K H p ys) /\ ∀ l,H l = none->Q (.ref l) (upd H l (.lst ys))):=by
  intro pins s σ H xs us Q I r h
  obtain ⟨p,ys,rfl,hq,q⟩:=h
  obtain ⟨u,rfl,rx⟩:=vals1 r
  cases rx
  have fin:∀ (its:List Value),Vals ys its->ys.length <= sizeLine->∀ (h':Heap) (c':Nat),(∀ b o',s.heap.get? b = some o'->h'.get? b = some o') ->
      h'.get? s.heap.objs.size = some { cls:=.type "list",dict:=none,data:=.seq its.toArray c',slots:=#[] }->EP X pins σ Q (.ref s.heap.objs.size) { s with heap:=h' }:=fun its r' hz h' c' kp e =>
    ⟨.ref s.heap.objs.size,_,I.laid (t':=s.toks) kp (Nat.le_refl _) (show qP X.prog X.w _ h' _ (.lst ys) from ⟨hz,its,c',r',e⟩),rfl,q _ (I.hok.fresh (Nat.le_refl _))⟩
  rcases hq with hq | hq
  · obtain ⟨its,r',pl,hz⟩:=I.list hq
    have hlen:=r'.length
    obtain ⟨o,ho,hc,n,hd⟩:=pl.isList
    exact call_list_seq p (.inl rfl) ho hc hd (fun h' c' kp e=>fin its r' hz h' c' kp e) (by simp only [List.size_toArray] <;> omega)
  · obtain ⟨its,r',pl,hz⟩:=I.tuple hq
    have hlen:=r'.length
    obtain ⟨o,ho,hc,n,hd⟩:=pl
    exact call_list_seq p (.inr rfl) ho hc hd (fun h' c' kp e=>fin its r' hz h' c' kp e) (by simp only [List.size_toArray] <;> omega)
noncomputable def tyV (K:PySem.W.Frag) (T:String) (x:V) (H:Hp):Prop:=match x with
  | .str _=>T = "str"
  | .int _=>T = "int"
  | .ref p=>(T = "list" /\ ∃ xs,SqL K H p xs) ∨ (T = "tuple" /\ ∃ o,K.lookup p = some o /\ o.cls = .type "tuple" /\ o.dict = none) ∨
      (T = "dict" /\ ((∃ kvs,H p = some (.dK kvs)) ∨ ∃ kvs,H p = some (.dT kvs))) ∨ (T = "set" /\ ∃ S n,H p = some (.set S n))
  | _=>False
theorem tyV_is {pins:List (Addr × Obj)} {σ:St} {H:Hp} {s:Shared} {T:String} {x:V} {v:Value} (I:Inv X pins σ H s) (r:RelV x v) (ty:tyV X.K T x H) :
    s.TypeIs v T /\ ∀ a,v = .ref a->∃ ob,s.heap.get? a = some ob /\ ob.dict = none:=by
  cases x with
  | str z =>
    obtain ⟨t,rfl⟩:=r
    cases (show T = "str" from ty)
    exact ⟨typeIs_str s z t,fun _ e=>nomatch e⟩
  | int i =>
    obtain ⟨t,rfl⟩:=r
    cases (show T = "int" from ty)
    exact ⟨typeIs_int s i t,fun _ e=>nomatch e⟩
  | ref p =>
    cases r
    rcases ty with ⟨rfl,xs,hq⟩ | ⟨rfl,o,hk,hc,hd⟩ | ⟨rfl,hk⟩ | ⟨rfl,S,n,hk⟩
    · obtain ⟨its,_,pl,_⟩:=I.list hq
      refine ⟨pl.isList.typeIs,fun a e=>?_⟩
      cases e
      obtain ⟨o,n,e,c,hd,_⟩:=pl
      exact ⟨o,e,hd⟩
    · refine ⟨⟨o,I.kIn p o hk,hc⟩,fun a e=>?_⟩
      cases e
      exact ⟨o,I.kIn _ o hk,hd⟩
    · have z:∃ o,s.heap.get? p = some o /\ o.ExactDict:=by
        rcases hk with ⟨kvs,hk⟩ | ⟨kvs,hk⟩
        · obtain ⟨_,_,_,_,o,_,_,e,ex,_⟩:=I.hok p _ hk
          exact ⟨o,e,ex⟩
        · obtain ⟨_,_,_,_,o,_,_,e,ex,_⟩:=I.hok p _ hk
          exact ⟨o,e,ex⟩
      obtain ⟨o,e,ex⟩:=z
      refine ⟨⟨o,e,ex.1⟩,fun a e2=>?_⟩
      cases e2
      exact ⟨o,e,ex.2.1⟩
    · obtain ⟨o,_,_,_,e,ex,_⟩:=I.hok p _ hk
      refine ⟨⟨o,e,ex.1⟩,fun a e2=>?_⟩
      cases e2
      exact ⟨o,e,ex.2.1⟩
  | _=>exact False.elim ty
noncomputable def tBM (K:PySem.W.Frag) (T:String) (r:V->List V->Hp->VK->Prop) (to:TE) (t:TA):TE:=fun σ H Q=>to σ H fun x H1=>tyV K T x H1 /\ t σ H1 fun xs H2=>r x xs H2 Q
variable {o e:Expr} {es:List Expr} {to:TE} {t:TA} {name:Str} {apos cpos:Pos} {T id:String} {r:V->List V->Hp->VK->Prop}
theorem pe_bm (pa:PlainAttrs T) (slot:Slot T name id) (hty:typeOf (.builtin id) = pure (.type "method_descriptor")) (hm:MtR X id r) (ho:PE X o to) (ha:PA X (e :: es) t)
    (hbase:attributeBase o name X.env (eval o X.env) = eval o X.env:=by rfl)
    (hfew:((backTo cpos (starEach (e :: es) X.env)).all (fun x=>!x.1) && (backToKw cpos (keywordEach [] X.env)).all (fun x=>x.1.isSome)
      && decide ((e :: es).length + ([]:List Keyword).length + (if ([]:List Keyword).isEmpty then 0 else 1) < 30)) = true:=by rfl)
    (hline:(apos.endLine == cpos.line) = true:=by rfl) (hs:starEach (e :: es) X.env = (false,eval e X.env) :: starEach es X.env:=by rfl) (hplain:(backTo cpos (starEach es X.env)).any (·.1) = false:=by rfl) :
    PE X (.Call (.Attribute o name apos) (e :: es) [] cpos) (tBM X.K T r to t):=by
  intro pins s σ H Q I h
  refine wpAny_Call_method_late hbase hfew hline rfl (thn (ho pins s σ H _ I h) fun v s1 zz=>?_)
  obtain ⟨x,H1,I1,r1,ty,q1⟩:=zz
  obtain ⟨h1,h2⟩:=tyV_is I1 r1 ty
  refine ⟨T,id,pa,slot,hty,h1,h2,?_⟩
  have hA:=ha cpos pins s1 σ H1 _ I1 q1
  rw [hs] at hA ⊢
  refine Calls.callWith_builtin (by show (false || (backTo cpos (starEach es X.env)).any (·.1)) = false; rw [hplain] <;> rfl) (Calls.evalArgs_plain ?_)
  exact thn hA fun us s2 ⟨vs,H2,I2,r2,q2⟩=>hm pins s2 σ H2 x vs v us Q I2 r1 r2 q2
end
end L2
namespace L2
open PySem PySem.Spec PyProof.Rows
noncomputable def MtM (X:Cx) (id:String) (r:V->List V->Hp->VK->Prop):Prop :=
  ∀ (pins:List (Addr × Obj)) (s:Shared) (σ:St) (H:Hp) (x:V) (xs:List V) (v:Value) (us:List Value) (Q:VK),Inv X pins σ H s->RelV x v->Vals xs us->r x xs H Q ->
    wpAny (model X.prog X.w) X.A (call (.builtin id) (v :: us)) (EP X pins σ Q) X.xe s
theorem Vals.one {x:V} {us:List Value} (h:Vals [x] us):∃ u,us = [u] /\ RelV x u:=by
  cases h with | cons r h=>cases h with | nil=>exact ⟨_,rfl,r⟩
theorem Vals.reverse {xs:List V} {us:List Value} (h:Vals xs us):Vals xs.reverse us.reverse:=by
  induction h with
  | nil=>exact .nil
  | cons r t ih=>rw [List.reverse_cons,List.reverse_cons]; exact Vals.append ih (.cons r .nil)
theorem Vals.rep {xs:List V} {us:List Value} (h:Vals xs us):∀ k:Nat,Vals (List.replicate k xs).flatten (List.replicate k us).flatten
  | 0=>.nil
  | k + 1=>by
    rw [List.replicate_succ,List.replicate_succ,List.flatten_cons,List.flatten_cons]
    exact Vals.append h (Vals.rep h k)
theorem foldl_rep (its:List Value):∀ (k:Nat) (acc:List Value),
    List.foldl (fun x1 x2=>x1 ++ x2) acc.toArray (List.replicate k its.toArray) = (acc ++ (List.replicate k its).flatten).toArray
  | 0,acc=>by simp
  | k + 1,acc=>by
    have e:acc.toArray ++ its.toArray = (acc ++ its).toArray:=by simp
    have e2:(acc ++ its) ++ (List.replicate k its).flatten = acc ++ (List.replicate (k + 1) its).flatten:=by
      rw [List.replicate_succ,List.flatten_cons,List.append_assoc]
    rw [<- e2,<- foldl_rep its k (acc ++ its),<- e,List.replicate_succ,List.foldl_cons]
section
variable {X:Cx} {pins:List (Addr × Obj)} {σ:St} {H:Hp} {s:Shared} {l b:Addr} {xs ys zs:List V}
theorem Inv.lset {its its':List Value} {n:Nat} {f:Array Value->Array Value} {t':Nat} (I:Inv X pins σ H s) (hH:H l = some (.lst xs))
    (e:s.heap.get? l = some { cls:=.type "list",data:=.seq its.toArray n }) (hf:f its.toArray = its'.toArray) (hv:Vals ys its') (hz:ys.length <= sizeLine) :
    Inv X pins σ (upd H l (.lst ys)) { s with heap:=s.heap.update l (Obj.mapSeq f),toks:=t' }:=by
  have q:=PySem.IsL.update e f
  rw [hf] at q
  refine I.write (x:=l) (e:=l) (by rw [hH]; exact trivial) (.inl rfl) (fun b' u hb hu=>(Heap.get?_update_other s.heap (Obj.mapSeq f) (Ne.symm hb)).trans hu) ⟨_,q⟩ ?_
  exact ⟨hz,its',_,hv,q⟩
theorem Inv.lnew {its:List Value} {t':Nat} (I:Inv X pins σ H s) (hv:Vals ys its) (hz:ys.length <= sizeLine) :
    Inv X pins σ (upd H s.heap.objs.size (.lst ys)) { s with heap:=s.heap.push { cls:=.type "list",data:=.seq its.toArray },toks:=t' } :=
  I.laid (fun _ _ q=>Heap.get?_push_of_some _ q) (Nat.le_refl _) ⟨hz,its,0,hv,Heap.get?_push_size _ rfl⟩
theorem Inv.fresh (I:Inv X pins σ H s):H s.heap.objs.size = none:=I.hok.fresh (Nat.le_refl _)
theorem Inv.lstM (I:Inv X pins σ H s) (hH:H l = some (.lst xs)):xs.length <= sizeLine /\ ∃ (its:List Value) (n:Nat),Vals xs its /\ xs.length = its.length /\ s.heap.get? l = some { cls:=.type "list",data:=.seq its.toArray n }:=by
  obtain ⟨z,its,n,r,e⟩:=I.hok l _ hH
  exact ⟨z,its,n,r,r.length,e⟩
theorem notLongL {n:Nat} (h:n <= sizeLine):Builtin.List.listTooLong n = false:=by
  unfold Builtin.List.listTooLong
  exact decide_eq_false (by omega)
end
section
variable {X:Cx}
noncomputable def jhe:V->List V->Hp->VK->Prop:=fun x vs H Q=>∃ l xs y,x = .ref l /\ vs = [y] /\ H l = some (.lst xs) /\ xs.length < sizeLine /\ Q .non (upd H l (.lst (xs ++ [y])))
theorem jgt:MtM X "list.append" jhe:=by
  intro pins s σ H x vs v us Q I rx rv h
  obtain ⟨l,xs,y,rfl,rfl,hH,hz,q⟩:=h
  cases rx
  obtain ⟨u,rfl,ru⟩:=rv.one
  obtain ⟨z,its,n,r,hl,e⟩:=I.lstM hH
  refine call_meets F.slot_list_append ⟨_,e,rfl⟩ F.entry_list_append (F.args_list_append_2 _ _) (PySem.list_append l its.toArray n u (by rw [List.size_toArray]; omega)) ⟨e,?_⟩
  refine ⟨.non,_,I.lset (its':=its ++ [u]) hH e (by simp) (r.append (.cons ru .nil)) ?_,rfl,q⟩
  rw [List.length_append,List.length_singleton]
  omega
noncomputable def rCat:R2:=fun x y H Q=>∃ l b xs zs,x = .ref l /\ y = .ref b /\ H l = some (.lst xs) /\ H b = some (.lst zs) /\ xs.length + zs.length <= sizeLine /\ ∀ p,H p = none->Q (.ref p) (upd H p (.lst (xs ++ zs)))
theorem op_cat:OpR X (binaryOp .Add) rCat:=by
  intro pins s σ H x y v u Q I rx ry h
  obtain ⟨l,b,xs,zs,rfl,rfl,hH,hB,hz,q⟩:=h
  cases rx
  cases ry
  obtain ⟨z,its,n,r,hl,e⟩:=I.lstM hH
  obtain ⟨z2,its2,n2,r2,hl2,e2⟩:=I.lstM hB
  refine PySem.P.add_list e e2 ?_ (by rw [List.size_toArray,List.size_toArray]; omega)
  have ea:its.toArray ++ its2.toArray = (its ++ its2).toArray:=by simp
  rw [ea]
  exact ⟨.ref _,_,I.lnew (t':=s.toks) (r.append r2) (by rw [List.length_append]; omega),rfl,q _ I.fresh⟩
noncomputable def rRep:R2:=fun x y H Q=>∃ l k xs,x = .ref l /\ y = .int k /\ H l = some (.lst xs) /\ -(2 ^ 63) <= k /\ k < 2 ^ 63 /\ xs.length * k.toNat <= sizeLine /\
  ∀ p,H p = none->Q (.ref p) (upd H p (.lst (List.replicate k.toNat xs).flatten))
theorem len_rep {α:Type} (xs:List α) (k:Nat):(List.replicate k xs).flatten.length = k * xs.length:=by
  induction k with
  | zero=>simp
  | succ k ih=>rw [List.replicate_succ,List.flatten_cons,List.length_append,ih,Nat.succ_mul,Nat.add_comm]
theorem op_rep:OpR X (binaryOp .Mult) rRep:=by
  intro pins s σ H x y v u Q I rx ry h
  obtain ⟨l,k,xs,rfl,rfl,hH,h1,h2,hz,q⟩:=h
  cases rx
  obtain ⟨t,rfl⟩:=ry
  obtain ⟨z,its,n,r,hl,e⟩:=I.lstM hH
  have hlen:its.toArray.size * k.toNat <= sizeLine:=by rw [List.size_toArray,<- hl]; exact hz
  have hcap:¬ its.toArray.size * k.toNat > (2 ^ 63 - 1) / 8:=by
    have:(sizeLine:Nat) <= (2 ^ 63 - 1) / 8:=by decide
    omega
  have hfit:¬ (!Builtin.List.listFitsIndex k) = true:=by
    rw [fitsIndex_both h1 h2]
    exact Bool.false_ne_true
  have hlong:¬ Builtin.List.listTooLong (its.toArray.size * k.toNat) = true:=by
    rw [notLongL hlen]
    exact Bool.false_ne_true
  have hnew:List.foldl (fun x1 x2=>x1 ++ x2) #[] (List.replicate (if its.toArray.isEmpty = true then 0 else k.toNat) its.toArray) = (List.replicate k.toNat its).flatten.toArray:=by
    have f0:∀ m:Nat,List.foldl (fun x1 x2=>x1 ++ x2) #[] (List.replicate m its.toArray) = (List.replicate m its).flatten.toArray:=fun m=>by
      have:=foldl_rep its m []
      rw [List.nil_append] at this
      exact this
    rw [f0]
    cases its with
    | nil=>simp
    | cons a r'=>rw [if_neg (by simp)]
  refine wpAny_binaryOp_repeat_ref (T := "list") (U := "int") (by decide) ⟨_,e,rfl⟩ (fun s'=>typeIs_int s' k t) noFill_list_mul F.fills_int_mul F.slot_int_rmul repeat_list F.slot_int_index.lookup
    (call_meets F.slot_int_rmul (typeIs_int s k t) F.entry_int_rmul (F.args_int_rmul_2 _ _) (int___rmul___int_list k t l its.toArray n)
      ⟨e,rfl,⟨_,e,rfl⟩,call_meets F.slot_list_mul ⟨_,e,rfl⟩ F.entry_list_mul (F.args_list_mul_2 _ _) (AutoListH.list___mul___list_int_3 l its.toArray n k t hfit hcap hlong) ⟨e,?_⟩⟩)
  rw [hnew]
  exact ⟨.ref _,_,I.lnew (t':=s.toks) (r.rep k.toNat) (by rw [len_rep,Nat.mul_comm]; exact hz),rfl,q _ I.fresh⟩
end
section
variable {prog:Program} {w:World} {A:Around} {E:Value->Shared->Prop} {s:Shared}
set_option maxRecDepth 100000 in
end
section
variable {X:Cx}
end
end L2
namespace L2
open PySem PySem.Spec PyProof.Rows
section
variable {κ:Type} [DecidableEq κ]
noncomputable def valV (kvs:List (κ × V)) (k:κ):Option V:=(kvs.find? fun kv=>decide (kv.1 = k)).map (·.2)
noncomputable def putK (kvs:List (κ × V)) (k:κ) (v:V):List (κ × V) :=
  if (kvs.any fun kv=>decide (kv.1 = k)) = true then kvs.map (fun kv=>if kv.1 = k then (kv.1,v) else kv) else kvs ++ [(k,v)]
theorem QZ {p:κ × V} {r:List (κ × V)} {k:κ} (e:p.1 = k):valV (p :: r) k = some p.2:=by simp [valV,List.find?_cons,e]
theorem QX {p:κ × V} {r:List (κ × V)} {k:κ} (e:¬ p.1 = k):valV (p :: r) k = valV r k:=by simp [valV,List.find?_cons,e]
theorem jbJ (k:κ):∀ kvs:List (κ × V),(kvs.any fun kv=>decide (kv.1 = k)) = (valV kvs k).isSome
  | []=>rfl
  | p :: r=>by
    rw [List.any_cons]
    by_cases e:p.1 = k
    · simp only [QZ e,decide_eq_true e,Bool.true_or,Option.isSome_some]
    · rw [QX e,decide_eq_false e,Bool.false_or]; exact jbJ k r
theorem jia (k j:κ) (y:V):∀ kvs:List (κ × V),valV (kvs.map fun kv=>if kv.1 = k then (kv.1,y) else kv) j = (valV kvs j).map fun x=>if j = k then y else x
  | []=>rfl
  | p :: r=>by
    have ih:=jia k j y r
    rw [List.map_cons]
    by_cases h:p.1 = k
    · rw [if_pos h]
      by_cases e:p.1 = j
      · rw [QZ (p:=(p.1,y)) e,QZ e,Option.map_some,if_pos (e.symm.trans h)]
      · rw [QX (p:=(p.1,y)) e,QX e,ih]
    · rw [if_neg h]
      by_cases e:p.1 = j
      · rw [QZ (p:=p) e,QZ e,Option.map_some,if_neg (fun z=>h (e.trans z))]
      · rw [QX (p:=p) e,QX e,ih]
theorem jal (k j:κ) (y:V):∀ kvs:List (κ × V),valV kvs k = none->valV (kvs ++ [(k,y)]) j = if j = k then some y else valV kvs j
  | [],_=>by
    by_cases e:k = j
    · rw [if_pos e.symm]; exact QZ (p:=(k,y)) e
    · rw [if_neg (fun z=>e z.symm)]; exact QX (p:=(k,y)) e
  | p :: r,hn=>by
    rw [List.cons_append]
    have hk:¬ p.1 = k:=fun z=>by rw [QZ z] at hn; cases hn
    rw [QX hk] at hn
    have ih:=jal k j y r hn
    by_cases e:p.1 = j
    · rw [QZ e,QZ e,if_neg (fun z=>hk (e.trans z))]
    · rw [QX e,QX e,ih]
theorem jib (kvs:List (κ × V)) (k j:κ) (y:V):valV (putK kvs k y) j = if j = k then some y else valV kvs j:=by
  unfold putK
  by_cases a:(kvs.any fun kv=>decide (kv.1 = k)) = true
  · rw [if_pos a,jia]
    rw [jbJ] at a
    by_cases e:j = k
    · obtain ⟨x,hx⟩:=Option.isSome_iff_exists.mp a
      rw [if_pos e,e,hx,Option.map_some,if_pos rfl]
    · rw [if_neg e]
      cases valV kvs j with
      | none=>rfl
      | some x=>rw [Option.map_some,if_neg e]
  · rw [if_neg a]
    refine jal k j y kvs ?_
    rw [jbJ] at a
    cases q:valV kvs k with
    | none=>rfl
    | some x=>rw [q] at a; exact (a rfl).elim
theorem jbh (kvs:List (κ × V)) (k:κ) (v:V):(putK kvs k v).length <= kvs.length + 1:=by
  unfold putK
  split
  · rw [List.length_map]; omega
  · rw [List.length_append,List.length_cons,List.length_nil]; omega
theorem jh0 {kvs:List (κ × V)} {k:κ} (v:V) (h:valV kvs k = none):putK kvs k v = kvs ++ [(k,v)]:=by
  unfold putK
  rw [jbJ,h]
  exact if_neg (by decide)
theorem RelO.Z1 {o:Option V} {u:Option Value} (r:RelO o u):o.isSome = u.isSome:=by
  cases o with
  | none=>cases u with
    | none=>rfl
    | some _=>exact (show False from r).elim
  | some _=>cases u with
    | none=>exact (show False from r).elim
    | some _=>rfl
theorem RelO.getD {o:Option V} {u:Option Value} {d:V} {d':Value} (r:RelO o u) (rd:RelV d d'):RelV (o.getD d) (u.getD d'):=by
  cases o with
  | none=>cases u with
    | none=>exact rd
    | some _=>exact (show False from r).elim
  | some _=>cases u with
    | none=>exact (show False from r).elim
    | some _=>exact r
theorem KV.val {kvs:List (κ × V)} {vs:List (κ × Value)} (r:KV kvs vs) (k:κ):RelO (valV kvs k) (valueAt vs k):=by
  unfold KV at r
  induction r with
  | nil=>exact True.intro
  | @cons p q ps qs h t ih =>
    obtain ⟨h1,h2⟩:=h
    by_cases e:p.1 = k
    · have e':q.1 = k:=h1.symm.trans e
      have b:valueAt (q :: qs) k = some q.2:=by simp [valueAt,List.find?_cons,e']
      rw [QZ e,b]; exact h2
    · have e':¬ q.1 = k:=fun z=>e (h1.trans z)
      have b:valueAt (q :: qs) k = valueAt qs k:=by simp [valueAt,List.find?_cons,e']
      rw [QX e,b]; exact ih
theorem KV.any {kvs:List (κ × V)} {vs:List (κ × Value)} (r:KV kvs vs) (k:κ):(kvs.any fun kv=>decide (kv.1 = k)) = vs.any fun kv=>decide (kv.1 = k):=by
  unfold KV at r
  induction r with
  | nil=>rfl
  | cons h t ih=>rw [List.any_cons,List.any_cons,ih,h.1]
theorem KV.repl {kvs:List (κ × V)} {vs:List (κ × Value)} (r:KV kvs vs) (k:κ) {y:V} {u:Value} (ry:RelV y u) :
    KV (kvs.map fun kv=>if kv.1 = k then (kv.1,y) else kv) (vs.map fun kv=>if kv.1 = k then (kv.1,u) else kv):=by
  unfold KV at r ⊢
  induction r with
  | nil=>exact .nil
  | @cons p q ps qs h t ih =>
    rw [List.map_cons,List.map_cons]
    refine .cons ?_ ih
    obtain ⟨h1,h2⟩:=h
    by_cases e:p.1 = k
    · rw [if_pos e,if_pos (h1.symm.trans e)]; exact ⟨h1,ry⟩
    · rw [if_neg e,if_neg (fun z=>e (h1.trans z))]; exact ⟨h1,h2⟩
theorem KV.put {kvs:List (κ × V)} {vs:List (κ × Value)} (r:KV kvs vs) (k:κ) {y:V} {u:Value} (ry:RelV y u):KV (putK kvs k y) (stored vs k u):=by
  unfold putK stored
  rw [r.any k]
  by_cases e:(vs.any fun kv=>decide (kv.1 = k)) = true
  · rw [if_pos e,if_pos e]; exact r.repl k ry
  · rw [if_neg e,if_neg e]; exact Paired.snoc r ⟨rfl,ry⟩
theorem KV.length {kvs:List (κ × V)} {vs:List (κ × Value)} (r:KV kvs vs):kvs.length = vs.length:=Paired.length r
end
theorem jgr {P:Program} {w:World} {k:Key} {u:Value} (r:RelV (kV k) u):(qH P w).is k u = true:=by
  cases k with
  | inl i=>obtain ⟨t,e⟩:=(show ∃ t,u = Value.int i t from r); subst e; exact jhM P w i t
  | inr x=>obtain ⟨t,e⟩:=(show ∃ t,u = Value.str x t from r); subst e; exact jhN P w x t
theorem jgo {P:Program} {w:World}:∀ {ks:List Key} {us:List Value},Vals (ks.map kV) us->ItemsAre (qH P w) ks us
  | [],_,r=>by rw [List.map_nil] at r; cases r; exact .nil
  | k :: ks,_,r=>by
    rw [List.map_cons] at r
    cases r with
    | cons h t=>exact .cons (jgr h) (jgo t)
noncomputable abbrev KT (H:Hp):List (List Key × V)->List (List Key × Addr × Value)->Prop:=Paired fun p q=>p.1 = q.1 /\ H q.2.1 = some (.tup (p.1.map kV)) /\ RelV p.2 q.2.2
theorem KT.val {H:Hp} {kvs:List (List Key × V)} {xs:List (List Key × Addr × Value)} (r:KT H kvs xs) (k:List Key):RelO (valV kvs k) ((atKey xs k).map (·.2)):=by
  induction r with
  | nil=>exact True.intro
  | @cons p q ps qs h t ih =>
    obtain ⟨h1,_,h2⟩:=h
    by_cases e:p.1 = k
    · have e':q.1 = k:=h1.symm.trans e
      have b:atKey (q :: qs) k = some q.2:=by simp [atKey,List.find?_cons,e']
      rw [QZ e,b]; exact h2
    · have e':¬ q.1 = k:=fun z=>e (h1.trans z)
      have b:atKey (q :: qs) k = atKey qs k:=by simp [atKey,List.find?_cons,e']
      rw [QX e,b]; exact ih
theorem KT.repl {H:Hp} {kvs:List (List Key × V)} {xs:List (List Key × Addr × Value)} (r:KT H kvs xs) (k:List Key) {y:V} {u:Value} (ry:RelV y u) :
    KT H (kvs.map fun kv=>if kv.1 = k then (kv.1,y) else kv) (xs.map (putAt k u)):=by
  induction r with
  | nil=>exact .nil
  | @cons p q ps qs h t ih =>
    rw [List.map_cons,List.map_cons]
    refine .cons ?_ ih
    obtain ⟨h1,h2,h3⟩:=h
    unfold putAt
    by_cases e:p.1 = k
    · rw [if_pos e,if_pos (h1.symm.trans e)]; exact ⟨h1,h2,ry⟩
    · rw [if_neg e,if_neg (fun z=>e (h1.trans z))]; exact ⟨h1,h2,h3⟩
theorem KT.put {H:Hp} {kvs:List (List Key × V)} {xs:List (List Key × Addr × Value)} (r:KT H kvs xs) (k:List Key) {b:Addr} {y:V} {u:Value} (hb:H b = some (.tup (k.map kV))) (ry:RelV y u) :
    KT H (putK kvs k y) (storedH xs k b u):=by
  have e:(kvs.any fun kv=>decide (kv.1 = k)) = (atKey xs k).isSome:=by
    rw [jbJ,(r.val k).Z1,Option.isSome_map]
  unfold putK storedH
  rw [e]
  by_cases q:(atKey xs k).isSome = true
  · rw [if_pos q,if_pos q]; exact r.repl k ry
  · rw [if_neg q,if_neg q]; exact Paired.snoc r ⟨rfl,hb,ry⟩
theorem KT.keeps {H H':Hp} {kvs:List (List Key × V)} {xs:List (List Key × Addr × Value)} (r:KT H kvs xs) (ht:∀ b ys,H b = some (.tup ys)->H' b = some (.tup ys)):KT H' kvs xs :=
  Paired.mapP r fun _ _ z=>⟨z.1,ht _ _ z.2.1,z.2.2⟩
section
variable {P:Program} {w:World} {H:Hp} {h:Heap} {a:Addr}
theorem rd_of {u:HO} (ok:HOk P w H h) (e:Rd H a u):qP P w H h a u:=e.ok ok
theorem jeT {kvs:List (Key × V)} (ok:HOk P w H h) (e:Rd H a (.dK kvs)):kvs.length <= sizeLine /\ (a == sysModules) = false /\ ∃ vs,KV kvs vs /\ h.DictOf (qH P w) a vs :=
  show qP P w H h a (.dK kvs) from rd_of ok e
theorem dk_of {kvs:List (Key × V)} (ok:HOk P w H h) (e:H a = some (.dK kvs)):kvs.length <= sizeLine /\ (a == sysModules) = false /\ ∃ vs,KV kvs vs /\ h.DictOf (qH P w) a vs:=jeT ok (.inl e)
theorem jdn {ks:List Key} (ok:HOk P w H h) (e:H a = some (.tup (ks.map kV))):(tupleKind (qH P w)).is h ks a:=by
  obtain ⟨_,its,r,o,h1,h2,n,h3⟩:=(show qP P w H h a (.tup (ks.map kV)) from ok a _ e)
  exact ⟨o,its.toArray,n,h1,h2,h3,by simpa using jgo r⟩
theorem jeU {kvs:List (List Key × V)} (ok:HOk P w H h) (e:Rd H a (.dT kvs)):kvs.length <= sizeLine /\ (a == sysModules) = false /\
    ∃ xs,KT H kvs xs /\ h.DictOfH (tupleKind (qH P w)) a xs:=by
  obtain ⟨z,y,xs,r,o,es,ep,h1,h2,h3,h4,h5⟩:=(show qP P w H h a (.dT kvs) from rd_of ok e)
  refine ⟨z,y,xs,r,o,es,ep,h1,h2,h3,h4,fun x hx=>?_,h5⟩
  have all:∀ {l:List (List Key × V)} {m:List (List Key × Addr × Value)},KT H l m->∀ x ∈ m,(tupleKind (qH P w)).is h x.1 x.2.1:=by
    intro l m q
    induction q with
    | nil=>intro x hx; exact nomatch hx
    | @cons p q ps qs hq t ih =>
      intro x hx
      rcases List.mem_cons.mp hx with e | hx
      · subst e
        exact jdn ok (by rw [<- hq.1]; exact hq.2.1)
      · exact ih x hx
  exact all r x hx
theorem dt_of {kvs:List (List Key × V)} (ok:HOk P w H h) (e:H a = some (.dT kvs)):kvs.length <= sizeLine /\ (a == sysModules) = false /\
    ∃ xs,KT H kvs xs /\ h.DictOfH (tupleKind (qH P w)) a xs:=jeU ok (.inl e)
end
noncomputable def DGet (H:Hp) (a:Addr) (y:V) (r:Option V):Prop :=
  (∃ kvs k,Rd H a (.dK kvs) /\ y = kV k /\ r = valV kvs k) ∨ ∃ kvs k b,Rd H a (.dT kvs) /\ y = .ref b /\ H b = some (.tup (k.map kV)) /\ r = valV kvs k
noncomputable def DPut (H:Hp) (a:Addr) (y v:V) (H':Hp):Prop :=
  (∃ kvs k,H a = some (.dK kvs) /\ y = kV k /\ kvs.length < sizeLine /\ H' = upd H a (.dK (putK kvs k v))) ∨
  ∃ kvs k b,H a = some (.dT kvs) /\ y = .ref b /\ H b = some (.tup (k.map kV)) /\ kvs.length < sizeLine /\ H' = upd H a (.dT (putK kvs k v))
theorem DGet.k {H:Hp} {a:Addr} {kvs:List (Key × V)} {k:Key} (e:H a = some (.dK kvs)):DGet H a (kV k) (valV kvs k):=.inl ⟨kvs,k,.inl e,rfl,rfl⟩
theorem DPut.k {H:Hp} {a:Addr} {kvs:List (Key × V)} {k:Key} {v:V} (e:H a = some (.dK kvs)) (hl:kvs.length < sizeLine):DPut H a (kV k) v (upd H a (.dK (putK kvs k v))):=.inl ⟨kvs,k,e,rfl,hl,rfl⟩
section
variable {X:Cx} {pins:List (Addr × Obj)} {σ:St} {H:Hp} {s:Shared} {a:Addr} {y v:V} {u r:Value} {o:Option V} {A:Around} {E:Value->Shared->Prop}
theorem Inv.big (I:Inv X pins σ H s):sysModules < s.heap.objs.size:=by
  have h:mainGlobals < s.heap.objs.size:=(I.mod.glob.keeps I.bk).lt
  exact Nat.lt_trans (by decide) h
theorem jjw {Q:Value->Shared->Prop} (hu:A.units + 1 < cLine) (I:Inv X pins σ H s) (g:DGet H a y (some v)) (ry:RelV y u) (h:∀ w' s',Inv X pins σ H s'->RelV v w'->Q w' s') :
    wpAny (model X.prog X.w) A (getItem (.ref a) u) Q E s:=by
  rcases g with ⟨kvs,k,e,ey,l⟩ | ⟨kvs,k,b,e,ey,eb,l⟩
  · subst ey
    obtain ⟨z,hd,vs,rel,dd⟩:=jeT I.hok e
    obtain ⟨w',hw,rw'⟩:=RelO.some_of (v:=v) (o:=valueAt vs k) (by rw [l]; exact rel.val k)
    exact wpAny_getItem_of (jgr ry) dd.mapOf hw (h w' _ (I.tok _) rw')
  · subst ey
    cases (show u = Value.ref b from ry)
    obtain ⟨z,hd,xs,rel,dd⟩:=jeU I.hok e
    obtain ⟨w',hw,rw'⟩:=RelO.some_of (v:=v) (o:=(atKey xs k).map (·.2)) (by rw [l]; exact rel.val k)
    obtain ⟨p,hp,hp2⟩:=Option.map_eq_some_iff.mp hw
    refine wpAny_getItem_heap (tupleKind_room_in1 hu) (jdn I.hok eb) dd hp ?_
    rw [hp2]
    exact h w' _ (I.tok _) rw'
theorem d_in {Q:Value->Shared->Prop} (hu:A.units + 1 < cLine) (I:Inv X pins σ H s) (g:DGet H a y o) (ry:RelV y u) (h:∀ s',Inv X pins σ H s'->Q (.bool o.isSome) s') :
    wpAny (model X.prog X.w) A (compareOp .In u (.ref a)) Q E s:=by
  rcases g with ⟨kvs,k,e,ey,l⟩ | ⟨kvs,k,b,e,ey,eb,l⟩
  · subst ey
    obtain ⟨z,hd,vs,rel,dd⟩:=jeT I.hok e
    refine wpAny_in_of (jgr ry) hd dd.mapOf ?_
    rw [<- (rel.val k).Z1,<- l]
    exact h _ (I.tok _)
  · subst ey
    cases (show u = Value.ref b from ry)
    obtain ⟨z,hd,xs,rel,dd⟩:=jeU I.hok e
    refine wpAny_in_heap (tupleKind_room_in1 hu) (jdn I.hok eb) hd dd ?_
    have q:=(rel.val k).Z1
    rw [Option.isSome_map] at q
    rw [<- q,<- l]
    exact h _ (I.tok _)
theorem d_notIn {Q:Value->Shared->Prop} (hu:A.units + 1 < cLine) (I:Inv X pins σ H s) (g:DGet H a y o) (ry:RelV y u) (h:∀ s',Inv X pins σ H s'->Q (.bool (!o.isSome)) s') :
    wpAny (model X.prog X.w) A (compareOp .NotIn u (.ref a)) Q E s:=by
  rcases g with ⟨kvs,k,e,ey,l⟩ | ⟨kvs,k,b,e,ey,eb,l⟩
  · subst ey
    obtain ⟨z,hd,vs,rel,dd⟩:=jeT I.hok e
    refine wpAny_notIn_of (jgr ry) hd dd.mapOf ?_
    rw [<- (rel.val k).Z1,<- l]
    exact h _ (I.tok _)
  · subst ey
    cases (show u = Value.ref b from ry)
    obtain ⟨z,hd,xs,rel,dd⟩:=jeU I.hok e
    refine wpAny_notIn_heap (tupleKind_room_in1 hu) (jdn I.hok eb) hd dd ?_
    have q:=(rel.val k).Z1
    rw [Option.isSome_map] at q
    rw [<- q,<- l]
    exact h _ (I.tok _)
theorem ji7 {h':Heap} {t':Nat} {ob:HO} (I:Inv X pins σ H s) (mu:Mut (H a)) (hs:Heap.SameBut a s.heap h') (he:∃ q,h'.get? a = some q) (new:qP X.prog X.w (upd H a ob) h' a ob) :
    Inv X pins σ (upd H a ob) { s with heap:=h',toks:=t' } :=
  I.write (x:=a) (e:=a) mu (.inl rfl) (fun b q hb z=>(hs.2 b hb).trans z) he new
theorem dk_new {P:Program} {w:World} {H':Hp} {h':Heap} {kvs:List (Key × V)} {vs:List (Key × Value)} (z:kvs.length <= sizeLine) (hd:(a == sysModules) = false) (rel:KV kvs vs) (dd:h'.DictOf (qH P w) a vs) :
    qP P w H' h' a (.dK kvs):=⟨z,hd,vs,rel,dd⟩
theorem jjx {H':Hp} {Q:Unit->Shared->Prop} (hu:A.units + 1 < cLine) (I:Inv X pins σ H s) (g:DPut H a y v H') (ry:RelV y u) (rv:RelV v r) (h:∀ s',Inv X pins σ H' s'->Q () s') :
    wpAny (model X.prog X.w) A (setItem (.ref a) u r) Q E s:=by
  rcases g with ⟨kvs,k,e,ey,l,eH⟩ | ⟨kvs,k,b,e,ey,eb,l,eH⟩
  · subst ey eH
    obtain ⟨z,hd,vs,rel,dd⟩:=dk_of I.hok e
    have hz:vs.length <= sizeLine:=by rw [<- rel.length]; exact z
    have hl:(putK kvs k v).length <= sizeLine:=by have:=jbh kvs k v; omega
    refine wpAny_setItem_pairs (hsz:=hz) (jgr ry) dd fun h' dd' hs=>h _ ?_
    have he:∃ q,h'.get? a = some q:=let ⟨q,_,_,hq,_⟩:=dd'; ⟨q,hq⟩
    exact ji7 I (by rw [e]; exact True.intro) hs he (dk_new hl hd (rel.put k rv) dd')
  · subst ey eH
    cases (show u = Value.ref b from ry)
    obtain ⟨z,hd,xs,rel,dd⟩:=dt_of I.hok e
    have hz:xs.length <= sizeLine:=by rw [<- Paired.length rel]; exact z
    have hl:(putK kvs k v).length <= sizeLine:=by have:=jbh kvs k v; omega
    refine wpAny_setItem_heap (hsz:=hz) (tupleKind_room_in1 hu) (jdn I.hok eb) dd fun h' dd' hs=>h _ ?_
    obtain ⟨q,es,ep,hq,h2,h3,h4,_,h5⟩:=dd'
    refine ji7 I (by rw [e]; exact True.intro) hs ⟨q,hq⟩ ⟨hl,hd,_,(rel.put k eb rv).keeps fun c ys ec=>?_,q,es,ep,hq,h2,h3,h4,h5⟩
    rw [jM (ne_of ec e (fun z=>nomatch z))]
    exact ec
end
section
variable {X:Cx} {pins:List (Addr × Obj)} {σ:St} {H:Hp} {s:Shared} {a:Addr} {kvs:List (Key × V)} {k:Key} {u:Value} {A:Around} {E:Value->Shared->Prop}
end
noncomputable def NoSl (i:Expr):Prop:=∀ ov iv,subscripted i false ov iv = operate [ov,iv] (getItem ov iv)
theorem subD_of {prog:Program} {w:World} {A:Around} {E:Value->Shared->Prop} {s:Shared} {env:Env} {value slice:Expr} {pos:Pos} {T id:String} {Q:Value->Shared->Prop}
    (hl:typeLookup (.type T) "__getitem__" = pure (some (.builtin id))) (hs:NoSl slice)
    (h:wpAny (model prog w) A (eval value env) (fun o s₁=>wpAny (model prog w) A (eval slice env) (fun i s₂=>s₂.TypeIs o T /\ wpAny (model prog w) A (getItem o i) Q E s₂) E s₁) E s) :
    wpAny (model prog w) A (eval (.Subscript value slice pos) env) Q E s:=by
  refine Subscript_ (wpAny_mono h (fun o s₁ h₁=>wpAny_mono h₁ (fun i s₂ h₂=>?_) fun _ _ x=>x) fun _ _ x=>x)
  obtain ⟨hT,h₂⟩:=h₂
  unfold subscriptTail
  refine wpAny_bind ?_
  rw [getitemInPython_of_ne hT.not_modules]
  refine wpAny_bind (wpAny_specialOf hT hl ?_)
  have fin:wpAny (model prog w) A (subscripted slice false o i) (fun r s₃=>wpAny (model prog w) A (letTemporaryGo value o r >>= fun _=>pure r) Q E s₃) E s₂:=by
    rw [hs o i]
    exact wpAny_operating (wpAny_mono h₂ (fun r s₃ h₃=>wpAny_bind (wpAny_letTemporaryGo (wpAny_pure h₃))) fun _ _ x=>x)
  first
    | exact wpAny_pure (wpAny_bind fin)
    | exact wpAny_bind (wpAny_pure (wpAny_bind fin))
    | exact wpAny_bind fin
theorem jhz {X:Cx} {pins:List (Addr × Obj)} {σ:St} {H:Hp} {s:Shared} {a:Addr} {y:V} {o:Option V} (I:Inv X pins σ H s) (g:DGet H a y o):s.TypeIs (.ref a) "dict" := by
  rcases g with ⟨kvs,k,e,_,_⟩ | ⟨kvs,k,b,e,_,_,_⟩
  · obtain ⟨_,_,vs,_,dd⟩:=jeT I.hok e
    exact dd.typeIs
  · obtain ⟨_,_,xs,_,dd⟩:=jeU I.hok e
    exact dd.typeIs
noncomputable def tDGet (td ty:TE):TE:=fun σ H Q=>td σ H fun x H1=>ty σ H1 fun y H2=>∃ a v,x = .ref a /\ DGet H2 a y (some v) /\ Q v H2
noncomputable def sDPut (td ty tv:TE):TS:=fun D σ H=>tv σ H fun v H1=>td σ H1 fun x H2=>ty σ H2 fun y H3=>∃ a H4,x = .ref a /\ DPut H3 a y v H4 /\ D.nx σ H4
section
variable {X:Cx} {o i e value:Expr} {pos pos' tpos:Pos} {td ty tv:TE}
theorem jer (hu:X.A.units + 1 < cLine) (ho:PE X o td) (hi:PE X i ty) (hs:NoSl i):PE X (.Subscript o i pos) (tDGet td ty):=by
  intro pins s σ H Q I h
  refine subD_of PySem.F.slot_dict_getitem.lookup hs (thn (ho pins s σ H _ I h) fun u s1 ⟨x,H1,I1,rx,q1⟩=>thn (hi pins s1 σ H1 _ I1 q1) fun iv s2 zz=>?_)
  obtain ⟨y,H2,I2,ry,a,v,ex,g,q2⟩:=zz
  subst ex
  obtain rfl:u = Value.ref a:=rx
  exact ⟨jhz I2 g,jjw hu I2 g ry fun w' s3 I3 rw'=>⟨v,H2,I3,rw',q2⟩⟩
theorem jeu (hu:X.A.units + 1 < cLine) (ho:PE X o td) (hi:PE X i ty) (hv:PE X value tv) (hs:swapsWith value (some (.Subscript o i pos')) pos.line X.env = pure false) :
    PS X (.Assign [.Subscript o i pos'] value pos) (sDPut td ty tv):=by
  intro pins s σ H D I h
  refine wpAny_Assign_Subscript (thn (hv pins s σ H _ I h) fun r s1 ⟨v,H1,I1,rv,q1⟩=>thn (ho pins s1 σ H1 _ I1 q1) fun u s2 ⟨x,H2,I2,rx,q2⟩=>thn (hi pins s2 σ H2 _ I2 q2) fun iv s3 zz=>?_) hs
  obtain ⟨y,H3,I3,ry,a,H4,ex,g,q3⟩:=zz
  subst ex
  obtain rfl:u = Value.ref a:=rx
  exact jjx hu I3 g ry rv fun s4 I4=>⟨σ,H4,I4,q3⟩
end
theorem dk_empty {P:Program} {w:World} {H:Hp} (h:Heap) (hb:sysModules < h.objs.size):qP P w H (h.push { cls:=.type "dict",data:=.dict #[] }) h.objs.size (.dK []) :=
  ⟨Nat.zero_le _,beq_eq_false_iff_ne.mpr (Ne.symm (Nat.ne_of_lt hb)),[],.nil,Heap.DictOf.new h⟩
noncomputable def tDNewK:TE:=fun _ H Q=>∀ p,H p = none->Q (.ref p) (upd H p (.dK []))
section
variable {X:Cx} {pos:Pos}
theorem jcV:PE X (.Dict [] [] pos) tDNewK:=fun pins s σ H Q I h =>
  wpAny_Dict_empty ⟨.ref s.heap.objs.size,_,I.laid (a:=s.heap.objs.size) (o:=.dK []) (t':=s.toks) (fun _ _ q=>Heap.get?_push_of_some _ q) (Nat.le_refl _) (dk_empty s.heap I.big),rfl,h _ (I.hok.fresh (Nat.le_refl _))⟩
end
structure M1 (X:Cx) (o:Expr) (m:Str) (apos:Pos) (e:Expr) (cpos:Pos):Prop where
  base:attributeBase o m X.env (eval o X.env) = eval o X.env
  few:((backTo cpos (starEach [e] X.env)).all (fun x=>!x.1) && (backToKw cpos (keywordEach [] X.env)).all (fun x=>x.1.isSome)
    && decide (([e]:List Expr).length + ([]:List Keyword).length + (if ([]:List Keyword).isEmpty then 0 else 1) < 30)) = true
  line:(apos.endLine == cpos.line) = true
  trees:backTo cpos (starEach [e] X.env) = [(false,eval e X.env)]
structure M2 (X:Cx) (o:Expr) (m:Str) (apos:Pos) (e f:Expr) (cpos:Pos):Prop where
  base:attributeBase o m X.env (eval o X.env) = eval o X.env
  few:((backTo cpos (starEach [e,f] X.env)).all (fun x=>!x.1) && (backToKw cpos (keywordEach [] X.env)).all (fun x=>x.1.isSome)
    && decide (([e,f]:List Expr).length + ([]:List Keyword).length + (if ([]:List Keyword).isEmpty then 0 else 1) < 30)) = true
  line:(apos.endLine == cpos.line) = true
  trees:backTo cpos (starEach [e,f] X.env) = [(false,eval e X.env),(false,eval f X.env)]
noncomputable def IsD (H:Hp) (a:Addr):Prop:=(∃ kvs,Rd H a (.dK kvs)) ∨ ∃ kvs,Rd H a (.dT kvs)
theorem isD_at {X:Cx} {pins:List (Addr × Obj)} {σ:St} {H:Hp} {s:Shared} {a:Addr} (I:Inv X pins σ H s) (d:IsD H a) :
    s.TypeIs (.ref a) "dict" /\ (∀ b,Value.ref a = .ref b->∃ ob,s.heap.get? b = some ob /\ ob.dict = none) /\ (a == sysModules) = false:=by
  rcases d with ⟨kvs,e⟩ | ⟨kvs,e⟩
  · obtain ⟨_,hd,vs,_,dd⟩:=jeT I.hok e
    refine ⟨dd.typeIs,fun b q=>?_,hd⟩
    cases q
    obtain ⟨ob,_,_,h1,h2,_⟩:=dd
    exact ⟨ob,h1,h2.2.1⟩
  · obtain ⟨_,hd,xs,_,dd⟩:=jeU I.hok e
    refine ⟨dd.typeIs,fun b q=>?_,hd⟩
    cases q
    obtain ⟨ob,_,_,h1,h2,_⟩:=dd
    exact ⟨ob,h1,h2.2.1⟩
section
variable {X:Cx} {pins:List (Addr × Obj)} {σ:St} {H:Hp} {s:Shared} {a:Addr} {y d:V} {u r:Value} {o:Option V} {A:Around} {E:Value->Shared->Prop}
theorem d_get2 {Q:Value->Shared->Prop} (hu:A.units + 1 < cLine) (I:Inv X pins σ H s) (g:DGet H a y o) (ry:RelV y u) (rd:RelV d r) (h:∀ w' s',Inv X pins σ H s'->RelV (o.getD d) w'->Q w' s') :
    wpAny (model X.prog X.w) A (call (.builtin "dict.get") [.ref a,u,r]) Q E s:=by
  rcases g with ⟨kvs,k,e,ey,l⟩ | ⟨kvs,k,b,e,ey,eb,l⟩
  · subst ey
    obtain ⟨z,hd,vs,rel,dd⟩:=jeT I.hok e
    refine call_meetsIn PySem.F.slot_dict_get dd.typeIs PySem.F.entry_dict_get (PySem.F.args_dict_get_3 _ _ _) (meets_dict_get_default (qH X.prog X.w) a (jgr ry) hd r) ⟨_,dd.mapOf,h _ _ (I.tok _) ?_⟩
    rw [l]
    exact (rel.val k).getD rd
  · subst ey
    cases (show u = Value.ref b from ry)
    obtain ⟨z,hd,xs,rel,dd⟩:=jeU I.hok e
    refine call_meetsIn PySem.F.slot_dict_get dd.typeIs PySem.F.entry_dict_get (PySem.F.args_dict_get_3 _ _ _) (meetsH_dict_get_default (tupleKind (qH X.prog X.w)) a b hd r) ⟨tupleKind_room_in1 hu,k,xs,jdn I.hok eb,dd,h _ _ (I.tok _) ?_⟩
    rw [l]
    exact (rel.val k).getD rd
end
noncomputable def tDGet2 (td ty tx:TE):TE:=fun σ H Q=>td σ H fun x H1=>∃ a,x = .ref a /\ IsD H1 a /\ ty σ H1 fun y H2=>tx σ H2 fun z H3=>∃ o,DGet H3 a y o /\ Q (o.getD z) H3
section
variable {X:Cx} {o e f:Expr} {apos cpos:Pos} {td ty tx:TE}
theorem jff (hu:X.A.units + 1 < cLine) (ho:PE X o td) (he:PE X e ty) (hf:PE X f tx) (m:M2 X o "get" apos e f cpos):PE X (.Call (.Attribute o "get" apos) [e,f] [] cpos) (tDGet2 td ty tx):=by
  intro pins s σ H Q I h
  refine wpAny_Call_method m.base m.few m.line PySem.F.plainAttrs_dict PySem.F.slot_dict_get PySem.F.type_dict_get (thn (ho pins s σ H _ I h) fun u s1 zz=>?_)
  obtain ⟨x,H1,I1,rx,a,ex,d,q1⟩:=zz
  subst ex
  obtain rfl:u = Value.ref a:=rx
  obtain ⟨t1,t2,_⟩:=isD_at I1 d
  refine ⟨t1,t2,?_⟩
  rw [m.trees]
  refine Calls.callWith_builtin rfl (Calls.evalArgs_plain (Calls.spliced_cons (thn (he pins s1 σ H1 _ I1 q1) fun iv s2 ⟨y,H2,I2,ry,q2⟩ =>
    Calls.spliced_cons (thn (hf pins s2 σ H2 _ I2 q2) fun fv s3 ⟨z,H3,I3,rz,ov,g,q3⟩=>Calls.spliced_nil ?_))))
  exact d_get2 hu I3 g ry rz fun w' s4 I4 rw'=>⟨_,H3,I4,rw',q3⟩
end
section
variable {X:Cx} {pins:List (Addr × Obj)} {σ:St} {H:Hp} {s:Shared} {a:Addr} {kvs:List (Key × V)} {A:Around} {E:Value->Shared->Prop}
end
section
variable {X:Cx} {pins:List (Addr × Obj)} {σ:St} {H:Hp} {s:Shared} {a:Addr} {y:V} {u:Value} {A:Around} {E:Value->Shared->Prop}
end
end L2
namespace Att
open PySem PySem.W PySem.Calls PyProof.Rows
theorem jd3 {P:Params} {h:Heap}:∀ (ns:List Int) (vs:List Value),WellAll P h vs (ns.map WData.int)->IntsAre vs ns:=by
  intro ns
  induction ns with
  | nil =>
    intro vs w
    rw [List.map_nil] at w
    cases w
    exact .nil
  | cons n ns ih =>
    intro vs w
    rw [List.map_cons] at w
    cases w with
    | cons a b =>
      cases a
      exact .cons _ _ (ih _ b)
theorem jj5 {l:OpenLaw} {n:Nat} (hn:l.most = some n) {P:Params} {h:Heap} {args:List WData} {vals:List Value}
    (hpre:l.row.toRowW.claim.pre args = true) (hwl:WellAll P h vals args) :
    ∃ a vs ns,vals = [Value.ref a] /\ args = [WData.list (ns.map WData.int)] /\ h.get? a = some { cls:=.type "list",data:=.seq vs.toArray } /\ IntsAre vs ns /\ ns.length <= n:=by
  have hsh:WShape.hasAll [] args [.list .int] = true:=(pre_splitW hpre).1
  have hc:l.pre.holds [] { args:=args } = true:=(pre_splitW hpre).2
  obtain ⟨d,r,rfl,h1,h2⟩:=hasAllW_cons hsh
  obtain rfl:=hasAllW_nil h2
  obtain ⟨xs,rfl,h3⟩:=hasW_list h1
  obtain ⟨ns,rfl⟩:=items_int h3
  have hlen:ns.length <= n:=by
    unfold OpenLaw.pre at hc
    have h4:(WTm.not (.lt (.lit (.int (n:Int))) (.len (.arg 0)))).holds [] { args:=[.list (ns.map .int)] } = true:=by
      have h4:=(holds_andW hc).1
      rw [hn] at h4
      exact h4
    have h5:=condW_of h4 (w_not (w_lt w_lit (w_len_list (w_arg rfl))))
    rw [List.length_map] at h5
    refine Nat.le_of_not_lt fun q=>?_
    have q':(n:Int) < ((ns.length:Nat):Int):=by omega
    first
      | (rw [decide_eq_true q'] at h5; exact absurd h5 (by decide))
      | (simp at h5; omega)
  cases hwl with
  | cons w1 w2 =>
    cases w2
    cases w1 with
    | list ho hall=>exact ⟨_,_,ns,rfl,rfl,ho,jd3 ns _ hall,hlen⟩
theorem jj0 (l:OpenLaw) (args:List WData):l.row.toRowW.claim.post args (.bool true) args = true :=
  postW_of (r:=l.row.toRowW) (X:=(true == true))
    (show WShape.has [] (.bool true) .bool = true by first | rfl | decide | simp [WShape.has,WShape.arms,WShape.armsAll])
    (show (WTm.eq .res (.lit (.bool true))).value [] { args:=args,res:=some (.bool true),after:=args } = some (.bool (true == true)) from w_eq_bool (w_res rfl) w_lit) rfl
theorem jht {l:OpenLaw} {n:Nat} {q:Program} {loose:List Str} {XP:(Str->Option Value)->Heap->Prop} {YP:World->Heap->Prop} {d:DefRec}
    (hn:l.most = some n) (hdf:d.params.defaults = [])
    (call:∀ (w:World) (s₀ s₁:Shared) (mg mb:Str->Option Value) (fa:Addr) (o:Obj) (pm cd doc:Value) (a:Addr) (vs:List Value) (ns:List Int),
      Ground q loose [] XP w s₀ mg mb s₁.heap->YP w s₁.heap ->
      s₁.heap.get? fa = some o->o.data = .func (docDef d.name d.params d.body d.scope pm cd doc)->s₁.heap.CodeRec cd d.name->mg d.name = some (.ref fa) ->
      s₁.heap.get? a = some { cls:=.type "list",data:=.seq vs.toArray }->IntsAre vs ns->ns.length <= n->s₁.gens = #[] ->
      codeAny (model l.prog w) callerA (.call (.ref fa) ⟨[.ref a],[]⟩) (fun r s'=>r = .ok (.ret (.bool true)) /\ OldK s₁.heap s'.heap /\ s'.os = s₁.os /\ AllBare s'.gens) s₁) :
    WalkO q loose XP YP l.row.toRowW d [] (fun f vs=>PySem.call f vs):=by
  intro w s₀ s₁ mg mb G Y fa o pm cd doc dV kV ho hd hcd hD hmg hg args vals as hpre hlay hrd hwl hlo
  obtain rfl:dV = .none:=Dflts.none hD hdf
  obtain rfl:kV = .none:=Dflts.noKw hD
  obtain ⟨a,vs,ns,rfl,rfl,hobj,hints,hlen⟩:=jj5 hn hpre hwl
  refine enter_call (codeAny_mono (call w s₀ s₁ mg mb fa o pm cd doc a vs ns G Y ho (fd_plain hd) hcd hmg hobj hints hlen hg) fun r s' hq=>?_)
  obtain ⟨rfl,h2,h3,h4⟩:=hq
  exact ⟨.inl ⟨.bool true,.bool true,[],rfl,fun _=>rfl,.bool true,jj0 l _,fun _=>⟨List.Pairwise.nil,fun _ hm=>(nomatch hm)⟩⟩,h2,h3,h4⟩
section
variable {prog:Program} {w:World} {A:Around} {E:Value->Shared->Prop} {s:Shared} {K:Frag}
end
end Att
namespace L2
open PySem PySem.Spec PyProof.Rows
theorem jgN:∀ {vs:List Value} {ns:List Int},IntsAre vs ns->Vals (ns.map V.int) vs
  | _,_,.nil=>.nil
  | _,_,.cons n t h=>.cons ⟨t,rfl⟩ (jgN h)
noncomputable def Only (H:Hp):Prop:=∀ b,H b = none ∨ ∃ o xs,H b = some (.frz o (.lst xs))
theorem law_call {P:Program} {w:World} {K:PySem.W.Frag} {mg mb:Str->Option Value} {CX:CXT} {k:Nat} {fa a:Addr} {fd:FuncData} {x:Str} {sp:Sp} {s₁:Shared} {vs:List Value} {ns:List Int}
    (KX:K.In s₁.heap) (hns:s₁.heap.Ns mainGlobals mg) (hb:s₁.heap.Ns builtinsNs mb) (hbb:∀ x:Str,x ≠ "__name__" -> mb x = bootBuiltins x) (hlim:s₁.heap.NoLimit) (hg:s₁.gens = #[])
    (ha:s₁.heap.get? a = some { cls:=.type "list",data:=.seq vs.toArray }) (hi:IntsAre vs ns) (hl:ns.length <= sizeLine) (hr:Room k callerA)
    (F:∀ base:Heap,K.In base->base.Ns mainGlobals mg->FnOk P w K mg base CX k fa fd [x] sp) (hbind:∀ (s:Shared) (u:Value),BindsTo s fd ⟨[u],[]⟩ [(x,u)])
    (hsp:∀ H:Hp,Only H->SqL K H a (ns.map V.int)->sp [.ref a] H (fun v _=>v = .bl true) fun _ _ _=>False)
    (hCX:∀ H e s',CX [] H s₁ (fun _ _ _=>False) e s'->False) :
    codeAny (model P w) callerA (.call (.ref fa) ⟨[.ref a],[]⟩) (fun r s'=>r = .ok (.ret (.bool true)) /\ OldK s₁.heap s'.heap /\ s'.os = s₁.os /\ AllBare s'.gens) s₁:=by
  have rv:=jgN hi
  have lenV:=hi.length
  have core:∀ H:Hp,Only H->SqL K H a (ns.map V.int)->HOk P w H s₁.heap->(∀ b,H b ≠ none->b = a)->(H a ≠ none->K.lookup a = none) ->
      codeAny (model P w) callerA (.call (.ref fa) ⟨[.ref a],[]⟩) (fun r s'=>r = .ok (.ret (.bool true)) /\ OldK s₁.heap s'.heap /\ s'.os = s₁.os /\ AllBare s'.gens) s₁:=by
    intro H hO hS hok hA hK
    have base_of:∀ {b:Addr} {o:Obj},s₁.heap.get? b = some o->H b = none->(hidT s₁.heap H).get? b = some o:=fun e n=>hidT_get e n
    have noA:∀ {b:Addr} {o:Obj} {es:Array DictEntry} {ep:Nat},s₁.heap.get? b = some o->o.data = .dict es ep->H b = none:=fun {b o es ep} e d=>by
      cases q:H b with
      | none=>rfl
      | some u =>
        have e':b = a:=hA b (by rw [q]; simp)
        subst e'
        rw [ha] at e; cases e
        have d':Data.seq vs.toArray _ = Data.dict es ep:=d
        cases d'
    have nsK:∀ {b:Addr} {m:Str->Option Value},s₁.heap.Ns b m->(hidT s₁.heap H).Ns b m:=fun {b m} ⟨o,es,ep,e,d,r⟩=>⟨o,es,ep,base_of e (noA e d),d,r⟩
    have hKb:K.In (hidT s₁.heap H):=fun b o e=>base_of (KX b o e) (by
      cases q:H b with
      | none=>rfl
      | some u =>
        have e':b = a:=hA b (by rw [q]; simp)
        subst e'
        rw [hK (by rw [q]; simp)] at e; cases e)
    have hM:Mod K mg (hidT s₁.heap H):=⟨hKb,nsK hns,⟨mb,nsK hb,hbb⟩,let ⟨mc,h1,h2⟩:=hlim; ⟨mc,nsK h1,h2⟩⟩
    have e0:Env0 P w K mg (hidT s₁.heap H) callerA [] s₁ H:=⟨rfl,hM,fun b o e=>of_hidT e,Nat.le_of_eq (jjC _ _),trivial,fun b hb=>absurd (show b ∈ ([]:List Addr) from hb) (by simp),hok,.of_eq hg⟩
    refine codeAny_mono ((F _ hKb (nsK hns)).run callerA [] s₁ H ⟨[.ref a],[]⟩ [.ref a] [.ref a] _ _ hr e0 (hbind s₁ (.ref a)) (.cons rfl .nil) (hsp H hO hS)) fun r s' h=>?_
    cases r with
    | error e=>exact (hCX H e s' h).elim
    | ok fl =>
      cases fl with
      | next=>exact False.elim h
      | brk=>exact False.elim h
      | cont=>exact False.elim h
      | ret u =>
        obtain ⟨v,H',os,bare,un,hok',r',q⟩:=h
        have q':v = .bl true:=q
        subst q'
        obtain rfl:u = Value.bool true:=r'
        refine ⟨rfl,OldK.of_keep fun b o e=>?_,os,bare⟩
        cases q:H b with
        | none=>exact un.keep b o e q (by intro z; exact absurd (show b ∈ ([]:List Addr) from z) (by simp)) (by simp)
        | some u =>
          rcases hO b with z | ⟨ob,xs,z⟩
          · rw [q] at z; cases z
          · have z2:=un.frzs b ob _ z
            obtain ⟨e1,_⟩:=hok b _ z
            obtain ⟨e2,_⟩:=hok' b _ z2
            rw [e] at e1; cases e1
            exact e2
  cases hk:K.lookup a with
  | some o =>
    have e:=KX a o hk
    rw [ha] at e
    cases e
    refine core (fun _=>none) (fun _=>.inl rfl) (.inr ⟨_,vs.toArray,_,hk,rfl,rfl,rfl,by rw [List.size_toArray,lenV]; exact hl,by simpa using rv⟩) (fun b u z=>by have z':(none:Option HO) = some u:=z; cases z') (fun b z=>absurd rfl z) fun z=>absurd rfl z
  | none =>
    refine core (fun b=>if b = a then some (.frz { cls:=.type "list",data:=.seq vs.toArray } (.lst (ns.map V.int))) else none) (fun b=>?_) (.inl (.inr ⟨{ cls:=.type "list",data:=.seq vs.toArray },if_pos rfl⟩)) (fun b u z=>?_) (fun b z=>?_) fun _=>hk
    · by_cases hb:b = a
      · exact .inr ⟨_,_,if_pos hb⟩
      · exact .inl (if_neg hb)
    · by_cases hb:b = a
      · have z':=(if_pos hb).symm.trans z
        cases z'
        subst hb
        exact ⟨ha,by rw [List.length_map]; exact hl,vs,_,rv,ha⟩
      · have z':=(if_neg hb).symm.trans z
        cases z'
    · by_cases hb:b = a
      · exact hb
      · exact absurd (if_neg hb) z
end L2
namespace L2
open PySem PySem.Spec PyProof.Rows
theorem walk_of {l:PySem.W.OpenLaw} {n k:Nat} {q:Program} {loose:List Str} {XP:(Str->Option Value)->Heap->Prop} {YP:World->Heap->Prop} {d:DefRec} {K:Params->PySem.W.Frag} {CX:World->CXT} {sp:World->Sp} {x:Str}
    (hn:l.most = some n) (hn2:n <= sizeLine) (hdf:d.params.defaults = []) (hr:Room k callerA)
    (hY:∀ (w:World) (h:Heap),YP w h->(K w.params).In h)
    (F:∀ (w:World) (mg:Str->Option Value) (fa:Addr) (h:Heap),(K w.params).In h->h.Ns mainGlobals mg->mg d.name = some (.ref fa) ->
      ∃ fd:FuncData,(∀ (s:Shared) (u:Value),BindsTo s fd ⟨[u],[]⟩ [(x,u)]) /\
        ∀ base:Heap,(K w.params).In base->base.Ns mainGlobals mg->FnOk l.prog w (K w.params) mg base (CX w) k fa fd [x] (sp w))
    (hsp:∀ (w:World) (H:Hp) (a:Addr) (ns:List Int),ns.length <= n->Only H->SqL (K w.params) H a (ns.map V.int)->sp w [.ref a] H (fun v _=>v = .bl true) fun _ _ _=>False)
    (hCX:∀ (w:World) (H:Hp) (s:Shared) (e:Value) (s':Shared),CX w [] H s (fun _ _ _=>False) e s'->False) :
    PySem.W.WalkO q loose XP YP l.row.toRowW d [] (fun f vs=>PySem.call f vs):=by
  refine Att.jht hn hdf fun w s₀ s₁ mg mb fa o pm cd doc a vs ns G Y ho hd hcd hmg hobj hints hlen hg=>?_
  have KX:=hY w _ Y
  obtain ⟨fd,hb,hF⟩:=F w mg fa _ KX G.T.g hmg
  exact law_call KX G.T.g G.T.b G.T.builtins G.T.nolimit hg hobj hints (Nat.le_trans hlen hn2) hr hF hb (fun H hO hS=>hsp w H a ns hlen hO hS) fun H e s'=>hCX w H s₁ e s'
end L2
namespace L2
open PySem PySem.Spec PyProof.Rows
noncomputable def qy (s:Stmt):Arguments:=match s with
  | .FunctionDef _ a _ _ _ _ _ _ _ _=>a
  | _=>{ posonlyargs:=[],args:=[],vararg:=none,kwonlyargs:=[],kw_defaults:=[],kwarg:=none,defaults:=[] }
noncomputable def JT (s:Stmt):List Stmt:=match s with
  | .FunctionDef _ _ b _ _ _ _ _ _ _=>b
  | _=>[]
noncomputable def jt (s:Stmt):Scope:=match s with
  | .FunctionDef _ _ _ _ _ _ sc _ _ _=>sc
  | _=>{ kind:=.function,names:=[],isGenerator:=false,isCoroutine:=false }
noncomputable abbrev CX0:CXT:=fun _ _ _ _ _ _=>False
noncomputable abbrev E0:XK:=fun _ _ _=>False
theorem pass0 {X:Cx}:jeG CX0 X E0:=fun _ _ _ _ _ _ _ h=>h.elim
structure Fun (K:PySem.W.Frag) (x qual:Str) (st:Stmt) (f:Addr) (fd:FuncData):Prop where
  ex:∃ (oc:Value) (od:Option Addr) (kV doc pm:Value) (an:Option Addr) (cdv ct:Value) (osl:Array (Option Value)),
    fd = PySem.W.fnOf x qual (qy st) (JT st) (jt st) .none kV doc pm an cdv ct /\ K.lookup f = some ⟨oc,od,.func fd,osl⟩ /\ PySem.W.codeIn K cdv qual = true
  kp:PySem.W.keepIn K (.ref f) = true
section
variable {P:Program} {w:World} {K:PySem.W.Frag} {mg:Str->Option Value} {base:Heap}
theorem Fun.ok {x qual:Str} {st:Stmt} {f:Addr} {fd:FuncData} {N ps:List Str} {k:Nat} {sp:Sp} (F:Fun K x qual st f fd) (S:jH N ps (jt st)) (len:∀ vs H Q E,sp vs H Q E->vs.length = ps.length)
    (hbody:∀ (cdv:Value) (A:Around) (outer:List Env) (s:Shared) (H:Hp) (vs:List V) (Q:VK) (E:XK),Room k (A.deeper (envOfC qual (jt st) s.heap.objs.size f cdv))->sp vs H Q E ->
      ∃ t,PSs (cxOf CX0 P w K mg base N qual (jt st) f cdv A outer s H E).nox (JT st) t /\ t { nx:=fun _ H'=>Q .non H',rt:=Q } (start N vs) H):FnOk P w K mg base CX0 (k + 1) f fd ps sp:=by
  obtain ⟨oc,od,kV,doc,pm,an,cdv,ct,osl,rfl,lk,hcd⟩:=F.ex
  refine fn_of lk hcd S len fun A outer s H vs Q E hr hsp=>?_
  obtain ⟨t,h,q⟩:=hbody cdv A outer s H vs Q E hr hsp
  exact ⟨t,h.nox,q⟩
theorem Fun.binds {x qual:Str} {st:Stmt} {f:Addr} {fd:FuncData} {ps:List Str} (F:Fun K x qual st f fd)
    (h:∀ (kV doc pm:Value) (an:Option Addr) (cdv ct:Value) (us:List Value),us.length = ps.length->bindArgs (PySem.W.fnOf x qual (qy st) (JT st) (jt st) .none kV doc pm an cdv ct) ⟨us,[]⟩ = pure (ps.zip us)):Binds K fd ps []:=by
  obtain ⟨oc,od,kV,doc,pm,an,cdv,ct,osl,rfl,lk,hcd⟩:=F.ex
  exact .all (h kV doc pm an cdv ct)
theorem fun_mk {x qual:Str} {st:Stmt} {f:Addr} {oc:Value} {od an:Option Addr} {osl:Array (Option Value)} {kV doc pm cdv ct:Value} (l:K.lookup f = some ⟨oc,od,.func (PySem.W.fnOf x qual (qy st) (JT st) (jt st) .none kV doc pm an cdv ct),osl⟩)
    (c:PySem.W.codeIn K cdv qual = true) (k:PySem.W.keepIn K (.ref f) = true):Fun K x qual st f (PySem.W.fnOf x qual (qy st) (JT st) (jt st) .none kV doc pm an cdv ct):=⟨⟨oc,od,kV,doc,pm,an,cdv,ct,osl,rfl,l,c⟩,k⟩
end
theorem Je {n:Nat} (h:n <= 1000):n < sizeLine:=Nat.lt_of_le_of_lt h (by decide)
section
variable {X:Cx}
end
theorem iteF {A B:Prop} (h:B):if false = true then A else B:=by
  rw [if_neg Bool.false_ne_true]
  exact h
theorem iteT {A B:Prop} (h:A):if true = true then A else B:=by
  rw [if_pos rfl]
  exact h
theorem ite2 {c A B:Prop} [Decidable c] (h1:c->A) (h2:¬ c->B):if c then A else B:=by
  by_cases h:c
  · rw [if_pos h]
    exact h1 h
  · rw [if_neg h]
    exact h2 h
noncomputable def Same (H H':Hp):Prop:=∀ b o,H b = some o->H' b = some o
theorem Same.refl (H:Hp):Same H H:=fun _ _ h=>h
theorem Same.trans {H H1 H2:Hp} (a:Same H H1) (b:Same H1 H2):Same H H2:=fun c o h=>b c o (a c o h)
theorem Same.free {H H':Hp} (e:Same H H') {l:Addr} (h:H' l = Option.none):H l = Option.none:=by
  cases q:H l with
  | none=>rfl
  | some o =>
    rw [e l o q] at h
    cases h
theorem Same.seq {K:PySem.W.Frag} {H H':Hp} {a:Addr} {xs:List V} (e:Same H H') (h:SqL K H a xs):SqL K H' a xs:=by
  rcases h with (h | ⟨o,h⟩) | h
  · exact .inl (.inl (e _ _ h))
  · exact .inl (.inr ⟨o,e _ _ h⟩)
  · exact .inr h
section
variable {κ:Type} [DecidableEq κ]
end
end L2
namespace GM
end GM
set_option Elab.async false
set_option linter.all false
set_option maxRecDepth 100000
namespace L2
open PySem PySem.Spec PyProof.Rows
noncomputable def noStar:Expr->Bool
  | .Starred _ _=>false
  | _=>true
theorem Jb {e:Expr} {es:List Expr} {env:Env} (h:noStar e = true):starEach (e :: es) env = (false,eval e env) :: starEach es env:=by
  cases e <;> first | rfl | cases h
theorem jaj {pos:Pos} {env:Env}:∀ {es:List Expr},es.all noStar = true->(backTo pos (starEach es env)).any (·.1) = false
  | [],_=>rfl
  | e :: es,h=>by
    rw [List.all_cons,Bool.and_eq_true] at h
    rw [Jb h.1]
    show (false || (backTo pos (starEach es env)).any (·.1)) = false
    rw [jaj h.2]; rfl
theorem Qf {e:Expr} {es:List Expr} (h:(e :: es).all noStar = true):noStar e = true /\ es.all noStar = true:=by
  rw [List.all_cons,Bool.and_eq_true] at h; exact h
section
variable {X:Cx} {e o:Expr} {es:List Expr} {te:TE} {t:TA} {pos p:Pos}
theorem pa_c (ha:PE X e te) (hr:PA X es t) (hs:noStar e = true:=by rfl):PA X (e :: es) (jc6 te t):=pa_cons ha hr (Jb hs)
theorem JM {x:Str} {id:String} {r:List V->Hp->VK->Prop} (hc:yl X (.builtin id) r) (hg:Gl X x) (hm:X.mg x = none) (hv:bootBuiltins x = some (.builtin id)) (ha:PA X (e :: es) t) (hs:(e :: es).all noStar = true:=by rfl)
    (hn:x ≠ "__name__" := by decide) (hdb:(x == ("__debug__" : Str)) = false:=by decide):PE X (.Call (.Name x p) (e :: es) [] pos) (tCB r t) :=
  pe_callB hc hg hm hv ha hn hdb (Jb (Qf hs).1) (jaj (Qf hs).2)
theorem YD {x:Str} {T:String} {r:List V->Hp->VK->Prop} (hc:yl X (.type T) r) (hg:Gl X x) (hm:X.mg x = none) (hv:bootBuiltins x = some (.type T)) (ha:PA X (e :: es) t) (hs:(e :: es).all noStar = true:=by rfl)
    (hn:x ≠ "__name__" := by decide) (hdb:(x == ("__debug__" : Str)) = false:=by decide):PE X (.Call (.Name x p) (e :: es) [] pos) (tCB r t) :=
  jjZ hc hg hm hv ha hn hdb (Jb (Qf hs).1) (jaj (Qf hs).2)
theorem few1 {env:Env} {cpos:Pos} (h:noStar e = true):((backTo cpos (starEach [e] env)).all (fun x=>!x.1) && (backToKw cpos (keywordEach [] env)).all (fun x=>x.1.isSome)
      && decide (([e]:List Expr).length + ([]:List Keyword).length + (if ([]:List Keyword).isEmpty then 0 else 1) < 30)) = true:=by
  rw [Jb h]; rfl
theorem qg {to:TE} {apos cpos:Pos} (ho:PE X o to) (ha:PA X [e] t) (hs:noStar e = true:=by rfl) (hbase:attributeBase o "append" X.env (eval o X.env) = eval o X.env:=by rfl) (hline:(apos.endLine == cpos.line) = true:=by rfl) :
    PE X (.Call (.Attribute o "append" apos) [e] [] cpos) (tBM X.K "list" jhe to t) :=
  pe_bm PySem.F.plainAttrs_list PySem.F.slot_list_append PySem.F.type_list_append jgt ho ha hbase (few1 hs) hline (Jb hs) rfl
end
inductive Nm where | non | bl | int | str | lst | tup | dct
  deriving DecidableEq
noncomputable def Nm.s:Nm->String
  | .non => "NoneType" | .bl => "bool" | .int => "int" | .str => "str" | .lst => "list" | .tup => "tuple" | .dct => "dict"
noncomputable def isN (n m:Nm):Bool:=decide (n = m) || (decide (n = .bl) && decide (m = .int))
noncomputable def bT (T U:String):Option Bool:=if (Value.type T == Value.type U) = true then some true else if PySem.W.kitMeta U = true then (fastBuiltinMro T).map (·.contains (Value.type U)) else none
theorem jjI (K:PySem.W.Frag) (T U:String):PySem.W.kitOne K (.type T) (.type U) = bT T U:=rfl
theorem bT_all (n m:Nm):bT n.s m.s = some (isN n m):=by
  cases n <;> cases m <;> decide +kernel
noncomputable abbrev jeD (K:PySem.W.Frag) (H:Hp) (v:V) (n:Nm):Prop:=TyOf K H v (.type (Nm.s n))
noncomputable def rIsi (K:PySem.W.Frag) (m:Nm):List V->Hp->VK->Prop:=fun xs H Q=>∃ x n,xs = [x,.ty (Nm.s m)] /\ jeD K H x n /\ Q (.bl (isN n m)) H
theorem jhv {X:Cx} (m:Nm):yl X (.builtin "isinstance") (rIsi X.K m):=by
  intro pins s σ H xs us Q I r h
  obtain ⟨x,n,rfl,ty,q⟩:=h
  obtain ⟨u,u',rfl,ru,ru'⟩:=vals2 r
  cases ru'
  exact jgn I ru ty ((jjI _ _ _).trans (bT_all n m)) fun tk=>⟨.bl (isN n m),H,I.tok tk,rfl,q⟩
theorem nm_ne (m:Nm):(Str.ofString (Nm.s m)) ≠ "__name__" := by cases m <;> decide +kernel
theorem nm_db (m:Nm):((Str.ofString (Nm.s m)) == ("__debug__" : Str)) = false:=by cases m <;> decide +kernel
theorem boot_nm (m:Nm) (h:m ≠ .non):bootBuiltins (Str.ofString (Nm.s m)) = some (.type (Nm.s m)):=by
  cases m
  · exact absurd rfl h
  · exact boot_bool
  · exact boot_int
  · exact boot_str
  · exact boot_list
  · exact boot_tuple
  · exact boot_dict
theorem Zf {X:Cx} (m:Nm) {e:Expr} {te:TE} {p p2 pos:Pos} (hg:Gl X "isinstance") (hm:X.mg "isinstance" = none) (hgT:Gl X (Str.ofString (Nm.s m))) (hmT:X.mg (Str.ofString (Nm.s m)) = none) (ha:PE X e te) (h0:m ≠ .non:=by decide) (hs:noStar e = true:=by rfl) :
    PE X (.Call (.Name "isinstance" p) [e,.Name (Str.ofString (Nm.s m)) p2] [] pos) (tCB (rIsi X.K m) (jc6 te (jc6 (tC (.ty (Nm.s m))) tNil))) :=
  JM (jhv m) hg hm boot_isinstance (pa_c ha (pa_c (pe_bltn hgT hmT (boot_nm m h0) rfl (nm_ne m) (nm_db m)) jh) hs) (by rw [List.all_cons,hs]; rfl)
section
variable {X:Cx} {a b c:Expr} {ta tb tc:TE} {pos:Pos}
theorem qz:OpR X (binaryOp .Mult) (rI IntMulOk fun i j=>.int (i * j)):=opI fun _ _ _ _ _ _ _ hc q=>mul_int q hc
end
theorem Js {i j:Int} (h:j.natAbs < 2 ^ 64):IntMulOk i j:=IntMulOk.of_right (intBits_le_64 (by omega) (by omega))
theorem jcl {i j:Int} (h:i.natAbs < 2 ^ 64):IntMulOk i j:=IntMulOk.of_left (intBits_le_64 (by omega) (by omega))
structure jE (P:Program) (w:World) (K:PySem.W.Frag) (mg:Str->Option Value) (base:Heap) (k:Nat) (x:Str) (ps:List Str) (dvs:List V) (sp:Sp):Prop where
  ex:∃ (f:Addr) (fd:FuncData) (ds:List Value),FnOk P w K mg base CX0 k f fd ps sp /\ Binds K fd ps ds /\ Vals dvs ds /\ PySem.W.keepIn K (.ref f) = true /\ mg x = some (.ref f)
theorem jw {X:Cx} {k j:Nat} {x:Str} {ps:List Str} {dvs:List V} {sp:Sp} {p pos:Pos} {e:Expr} {es:List Expr} {t:TA}
    (D:jE X.prog X.w X.K X.mg X.base k x ps dvs sp) (hr:Room j X.A) (hj:k <= j) (hg:Gl X x) (ha:PA X (e :: es) t) (hs:(e :: es).all noStar = true:=by rfl)
    (hdb:(x == ("__debug__" : Str)) = false:=by decide) :
    PE X (.Call (.Name x p) (e :: es) [] pos) (tCall sp dvs E0 t):=by
  obtain ⟨f,fd,ds,F,b,hd,kp,m⟩:=D.ex
  exact pe_call F (hr.mono hj) hg m kp b hd pass0 ha hdb (Jb (Qf hs).1) (jaj (Qf hs).2)
section
variable {P:Program} {w:World} {K:PySem.W.Frag} {mg:Str->Option Value} {base:Heap}
end
theorem jA {H:Hp} {p:Addr} (h:H p = none) (o:HO):Same H (upd H p o):=fun b u q=>by rw [jM (jU q h)]; exact q
end L2
set_option Elab.async false
set_option linter.all false
set_option maxRecDepth 100000
namespace L2
open PySem PySem.Spec PyProof.Rows
noncomputable def jho:List TE->Str->TE
  | [],acc=>fun _ H Q=>acc.length <= sizeLine /\ Q (.str acc) H
  | t :: r,acc=>fun σ H Q=>t σ H fun x H1=>∃ y,x = .str y /\ (acc ++ y).length <= sizeLine /\ jho r (acc ++ y) σ H1 Q
inductive PFs (X:Cx):List Expr->List TE->Prop where
  | nil:PFs X [] []
  | cons {e:Expr} {es:List Expr} {t:TE} {ts:List TE}:PE X e t->PFs X es ts->PFs X (e :: es) (t :: ts)
theorem jas {X:Cx}:PFs X [] []:=.nil
theorem Jp {X:Cx} {e:Expr} {es:List Expr} {t:TE} {ts:List TE} (h:PE X e t) (r:PFs X es ts):PFs X (e :: es) (t :: ts):=.cons h r
theorem joins_ok {X:Cx} {es:List Expr} {ts:List TE} (h:PFs X es ts):∀ (acc:Str) (pins:List (Addr × Obj)) (s:Shared) (σ:St) (H:Hp) (Q:VK),Inv X pins σ H s->jho ts acc σ H Q ->
    wpAny (model X.prog X.w) X.A (joinParts acc (evalEach es X.env)) (EP X pins σ Q) X.xe s:=by
  induction h with
  | nil =>
    intro acc pins s σ H Q I q
    exact joinParts_nil ⟨.str acc,H,I.tok _,⟨_,rfl⟩,q.2⟩ q.1
  | cons he _ ih =>
    intro acc pins s σ H Q I q
    refine joinParts_cons (thn (he pins s σ H _ I q) fun v s1 ⟨x,H1,I1,r1,y,e,hz,q1⟩=>?_)
    subst e
    obtain ⟨t,rfl⟩:=r1
    exact ⟨hz,ih _ pins s1 σ H1 Q I1 q1⟩
theorem YF {X:Cx} {e1 e2:Expr} {es:List Expr} {ts:List TE} {pos:Pos} (h:PFs X (e1 :: e2 :: es) ts):PE X (.JoinedStr (e1 :: e2 :: es) pos) (jho ts Str.empty):=by
  intro pins s σ H Q I q
  exact JoinedStr_many (joins_ok h Str.empty pins s σ H Q I q)
noncomputable def tFv (te:TE):TE:=fun σ H Q=>te σ H fun x H1=>∃ i:Int,x = .int i /\ i.natAbs.log2 < 1920 /\ Q (.str (toString i)) H1
theorem jfh {X:Cx} {e:Expr} {te:TE} {pos:Pos} (he:PE X e te):PE X (.FormattedValue e (-1) none pos) (tFv te):=by
  intro pins s σ H Q I q
  refine FormattedValue_plain (thn (he pins s σ H _ I q) fun v s1 ⟨x,H1,I1,r1,i,e,hz,q1⟩=>?_)
  subst e
  obtain ⟨t,rfl⟩:=r1
  exact wpAny_formatField_int hz ⟨.str (toString i),H1,I1.tok _,⟨_,rfl⟩,q1⟩
theorem empty_app (x:Str):Str.empty ++ x = x:=by
  refine ext_toList ?_
  show ((#[]:Array Nat) ++ x.cps).toList = x.cps.toList
  rw [Array.toList_append]
  rfl
end L2
set_option Elab.async false
set_option linter.all false
set_option maxRecDepth 100000
namespace L2
open PySem PySem.Spec PyProof.Rows
structure QE (X:Cx) (e:Expr) (t:TE):Prop where h:PE X e t
structure QT (X:Cx) (e:Expr) (t:TT):Prop where h:PT X e t
structure QW (X:Cx) (e:Expr) (t:TT):Prop where h:PW X e t
structure QA (X:Cx) (es:List Expr) (t:TA):Prop where h:PA X es t
structure QS (X:Cx) (st:Stmt) (t:TS):Prop where h:PS X st t
structure QSs (X:Cx) (st:List Stmt) (t:TS):Prop where h:PSs X st t
structure QO (X:Cx) (e:Option Expr) (t:TO):Prop where h:PO X e t
structure QI (X:Cx) (tg iter:Expr) (wi:TI):Prop where h:PI X tg iter wi
structure QG (X:Cx) (tg:Expr) (t:TG):Prop where h:PG X tg t
structure QF (X:Cx) (es:List Expr) (ts:List TE):Prop where h:PFs X es ts
noncomputable def je7:Expr->Bool
  | .ListComp _ _ _ _=>false
  | .SetComp _ _ _ _=>false
  | .DictComp _ _ _ _ _=>false
  | _=>true
theorem jc5 {e:Expr} {tg:Option Expr} {l:Nat} {env:Env} (h:je7 e = true):swapsWith e tg l env = pure false:=by
  cases e <;> first | rfl | cases h
namespace R
section
variable {X:Cx} {a b c e o:Expr} {es rest:List Expr} {ta tb tc te:TE} {tA tB':TT} {t:TA} {pos p:Pos}
theorem pv (i:Nat) {x:Str} (hN:X.N[i]? = some x:=by rfl) (hv:Vis X.env.scope x:=by first | exact Or.inl rfl | exact Or.inr (Or.inl rfl) | exact Or.inr (Or.inr rfl)) (hd:(x == ("__debug__" : Str)) = false:=by decide)
    (hcd:(x == ("__classdict__" : Str)) = false:=by decide):QE X (.Name x pos) (tVar i):=⟨pe_var hN hv hd hcd⟩
theorem jg {i:Int} {j:Nat}:QE X (.Constant (.int i) j pos) (tC (.int i)):=⟨L2.jg⟩
theorem jaV {k:Bool} {j:Nat}:QE X (.Constant (.bool k) j pos) (tC (.bl k)):=⟨L2.jaV⟩
theorem Zg {j:Nat}:QE X (.Constant .none j pos) (tC .non):=⟨L2.Zg⟩
theorem jJ {x:Str} {j:Nat}:QE X (.Constant (.str x) j pos) (tC (.str x)):=⟨L2.jJ⟩
theorem jD {op:Operator} {r:R2} (ho:OpR X (binaryOp op) r) (ha:QE X a ta) (hb:QE X b tb):QE X (.BinOp a op b pos) (tOp r ta tb):=⟨L2.jD ho ha.h hb.h⟩
theorem pe_un {op:UnaryOp} {r:V->Hp->VK->Prop} (ho:UnR X (unaryOp op) r) (ha:QE X a ta):QE X (.UnaryOp op a pos) (tUn r ta):=⟨L2.pe_un ho ha.h⟩
theorem jfi (ha:QE X a ta):QE X (.UnaryOp .Not a pos) (tNotV ta):=⟨L2.jfi ha.h⟩
theorem jbr {op:BoolOp} (h:QE X a ta):QE X (.BoolOp op [a] pos) ta:=⟨L2.jbr h.h⟩
theorem jdy (ha:QE X a ta) (hb:QE X (.BoolOp .And (b :: rest) pos) tb):QE X (.BoolOp .And (a :: b :: rest) pos) (tAndV ta tb):=⟨L2.jdy ha.h hb.h⟩
theorem pe_or (ha:QE X a ta) (hb:QE X (.BoolOp .Or (b :: rest) pos) tb):QE X (.BoolOp .Or (a :: b :: rest) pos) (tOrV ta tb):=⟨L2.pe_or ha.h hb.h⟩
theorem Y5 {op:CmpOp} {r:R2} (ho:OpR X (compareOp op) r) (ha:QE X a ta) (hb:QE X b tb) (hm:behindInMarks op b = false):QE X (.Compare a [op] [b] pos) (tOp r ta tb):=⟨L2.Y5 ho ha.h hb.h hm⟩
theorem jcW (hc:QT X c tA) (ha:QE X a ta) (hb:QE X b tb):QE X (.IfExp c a b pos) (tIf tA ta tb):=⟨L2.jcW hc.h ha.h hb.h⟩
theorem Zy:QO X none jjl:=⟨L2.Zy⟩
theorem qC (h:QE X e te):QO X (some e) (tPart te):=⟨L2.qC h.h⟩
theorem qT {lo hi:Option Expr} {tl th:TO} {p2:Pos} {r:V->Option Int->Option Int->Hp->VK->Prop} (hr:SlR X r) (he:QE X e te) (hl:QO X lo tl) (hu:QO X hi th):QE X (.Subscript e (.Slice lo hi none p2) pos) (tSl r te tl th):=⟨L2.qT hr he.h hl.h hu.h⟩
theorem jX {r:R2} (hr:IxR X r) (ha:QE X a ta) (hb:QE X b tb) (hs:ji2 b):QE X (.Subscript a b pos) (tOp r ta tb):=⟨L2.jX hr ha.h hb.h hs⟩
theorem jh:QA X [] tNil:=⟨L2.jh⟩
theorem pa_c (ha:QE X e te) (hr:QA X es t) (hs:noStar e = true:=by rfl):QA X (e :: es) (jc6 te t):=⟨L2.pa_c ha.h hr.h hs⟩
theorem Jz (h:QA X es t):QE X (.List es pos) (tLst t):=⟨L2.Jz h.h⟩
theorem yI {x1:Nat} (h:QA X es t):QE X (.Tuple es x1 pos) (tTup t):=⟨L2.yI h.h⟩
theorem jcV:QE X (.Dict [] [] pos) tDNewK:=⟨L2.jcV⟩
theorem jas:QF X [] []:=⟨L2.jas⟩
theorem Jp {ts:List TE} (h:QE X e te) (r:QF X es ts):QF X (e :: es) (te :: ts):=⟨L2.Jp h.h r.h⟩
theorem YF {e1 e2:Expr} {ts:List TE} (h:QF X (e1 :: e2 :: es) ts):QE X (.JoinedStr (e1 :: e2 :: es) pos) (jho ts Str.empty):=⟨L2.YF h.h⟩
theorem jfh (he:QE X e te):QE X (.FormattedValue e (-1) none pos) (tFv te):=⟨L2.jfh he.h⟩
theorem jw {k j:Nat} {x:Str} {ps:List Str} {dvs:List V} {sp:Sp} (D:jE X.prog X.w X.K X.mg X.base k x ps dvs sp) (hr:Room j X.A) (hj:k <= j) (hg:Gl X x) (ha:QA X (e :: es) t) (hs:(e :: es).all noStar = true:=by rfl)
    (hdb:(x == ("__debug__" : Str)) = false:=by decide):QE X (.Call (.Name x p) (e :: es) [] pos) (tCall sp dvs E0 t):=⟨L2.jw D hr hj hg ha.h hs hdb⟩
theorem Zf (m:Nm) {p2:Pos} (hg:Gl X "isinstance") (hm:X.mg "isinstance" = none) (hgT:Gl X (Str.ofString (Nm.s m))) (hmT:X.mg (Str.ofString (Nm.s m)) = none) (ha:QE X e te) (h0:m ≠ .non:=by decide) (hs:noStar e = true:=by rfl) :
    QE X (.Call (.Name "isinstance" p) [e,.Name (Str.ofString (Nm.s m)) p2] [] pos) (tCB (rIsi X.K m) (jc6 te (jc6 (tC (.ty (Nm.s m))) tNil))):=⟨L2.Zf m hg hm hgT hmT ha.h h0 hs⟩
theorem JM {x:Str} {id:String} {r:List V->Hp->VK->Prop} (hc:yl X (.builtin id) r) (hg:Gl X x) (hm:X.mg x = none) (hv:bootBuiltins x = some (.builtin id)) (ha:QA X (e :: es) t) (hs:(e :: es).all noStar = true:=by rfl)
    (hn:x ≠ "__name__" := by decide) (hdb:(x == ("__debug__" : Str)) = false:=by decide):QE X (.Call (.Name x p) (e :: es) [] pos) (tCB r t):=⟨L2.JM hc hg hm hv ha.h hs hn hdb⟩
theorem YD {x:Str} {T:String} {r:List V->Hp->VK->Prop} (hc:yl X (.type T) r) (hg:Gl X x) (hm:X.mg x = none) (hv:bootBuiltins x = some (.type T)) (ha:QA X (e :: es) t) (hs:(e :: es).all noStar = true:=by rfl)
    (hn:x ≠ "__name__" := by decide) (hdb:(x == ("__debug__" : Str)) = false:=by decide):QE X (.Call (.Name x p) (e :: es) [] pos) (tCB r t):=⟨L2.YD hc hg hm hv ha.h hs hn hdb⟩
theorem qg {to:TE} {apos cpos:Pos} (ho:QE X o to) (ha:QA X [e] t) (hs:noStar e = true:=by rfl) (hbase:attributeBase o "append" X.env (eval o X.env) = eval o X.env:=by rfl) (hline:(apos.endLine == cpos.line) = true:=by rfl) :
    QE X (.Call (.Attribute o "append" apos) [e] [] cpos) (tBM X.K "list" jhe to t):=⟨L2.qg ho.h ha.h hs hbase hline⟩
theorem jR {op:CmpOp} {r:R2} (ho:OpR X (compareOp op) r) (ha:QE X a ta) (hb:QE X b tb) (hm:behindInMarks op b = false):QT X (.Compare a [op] [b] pos) (tTest (tOp r ta tb)):=⟨L2.jR ho ha.h hb.h hm⟩
theorem jaB (ha:QT X a tA):QW X (.BoolOp .And [a] pos) tA:=⟨L2.jaB ha.h⟩
theorem Yi (ha:QT X a tA):QW X (.BoolOp .Or [a] pos) tA:=⟨L2.Yi ha.h⟩
theorem jcv (ha:QT X a tA) (hb:QW X (.BoolOp .And (b :: rest) pos) tB'):QW X (.BoolOp .And (a :: b :: rest) pos) (tAnd tA tB'):=⟨L2.jcv ha.h hb.h⟩
theorem Zi (ha:QT X a tA) (hb:QW X (.BoolOp .Or (b :: rest) pos) tB'):QW X (.BoolOp .Or (a :: b :: rest) pos) (tOr tA tB'):=⟨L2.Zi ha.h hb.h⟩
theorem pt (h:QW X e tA):QT X e tA:=⟨PW.pt h.h⟩
theorem JZ (ha:QT X a tA):QT X (.UnaryOp .Not a pos) (tNot tA):=⟨L2.JZ ha.h⟩
theorem Jt (h:QE X e te) (he:∀ whole,isTrue e X.env whole = (do let v <- whole; standAt e.pos; holding [v] (truthy v)):=by intro _; rfl):QT X e (tB te):=⟨L2.Jt h.h he⟩
end
section
variable {X:Cx} {c e:Expr} {te:TE} {tc:TT} {st:Stmt} {sts body orelse:List Stmt} {t u tb:TS} {pos:Pos}
theorem jG (he:QE X e te):QS X (.Return (some e) pos) (tRet te):=⟨L2.jG he.h⟩
theorem JB:QS X st tNever:=⟨L2.JB⟩
theorem JQ (he:QE X e te) (hs:je7 e = true:=by rfl):QS X (.Expr e pos) (tDrop te):=⟨L2.JQ he.h (jc5 hs)⟩
theorem jO {i:Nat} {x:Str} {pos':Pos} (hN:X.N.Nodup) (hi:X.N[i]? = some x) (hx:Loc X.env.scope x) (he:QE X e te) (hs:je7 e = true:=by rfl) (hf:X.fn x = true ∨ X.env.scope.names.lookup x = some .local:=by first | exact .inl rfl | exact .inr rfl | assumption) :
    QS X (.Assign [.Name x pos'] e pos) (tAsg te (Ye i)):=⟨L2.jO hN hi hx he.h (jc5 hs) hf⟩
theorem j8 (hc:QT X c tc) (ha:QSs X body t) (hb:QSs X orelse u):QS X (.If c body orelse pos) (tIfS tc t u):=⟨L2.j8 hc.h ha.h hb.h⟩
theorem J4 {tg iter:Expr} {wi:TI} {g:TG} (hp:PassesOwn (model X.prog X.w) X.A X.env X.xe) (hc:X.calm = true) (hi:QI X tg iter wi) (hg:QG X tg g) (hb:QSs X body tb)
    (hs:∀ x,foldedSetIterable iter X.env x = pure x:=by intro _; rfl):QS X (.For tg iter body [] pos) (tFor wi g tb):=⟨L2.J4 hp hc hi.h hg.h hb.h hs⟩
theorem JF {tg:Expr} (hl:QE X e te):QI X tg e (iList X.K te):=⟨L2.JF hl.h⟩
theorem Ji {tg a:Expr} {ta:TA} {p:Pos} (hg:Gl X "range") (hm:X.mg "range" = none) (ha:QA X [a] ta) (hs:noStar a = true:=by rfl):QI X tg (.Call (.Name "range" p) [a] [] pos) (iRng1 ta):=⟨L2.Ji hg hm ha.h (Jb hs)⟩
theorem jP {i:Nat} {x:Str} (hN:X.N.Nodup) (hi:X.N[i]? = some x) (hx:Loc X.env.scope x) (hf:X.fn x = true ∨ X.env.scope.names.lookup x = some .local:=by first | exact .inl rfl | exact .inr rfl | assumption):QG X (.Name x pos) (Ye i):=⟨L2.jP hN hi hx hf⟩
theorem jL:QSs X [] tNext:=⟨L2.jL⟩
theorem jn (h1:QS X st t):QSs X [st] t:=⟨L2.jn h1.h⟩
theorem jk (h1:QS X st t) (h2:QSs X sts u):QSs X (st :: sts) (tSeq t u):=⟨L2.jk h1.h h2.h⟩
end
end R
section
variable {P:Program} {w:World} {K:PySem.W.Frag} {mg:Str->Option Value} {base:Heap}
theorem Fun.okQ {x qual:Str} {st:Stmt} {f:Addr} {fd:FuncData} {N ps:List Str} {k:Nat} {sp:Sp} (F:Fun K x qual st f fd) (S:jH N ps (jt st)) (len:∀ vs H Q E,sp vs H Q E->vs.length = ps.length)
    (hbody:∀ (cdv:Value) (A:Around) (outer:List Env) (s:Shared) (H:Hp) (vs:List V) (Q:VK) (E:XK),Room k (A.deeper (envOfC qual (jt st) s.heap.objs.size f cdv))->sp vs H Q E ->
      ∃ t,QSs (cxOf CX0 P w K mg base N qual (jt st) f cdv A outer s H E).nox (JT st) t /\ t { nx:=fun _ H'=>Q .non H',rt:=Q } (start N vs) H):FnOk P w K mg base CX0 (k + 1) f fd ps sp :=
  F.ok S len fun cdv A outer s H vs Q E hr h=>let ⟨t,q,r⟩:=hbody cdv A outer s H vs Q E hr h; ⟨t,q.h,r⟩
theorem Fun.jT {x qual:Str} {st:Stmt} {f:Addr} {fd:FuncData} {N ps:List Str} {k:Nat} {sp:Sp} (F:Fun K x qual st f fd) (m:mg x = some (.ref f)) (b:Binds K fd ps []) (S:jH N ps (jt st)) (len:∀ vs H Q E,sp vs H Q E->vs.length = ps.length)
    (hbody:∀ (cdv:Value) (A:Around) (outer:List Env) (s:Shared) (H:Hp) (vs:List V) (Q:VK) (E:XK),Room k (A.deeper (envOfC qual (jt st) s.heap.objs.size f cdv))->sp vs H Q E ->
      ∃ t,QSs (cxOf CX0 P w K mg base N qual (jt st) f cdv A outer s H E).nox (JT st) t /\ t { nx:=fun _ H'=>Q .non H',rt:=Q } (start N vs) H):jE P w K mg base (k + 1) x ps [] sp :=
  ⟨f,fd,[],F.okQ S len hbody,b,.nil,F.kp,m⟩
end
end L2
set_option Elab.async false
set_option linter.all false
set_option maxRecDepth 100000
namespace L2
open PySem PySem.Spec PyProof.Rows
section
variable {prog:Program} {w:World} {A:Around} {R:Result->Shared->Prop} {s:Shared}
end
noncomputable def J3 (X:Cx) (scope:Scope) (cl:List (Str × Addr)) (Nc:List Str) (C:Addr) (s₂:Shared) (H2:Hp) (fp:List Addr):Cx where
  prog:=X.prog
  w:=X.w
  K:=X.K
  mg:=X.mg
  base:=X.base
  A:=X.A
  N:=Nc
  s₀:=s₂
  H₀:=H2
  env:=compEnvC scope cl C X.env
  outer:=X.stack
  stack:=X.stack
  ex:=fp
  fn:=fun _=>false
  calm:=true
  pn:=[]
  xe:=fun _ _=>False
noncomputable def inner (σ:St) (fr:List Nat):St:=fr.map fun j=>(σ[j]?).join
end L2
set_option Elab.async false
set_option linter.all false
set_option maxRecDepth 100000
namespace L2
open PySem PySem.Spec PyProof.Rows
theorem jgV:typeLookup (.type "list_reverseiterator") "__len__" = pure none:=by rw [typeLookup_type,builtinLookup_eq_fast]; kernel_rfl
theorem jhG:typeLookup (.type "list_reverseiterator") "__length_hint__" = pure (some (.builtin "list_reverseiterator.__length_hint__")):=by rw [typeLookup_type,builtinLookup_eq_fast]; kernel_rfl
section
variable {prog:Program} {w:World} {A:Around} {s:Shared} {R:Result->Shared->Prop}
theorem jgW (hh:A.handled = none) (I l:Addr) (hne:l ≠ I) (items:Array Value) :
    WalksS prog w A I [I,l] [I] (fun a b=>a = b) items.size (fun i v=>items[items.size - 1 - i]? = some v) (fun i s=>i <= items.size /\ s.heap.IsRevIter I l ((items.size:Int) - 1 - (i:Int)) /\ s.heap.IsList l items) where
  sub:=fun b hb=>by simp at hb; simp [hb]
  grefl:=fun _=>rfl
  gtrans:=fun _ _ _ h g=>h.trans g
  frame:=fun _ _ _ _ x _ hk=>⟨x.1,x.2.1.at fun o e=>hk I (by simp) o e,x.2.2.at fun o e=>hk l (by simp) o e⟩
  item:=fun i s Q E hi x hQ=>by
    have e:(items.size:Int) - 1 - (i:Int) = ((items.size - 1 - i:Nat):Int):=by omega
    have hit:=x.2.1
    rw [e] at hit
    have hx:items[items.size - 1 - i]? = some (items[items.size - 1 - i]'(by omega)):=Array.getElem?_eq_getElem (by omega)
    refine wpAny_pyNext_rev_item hit x.2.2 hx fun h' hit' hs'=>?_
    have e2:((items.size - 1 - i:Nat):Int) - 1 = (items.size:Int) - 1 - ((i + 1:Nat):Int):=by omega
    rw [e2] at hit'
    exact hQ _ { s with heap:=h' } hx ⟨hi,hit',x.2.2.at fun o eo=>(hs'.2 l hne).trans eo⟩ ⟨fun b o hb eo=>hs'.extBut b o (fun h=>hb (by simp [h])) eo,rfl,rfl,rfl,Nat.le_refl _⟩
  done:=fun s Q E x hQ=>by
    have e:(items.size:Int) - 1 - (items.size:Int) = -1:=by omega
    have hit:=x.2.1
    rw [e] at hit
    exact wpAny_pyNext_rev_end hh hit fun h' he'=>hQ { s with heap:=h' } ⟨fun b o hb eo=>he' b o (fun h=>hb (by simp [h])) eo,rfl,rfl,rfl,Nat.le_refl _⟩
  self:=fun _ _ _ _ x hQ=>wpAny_pyIter_revIter x.2.1 hQ
variable {I:Addr} {fp wr:List Addr} {G:Array GenState->Array GenState->Prop} {n:Nat} {P:Nat->Value->Prop} {St:Nat->Shared->Prop}
theorem jfW (W:WalksS prog w A.in1 I fp wr G n P St) (hT:∀ i s,St i s->s.TypeIs (.ref I) "list_reverseiterator") (S:Addr) (res:Value) (c₀:Nat) (hst:St 0 s) (hSf:S ∉ fp) (hI:I ∈ fp)
    (hS:s.heap.get? S = some { cls:=.type "list",data:=.seq #[] c₀ })
    (hR:∀ s' acc' c',Moved (S :: wr) G s s'->s'.heap.get? S = some { cls:=.type "list",dict:=none,data:=.seq acc' c',slots:=#[] }->ItemsOf P acc' n->R (.ok (.ret res)) s') (hn:n <= sizeLine:=by size_fits) :
    wpAny (model prog w) A.in1 (Builtin.List.listExtendWith (.ref S) (.ref I) res)
      (fun fin s'=>match fin with | .done f=>R (.ok f) s' | .again c'=>c'.quiet = true /\ codeAny (model prog w) A c' R s') (fun e s'=>R (.error e) s') s:=by
  have hSI:S ≠ I:=fun e=>hSf (e ▸ hI)
  unfold Builtin.List.listExtendWith
  refine wpAny_bind (wpAny_typeOf (hT 0 _ hst) ?_)
  have h1:Builtin.List.listSameRef (.ref S) (.ref I) = false:=by simp [Builtin.List.listSameRef,hSI]
  rw [if_neg (by rw [h1]; decide)]
  refine wpAny_bind (W.self 0 _ _ _ hst ?_)
  refine wpAny_bind (wpAny_holding ?_)
  unfold Builtin.List.listLengthHint
  refine wpAny_bind (wpAny_specialOf (hT 0 _ hst) jgV ?_)
  show wpAny _ A.in1 (specialOf (Value.ref I) (Str.ofString "__length_hint__") >>= _) _ _ _
  refine wpAny_bind (wpAny_specialOf (hT 0 _ hst) jhG ?_)
  generalize hid:("list_reverseiterator.__length_hint__" : String) = id0
  wp_delta
  rw [show splitId id0 = some ("list_reverseiterator", "__length_hint__") from by subst hid; decide +kernel]
  subst hid
  refine wpAny_bind (wpAny_isInstance (b:=true) (hT 0 _ hst) (by rw [isSubtype_type]; kernel_rfl) ?_)
  refine wpAny_pure ?_
  rw [if_neg (by decide)]
  refine wpAny_pure ⟨plainId_quiet F.plain_extend_loop _,codeAny_extend_loopS W hn _ hSf _ n 0 _ _ _ rfl (Nat.zero_le _) hst hS (ItemsOf.nil P) fun s' acc' c' hm hS' hacc=>?_⟩
  exact hR s' acc' c' hm hS' hacc
theorem jdm (W:WalksS prog w A.in1 I fp wr G n P St) (hT:∀ i s,St i s->s.TypeIs (.ref I) "list_reverseiterator") (S:Addr) (hst:St 0 s) (hSf:S ∉ fp) (hI:I ∈ fp)
    (hS:s.heap.get? S = some { cls:=.type "list",data:=.seq #[] })
    (hR:∀ s' acc' c',Moved (S :: wr) G s s'->s'.heap.get? S = some { cls:=.type "list",dict:=none,data:=.seq acc' c',slots:=#[] }->ItemsOf P acc' n->R (.ok (.ret .none)) s') (hn:n <= sizeLine:=by size_fits) :
    wpAny (model prog w) A.in1 (Builtin.«list.__init__» ⟨[.ref S,.ref I],[]⟩)
      (fun fin s'=>match fin with | .done f=>R (.ok f) s' | .again c'=>c'.quiet = true /\ codeAny (model prog w) A c' R s') (fun e s'=>R (.error e) s') s:=by
  show wpAny _ A.in1 (do let old <- Builtin.List.listItems (.ref S); Builtin.List.listUpdate (.ref S) (fun _=>#[]); letGo old.toList.reverse; Builtin.List.listExtendWith (.ref S) (.ref I) .none) _ _ s
  refine wpAny_bind ?_
  unfold Builtin.List.listItems
  refine wpAny_bind (wpAny_seqItems hS rfl (wpAny_pure ?_))
  show wpAny _ A.in1 (updateSeq S (fun _=>#[]) >>= fun _=>letGo (#[]:Array Value).toList.reverse >>= fun _=>Builtin.List.listExtendWith (.ref S) (.ref I) .none) _ _ s
  refine wpAny_bind (wpAny_updateSeq hS rfl ?_)
  have hS₂:=Heap.get?_update_self (Obj.mapSeq (fun _=>(#[]:Array Value))) hS rfl
  have oth:∀ b o,b ≠ S->s.heap.get? b = some o->(s.heap.update S (Obj.mapSeq (fun _=>(#[]:Array Value)))).get? b = some o :=
    fun b o hb e=>(Heap.get?_update_other _ _ (Ne.symm hb)).trans e
  refine wpAny_bind (wpAny_letGo ?_)
  refine jfW (hn:=hn) W hT S .none _ (W.frame 0 s _ s.toks hst (Nat.le_refl _) fun b hb o e=>oth b o (fun h=>hSf (h ▸ hb)) e) hSf hI hS₂ fun s' acc' c' hm hS' hacc=>?_
  exact hR s' acc' c' (Moved.trans W.gtrans ((Moved.refl W.grefl).then_heap (Nat.le_refl _) fun b o hb e=>oth b o (fun h=>hb (h ▸ List.mem_cons_self)) e) hm) hS' hacc
end
section
variable {prog:Program} {w:World} {A:Around} {E:Value->Shared->Prop} {s:Shared}
variable {I:Addr} {fp wr:List Addr} {G:Array GenState->Array GenState->Prop} {n:Nat} {P:Nat->Value->Prop} {St:Nat->Shared->Prop}
theorem jdl {Q:Value->Shared->Prop} (W:WalksS prog w A.in1.in1 I fp wr G n P St) (hT:∀ i s,St i s->s.TypeIs (.ref I) "list_reverseiterator") (hst:St 0 s) (hfp:∀ b ∈ fp,b < s.heap.objs.size) (hI:I ∈ fp)
    (hQ:∀ s' acc' c',Moved (s.heap.objs.size :: wr) G { s with heap:=s.heap.push { cls:=.type "list",data:=.seq #[] } } s' ->
      s'.heap.get? s.heap.objs.size = some { cls:=.type "list",dict:=none,data:=.seq acc' c',slots:=#[] }->ItemsOf P acc' n->Q (.ref s.heap.objs.size) s') (hn:n <= sizeLine:=by size_fits) :
    wpAny (model prog w) A (call (.type "list") [.ref I]) Q E s:=by
  have hSf:s.heap.objs.size ∉ fp:=fun hm=>Nat.lt_irrefl _ (hfp _ hm)
  refine callType_codes (Q₁:=fun obj s₁=>obj = .ref s.heap.objs.size /\ s₁ = { s with heap:=s.heap.push { cls:=.type "list",data:=.seq #[] } }) F.called_list (F.typeCall_list_1 _) F.entry_list_init
    (code_list_new _ ⟨rfl,rfl⟩) fun obj s₁ h₁=>?_
  obtain ⟨rfl,rfl⟩:=h₁
  have hS:(s.heap.push { cls:=.type "list",data:=.seq #[] }).get? s.heap.objs.size = some { cls:=.type "list",data:=.seq #[] }:=Heap.get?_push_size _ rfl
  refine ⟨⟨_,hS,rfl⟩,F.args_list_init_2 _ _,jdm (hn:=hn) W hT _ (W.frame 0 s _ s.toks hst (Nat.le_refl _) fun b _ o e=>Heap.get?_push_of_some _ e) hSf hI hS fun s' acc' c' hm hS' hacc=>?_⟩
  exact ⟨rfl,hQ s' acc' c' hm hS' hacc⟩
end
noncomputable def tRev (te:TE):TE:=fun σ H Q=>te σ H fun x H1=>∃ a xs,x = .ref a /\ H1 a = some (.lst xs) /\ ∀ l,H1 l = none->Q (.ref l) (upd H1 l (.lst xs.reverse))
theorem jj1 {its:List Value} {acc:Array Value} (h:ItemsOf (fun i v=>its.toArray[its.toArray.size - 1 - i]? = some v) acc its.toArray.size):acc.toList = its.reverse:=by
  obtain ⟨h1,h2⟩:=h
  have sz:its.toArray.size = its.length:=by simp
  refine List.ext_getElem? fun j=>?_
  by_cases hj:j < acc.size
  · have e:=h2 j acc[j] (Array.getElem?_eq_getElem hj)
    rw [Array.getElem?_toList,Array.getElem?_eq_getElem hj]
    rw [sz] at h1 e
    rw [List.getElem?_reverse (by omega)]
    rw [<- e]
    simp
  · rw [Array.getElem?_toList,Array.getElem?_eq_none (by omega),List.getElem?_eq_none (by rw [List.length_reverse]; omega)]
theorem jcs {X:Cx} {e:Expr} {te:TE} {p1 p2 pos pos2:Pos} (hc:X.calm = true) (hgL:Gl X "list") (hmL:X.mg "list" = none) (hgR:Gl X "reversed") (hmR:X.mg "reversed" = none) (ha:PE X e te) (hs:noStar e = true:=by rfl) :
    PE X (.Call (.Name "list" p1) [.Call (.Name "reversed" p2) [e] [] pos2] [] pos) (tRev te):=by
  intro pins s σ H Q I h
  refine wpAny_Call_Name_kw (ZJ I hgL hmL boot_list ?_)
  refine PyProof.Rows.callWith_type1 ?_ rfl rfl
  rw [Jb (show noStar (.Call (.Name "reversed" p2) [e] [] pos2) = true from rfl)]
  show wpAny _ _ (spliced ((false,eval (.Call (.Name "reversed" p2) [e] [] pos2) X.env) :: backTo pos (starEach [] X.env))) _ _ s
  refine Calls.spliced_cons (wpAny_Call_Name_kw (ZJ I hgR hmR boot_reversed ?_))
  refine PyProof.Rows.callWith_type1 ?_ (Jb hs) rfl
  rw [Jb hs]
  show wpAny _ _ (spliced ((false,eval e X.env) :: backTo pos2 (starEach [] X.env))) _ _ s
  refine Calls.spliced_cons (thn (ha pins s σ H _ I h) fun u s1 zz=>?_)
  obtain ⟨x,H1,I1,r1,q1⟩:=zz
  obtain ⟨a,xs,ex,ha1,q⟩:=q1
  subst ex
  cases r1
  refine Calls.spliced_nil ?_
  obtain ⟨_,its,n,rv,hl,e1⟩:=I1.lstM ha1
  refine call_reversed_list (items:=its.toArray) ⟨_,e1,rfl,n,rfl⟩ ?_
  refine Calls.spliced_nil ?_
  have hh:X.A.handled = none:=I1.ok.hd hc
  have alt:a < s1.heap.objs.size:=Heap.lt_size e1
  have kp:∀ b o,s1.heap.get? b = some o->(s1.heap.push (revObj a ((its.toArray.size:Int) - 1))).get? b = some o:=fun b o e=>Heap.get?_push_of_some _ e
  have hit:(s1.heap.push (revObj a ((its.toArray.size:Int) - 1))).get? s1.heap.objs.size = some (revObj a ((its.toArray.size:Int) - 1)):=Heap.get?_push_size _ rfl
  have I2:Inv X pins σ H1 { s1 with heap:=s1.heap.push (revObj a ((its.toArray.size:Int) - 1)) }:=I1.kept (t':=s1.toks) kp
  have W:=jgW (prog:=X.prog) (w:=X.w) (A:=X.A.in1.in1) hh s1.heap.objs.size a (Nat.ne_of_lt alt) its.toArray
  have sz2:(s1.heap.push (revObj a ((its.toArray.size:Int) - 1))).objs.size = s1.heap.objs.size + 1:=Heap.size_push ..
  refine jdl (s:={ s1 with heap:=s1.heap.push (revObj a ((its.toArray.size:Int) - 1)) }) W (fun i s st=>st.2.1.typeIs) ⟨Nat.zero_le _,⟨_,hit,rfl,by show Data.fields _ = Data.fields _; simp⟩,⟨_,kp _ _ e1,rfl,n,rfl⟩⟩ (fun b hb=>?_) (by simp) (fun s' acc' c' hm hS' hacc=>?_) ?_
  · show b < (s1.heap.push (revObj a ((its.toArray.size:Int) - 1))).objs.size
    rw [sz2]
    rcases List.mem_cons.mp hb with z | z
    · rw [z]; exact Nat.lt_succ_self _
    · rw [List.mem_singleton.mp z]; exact Nat.lt_succ_of_lt alt
  · have hS:H1 (s1.heap.push (revObj a ((its.toArray.size:Int) - 1))).objs.size = none:=I2.hok.fresh (Nat.le_refl _)
    have hn0:H1 s1.heap.objs.size = none:=I1.hok.fresh (Nat.le_refl _)
    have old:∀ b o,b ≠ s1.heap.objs.size->(s1.heap.push (revObj a ((its.toArray.size:Int) - 1))).get? b = some o->s'.heap.get? b = some o:=fun b o hb e =>
      hm.heap b o (fun z=>by
        rcases List.mem_cons.mp z with z | z
        · exact absurd (Heap.lt_size e) (by rw [z]; exact Nat.lt_irrefl _)
        · exact hb (List.mem_singleton.mp z)) (Heap.get?_push_of_some _ e)
    have neS:∀ b o,(s1.heap.push (revObj a ((its.toArray.size:Int) - 1))).get? b = some o->b ≠ (s1.heap.push (revObj a ((its.toArray.size:Int) - 1))).objs.size:=fun b o e=>Nat.ne_of_lt (Heap.lt_size e)
    have tr:∀ b u,H1 b = some u->b ≠ (s1.heap.push (revObj a ((its.toArray.size:Int) - 1))).objs.size /\ b ≠ s1.heap.objs.size:=fun b u e=>⟨jU e hS,jU e hn0⟩
    have items:=jj1 hacc
    have hok:HOk X.prog X.w (upd H1 (s1.heap.push (revObj a ((its.toArray.size:Int) - 1))).objs.size (.lst xs.reverse)) s'.heap:=fun b u e=>by
      by_cases hb:b = (s1.heap.push (revObj a ((its.toArray.size:Int) - 1))).objs.size
      · subst hb
        rw [jm] at e
        cases e
        refine ⟨by rw [List.length_reverse,hl]; have:=(show its.length <= sizeLine from by rw [<- hl]; exact (I1.lstM ha1).1); exact this,its.reverse,c',rv.reverse,?_⟩
        rw [<- items]
        exact hS'
      · rw [jM hb] at e
        refine (I2.hok b u e).stay (fun c v hc' q=>old c v ?_ q) (fun c z=>by rw [jM (tr c _ z).1]; exact z) fun c ys z=>by rw [jM (tr c _ z).1]; exact z
        rcases hc' with z | z
        · rw [z]; exact (tr b u e).2
        · exact (tr c _ z).2
    obtain ⟨hh',g',d',t',os'⟩:=s'
    have e1':os' = s1.os:=hm.os
    have e2':s1.gens = g':=hm.gens
    subst e1'
    have J:=I2.step (h':=hh') (H':=upd H1 (s1.heap.push (revObj a ((its.toArray.size:Int) - 1))).objs.size (.lst xs.reverse)) (ch:=[s1.heap.objs.size]) (g':=g') (t':=t') (d':=d') (fun b hb=>by
        rw [List.mem_singleton.mp hb]
        refine ⟨.inr I1.sz,Nat.ne_of_gt I1.lt,fun z c ec=>?_,fun p hp=>?_⟩
        · obtain ⟨v',hcell⟩:=I1.cell z c ec
          exact Nat.ne_of_lt hcell.lt
        · exact Nat.ne_of_lt (Heap.lt_size (I1.pin p hp).1)) (fun b o _ _ hc' e _=>old b o (fun z=>hc' (by simp [z])) e) (fun b o _ _ hc' e _=>⟨o.slots,old b o (fun z=>hc' (by simp [z])) e⟩)
      (fun b o _ e n=>by rw [jM (neS b o e)]; exact n) (fun b o hc' e=>⟨o,old b o (fun z=>hc' (by simp [z])) e⟩) (fun b ys z=>by rw [jM (tr b _ z).1]; exact z) (fun b o' ys z=>by rw [jM (tr b _ z).1]; exact z)
      (fun b ps z=>⟨#[],by rw [jM (tr b _ z).1,z]; simp⟩) (fun m hm'=>by
        obtain ⟨o,es,ep,ho,r⟩:=hm'
        exact ⟨o,es,ep,old _ o (Nat.ne_of_lt I1.lt) ho,r⟩) hok (by rw [<- e2']; exact I1.bare)
    exact ⟨.ref _,_,J,rfl,q _ hS⟩
  · have:=(I1.lstM ha1).1
    rw [List.size_toArray,<- hl]; exact this
namespace R
variable {X:Cx}
theorem jcs {e:Expr} {te:TE} {p1 p2 pos pos2:Pos} (hc:X.calm = true) (hgL:Gl X "list") (hmL:X.mg "list" = none) (hgR:Gl X "reversed") (hmR:X.mg "reversed" = none) (ha:QE X e te) (hs:noStar e = true:=by rfl) :
    QE X (.Call (.Name "list" p1) [.Call (.Name "reversed" p2) [e] [] pos2] [] pos) (tRev te):=⟨L2.jcs hc hgL hmL hgR hmR ha.h hs⟩
end R
end L2
namespace L2
open PySem PySem.Spec PyProof.Rows
end L2
namespace L2
open PySem PySem.Spec PyProof.Rows
end L2
set_option Elab.async false
set_option linter.all false
set_option maxRecDepth 100000
namespace L2
open PySem PySem.Spec PyProof.Rows PySem.W
section
open Builtin Builtin.ObjectAttr Builtin.Getset_descriptor
variable {prog:Program} {w:World} {A:Around} {E:Value->Shared->Prop} {h:Heap} {g:Array GenState} {d:Drawn} {t:Nat} {os:OsState} {a C:Addr} {o:Obj} {K:Frag}
end
section
variable {M:Model} {A:Around} {E:Value->Shared->Prop} {h:Heap} {g:Array GenState} {d:Drawn} {t:Nat} {os:OsState} {a C D:Addr} {o oD:Obj} {K:Frag} {dD:Option Addr} {cD:ClassData} {sD:Array (Option Value)}
end
section
variable {P:Program} {w:World} {K:PySem.W.Frag} {mg:Str->Option Value} {base:Heap}
end
namespace R
section
variable {X:Cx} {e:Expr} {es:List Expr} {te:TE} {t:TA} {pos p:Pos}
end
end R
end L2
set_option Elab.async false
set_option linter.all false
set_option maxRecDepth 100000
namespace L2
open PySem PySem.Spec PyProof.Rows PySem.W
section
variable {P:Program} {w:World} {K:PySem.W.Frag} {mg:Str->Option Value} {base:Heap}
end
namespace R
end R
end L2
set_option Elab.async false
set_option linter.all false
set_option maxRecDepth 100000
namespace L2
open PySem PySem.Spec PyProof.Rows
noncomputable def clOf (cells:List (Str × Addr)):List (Str × NameKind)->List (Str × Addr)->List (Str × Addr)
  | [],acc=>acc
  | (n,k) :: r,acc=>if (k == .free) = true then clOf cells r ((n,(cells.lookup n).getD 0) :: acc) else clOf cells r acc
theorem jhw {env:Env}:∀ (names:List (Str × NameKind)) (acc:List (Str × Addr)),(∀ y ∈ names,y.2 = .free->∃ c,env.cells.lookup y.1 = some c) ->
    (forIn names acc fun (x:Str × NameKind) (r:List (Str × Addr))=>(if (x.2 == .free) = true then do let a <- cellOf env x.1; pure (ForInStep.yield ((x.1,a) :: r)) else pure (ForInStep.yield r):Sem (ForInStep (List (Str × Addr))))) = (pure (clOf env.cells names acc):Sem _)
  | [],acc,_=>rfl
  | (n,k) :: r,acc,h=>by
    have ih:=fun acc=>jhw (env:=env) r acc fun y hy=>h y (List.mem_cons_of_mem _ hy)
    rw [List.forIn_cons]
    cases hk:(k == NameKind.free) with
    | false =>
      have e1:clOf env.cells ((n,k) :: r) acc = clOf env.cells r acc:=by
        show (if (k == NameKind.free) = true then _ else _) = _
        rw [hk]; rfl
      rw [e1,<- ih acc]
      rfl
    | true =>
      have hk':k = .free:=by simpa using hk
      obtain ⟨c,hc⟩:=h (n,k) List.mem_cons_self hk'
      have e1:clOf env.cells ((n,k) :: r) acc = clOf env.cells r ((n,c) :: acc):=by
        show (if (k == NameKind.free) = true then clOf env.cells r ((n,(env.cells.lookup n).getD 0) :: acc) else _) = _
        rw [hk,show env.cells.lookup n = some c from hc]; rfl
      rw [e1,<- ih]
      have e2:cellOf env n = pure c:=by
        unfold cellOf
        rw [show env.cells.lookup n = some c from hc]
      rw [show cellOf env (n,k).fst = pure c from e2]; rfl
theorem jij {scope:Scope} {env:Env} (h:∀ y ∈ scope.names,y.2 = .free->∃ c,env.cells.lookup y.1 = some c):closureFor scope env = pure (clOf env.cells scope.names []):=by
  have q:=jhw (env:=env) scope.names [] h
  have e:closureFor scope env = Bind.bind (forIn scope.names [] fun (x:Str × NameKind) (r:List (Str × Addr))=>(if (x.2 == .free) = true then do let a <- cellOf env x.1; pure (ForInStep.yield ((x.1,a) :: r)) else pure (ForInStep.yield r):Sem (ForInStep (List (Str × Addr))))) (fun r=>pure r):=rfl
  rw [e,q]; rfl
theorem jeM {cells:List (Str × Addr)} {z:Str}:∀ (names:List (Str × NameKind)) (acc:List (Str × Addr)),(acc.lookup z).isSome = true->((clOf cells names acc).lookup z).isSome = true
  | [],_,h=>h
  | (n,k) :: r,acc,h=>by
    unfold clOf
    split
    · refine jeM r _ ?_
      rw [List.lookup_cons]
      cases (z == n)
      · exact h
      · rfl
    · exact jeM r _ h
theorem jeN {cells:List (Str × Addr)} {z:Str}:∀ (names:List (Str × NameKind)) (acc:List (Str × Addr)),(z,NameKind.free) ∈ names->((clOf cells names acc).lookup z).isSome = true
  | [],_,h=>nomatch h
  | (n,k) :: r,acc,h=>by
    unfold clOf
    rcases List.mem_cons.mp h with e | h
    · cases e
      rw [if_pos (by rfl)]
      refine jeM r _ ?_
      rw [List.lookup_cons,show (z == z) = true from by simp]; rfl
    · split
      · exact jeN r _ h
      · exact jeN r _ h
theorem jeO {cells:List (Str × Addr)} {z:Str} {c:Addr}:∀ (names:List (Str × NameKind)) (acc:List (Str × Addr)),(∀ y ∈ names,y.2 = .free->∃ c,cells.lookup y.1 = some c)->(∀ z c,acc.lookup z = some c->cells.lookup z = some c) ->
    (clOf cells names acc).lookup z = some c->cells.lookup z = some c
  | [],_,_,h,e=>h _ _ e
  | (n,k) :: r,acc,hn,h,e=>by
    unfold clOf at e
    split at e
    · rename_i hk
      have hk':k = .free:=by simpa using hk
      obtain ⟨c',hc⟩:=hn (n,k) List.mem_cons_self hk'
      refine jeO r _ (fun y hy=>hn y (List.mem_cons_of_mem _ hy)) (fun z1 c1 e9=>?_) e
      rw [show cells.lookup n = some c' from hc] at e9
      rw [List.lookup_cons] at e9
      cases hz:(z1 == n) with
      | false=>rw [hz] at e9; exact h _ _ e9
      | true =>
        rw [hz] at e9
        have hz':z1 = n:=by simpa using hz
        rw [hz',show cells.lookup n = some c' from hc]
        exact e9
    · exact jeO r _ (fun y hy=>hn y (List.mem_cons_of_mem _ hy)) h e
structure jam (X:Cx) (scope:Scope) (cl:List (Str × Addr)) (xs ns:List Str) (fr:List Nat):Prop where
  clos:closureFor scope X.env = pure cl
  sub:∀ z c,cl.lookup z = some c->X.env.cells.lookup z = some c
  kind:scope.kind = .function
  nocell:∀ y ∈ scope.names,y.2 ≠ .cell
  names:∀ y ∈ scope.names,y.2 = .local->scope.names.lookup y.1 = some .local
  has:∀ z,((relabel scope X.env).names.lookup z = some .cell ∨ (relabel scope X.env).names.lookup z = some .free)->∃ c,cl.lookup z = some c
  out:∀ (j:Nat) (z:Str),ns[j]? = some z->∃ i,fr[j]? = some i /\ X.N[i]? = some z /\ X.env.scope.names.lookup z = some .cell /\ (relabel scope X.env).names.lookup z = some .cell
  len:fr.length = ns.length
noncomputable def compB (sc cs:List (Str × NameKind)) (N ns:List Str) (fr:List Nat):Bool :=
  cs.all (fun y=>y.2 != .cell) && cs.all (fun y=>y.2 != .local || cs.lookup y.1 == some .local) && cs.all (fun y=>y.2 != .free || sc.lookup y.1 == some .cell)
    && (fr.length == ns.length) && (List.range ns.length).all (fun j=>match ns[j]?,fr[j]? with
      | some z,some i=>N[i]? == some z && sc.lookup z == some .cell && cs.lookup z == some .free
      | _,_=>false)
theorem zF {env:Env} (hk:env.scope.kind = .function):∀ {names:List (Str × NameKind)} {x:Str},names.lookup x = some .free->env.kindOf x = some .cell ->
    (names.map fun (n,k)=>if (k == NameKind.free && env.scope.kind == .function && env.kindOf n == some .cell) then (n,NameKind.cell) else (n,k)).lookup x = some .cell
  | [],_,h,_=>by simp at h
  | (n,k) :: r,x,h,hc=>by
    have ih:=@zF env hk r x
    show List.lookup x ((if (k == NameKind.free && env.scope.kind == .function && env.kindOf n == some .cell) = true then (n,NameKind.cell) else (n,k)) :: _) = _
    cases hx:x == n with
    | true =>
      have e:x = n:=by simpa using hx
      simp only [List.lookup_cons,hx] at h
      cases h
      subst e
      rw [if_pos (by rw [hk,hc]; decide)]
      simp only [List.lookup_cons,hx]
    | false =>
      simp only [List.lookup_cons,hx] at h
      by_cases hc':(k == NameKind.free && env.scope.kind == .function && env.kindOf n == some .cell) = true
      · rw [if_pos hc']; simp only [List.lookup_cons,hx]; exact ih h hc
      · rw [if_neg hc']; simp only [List.lookup_cons,hx]; exact ih h hc
theorem jbu {env:Env}:∀ {names:List (Str × NameKind)} {x:Str} {k:NameKind},
    (names.map fun (n,k)=>if (k == NameKind.free && env.scope.kind == .function && env.kindOf n == some .cell) then (n,NameKind.cell) else (n,k)).lookup x = some k->(∀ y ∈ names,y.2 ≠ .cell)->(k = .cell ∨ k = .free)->(x,NameKind.free) ∈ names
  | [],_,_,h,_,_=>by simp at h
  | (n,k0) :: r,x,k,h,hn,hk=>by
    have ih:=@jbu env r x k
    have h':List.lookup x ((if (k0 == NameKind.free && env.scope.kind == .function && env.kindOf n == some .cell) = true then (n,NameKind.cell) else (n,k0)) :: r.map fun (n,k)=>if (k == NameKind.free && env.scope.kind == .function && env.kindOf n == some .cell) then (n,NameKind.cell) else (n,k)) = some k:=h
    cases hx:x == n with
    | false =>
      refine List.mem_cons_of_mem _ (ih ?_ (fun y hy=>hn y (List.mem_cons_of_mem _ hy)) hk)
      by_cases hc':(k0 == NameKind.free && env.scope.kind == .function && env.kindOf n == some .cell) = true
      · rw [if_pos hc'] at h'; simpa only [List.lookup_cons,hx] using h'
      · rw [if_neg hc'] at h'; simpa only [List.lookup_cons,hx] using h'
    | true =>
      have e:x = n:=by simpa using hx
      subst e
      by_cases hc':(k0 == NameKind.free && env.scope.kind == .function && env.kindOf x == some .cell) = true
      · have:k0 = .free:=by
          rw [Bool.and_eq_true,Bool.and_eq_true] at hc'
          simpa using hc'.1.1
        rw [this]; exact List.mem_cons_self
      · rw [if_neg hc'] at h'
        simp only [List.lookup_cons,hx] at h'
        have:k0 = k:=Option.some.inj h'
        subst this
        rcases hk with e | e
        · exact absurd e (hn (x,k0) List.mem_cons_self)
        · rw [e]; exact List.mem_cons_self
theorem jam.of {X:Cx} {scope sc:Scope} {N xs ns:List Str} {fr:List Nat} (hsc:X.env.scope = sc) (hN:X.N = N) (hcl:∃ n,X.env.cells = cellsFrom n X.env.scope.names []) (hk:X.env.scope.kind = .function) (kind:scope.kind = .function)
    (h:compB sc.names scope.names N ns fr = true):jam X scope (clOf X.env.cells scope.names []) xs ns fr:=by
  subst hsc hN
  unfold compB at h
  rw [Bool.and_eq_true,Bool.and_eq_true,Bool.and_eq_true,Bool.and_eq_true] at h
  obtain ⟨⟨⟨⟨h1,h2⟩,h3⟩,h4⟩,h5⟩:=h
  have n1:∀ y ∈ scope.names,y.2 ≠ .cell:=fun y hy e=>by
    have:=List.all_eq_true.mp h1 y hy
    rw [e] at this; cases this
  have n2:∀ y ∈ scope.names,y.2 = .local->scope.names.lookup y.1 = some .local:=fun y hy e=>by
    have:=List.all_eq_true.mp h2 y hy
    rw [e] at this
    simpa using this
  have n3:∀ y ∈ scope.names,y.2 = .free->X.env.scope.names.lookup y.1 = some .cell:=fun y hy e=>by
    have:=List.all_eq_true.mp h3 y hy
    rw [e] at this
    simpa using this
  have n4:∀ y ∈ scope.names,y.2 = .free->∃ c,X.env.cells.lookup y.1 = some c:=fun y hy e=>by
    obtain ⟨n,hn⟩:=hcl
    rw [hn]
    exact jeL (n3 y hy e)
  refine ⟨jij n4,fun z c e=>jeO _ [] n4 (fun z c e=>by cases e) e,kind,n1,n2,fun z hz=>?_,fun j z e=>?_,by simpa using h4⟩
  · refine Option.isSome_iff_exists.mp (jeN _ [] ?_)
    rcases hz with q | q
    · exact jbu q n1 (.inl rfl)
    · exact jbu q n1 (.inr rfl)
  · have hj:j < ns.length:=(List.getElem?_eq_some_iff.mp e).1
    have:=List.all_eq_true.mp h5 j (List.mem_range.mpr hj)
    rw [e] at this
    have h4':fr.length = ns.length:=by simpa using h4
    have hj':j < fr.length:=by rw [h4']; exact hj
    rw [List.getElem?_eq_getElem hj'] at this
    have this':(X.N[fr[j]]? == some z && X.env.scope.names.lookup z == some .cell && scope.names.lookup z == some .free) = true:=this
    rw [Bool.and_eq_true,Bool.and_eq_true] at this'
    obtain ⟨⟨a1,a2⟩,a3⟩:=this'
    have a2':X.env.scope.names.lookup z = some .cell:=by simpa using a2
    exact ⟨fr[j],List.getElem?_eq_getElem hj',by simpa using a1,a2',zF hk (by simpa using a3) a2'⟩
noncomputable def PF (X:Cx) (ifs:List Expr) (t:TT):Prop :=
  ∀ (pins:List (Addr × Obj)) (s:Shared) (σ:St) (H:Hp) (Q:Bool->Hp->Prop),Inv X pins σ H s->t σ H Q ->
    wpAny (model X.prog X.w) X.A (forIn ifs true fun c r=>if r = true then do let ok <- isTrue c X.env (eval c X.env); pure (ForInStep.yield ok) else pure (ForInStep.yield r)) (TP X pins σ Q) X.xe s
noncomputable def fNil:TT:=fun _ H Q=>Q true H
theorem JK {X:Cx}:PF X [] fNil:=fun pins s σ H Q I h=>wpAny_tests_nil ⟨H,I,h⟩
theorem jha {X:Cx} {c:Expr} {t:TT} (h:PT X c t):PF X [c] t:=fun pins s σ H Q I hw=>wpAny_tests_one (h pins s σ H Q I hw)
section
variable {prog:Program} {w:World} {A:Around} {R:Result->Shared->Prop} {s:Shared}
theorem jik {elt target iter:Expr} {ifs:List Expr} {scope:Scope} {pos:Pos} {it acc:Value} {env:Env} (I:Nat->Shared->Prop)
    (turn:∀ n s,I n s->wpAny (model prog w) A (pyNext it) (fun r s₁=>match r with
      | none=>R (.ok .next) s₁
      | some v=>wpAny (model prog w) A (letOwnedTupleGo target it v) (fun _ s₁'=>wpAny (model prog w) A (assign target env v) (fun _ s₂ =>
          wpAny (model prog w) A (forIn ifs true fun c r=>if r = true then do let ok <- isTrue c env (eval c env); pure (ForInStep.yield ok) else pure (ForInStep.yield r)) (fun ok s₂'=>if ok = true then wpAny (model prog w) A (eval elt env) (fun x s₃ =>
            wpAny (model prog w) A (call (.builtin "list.append") [acc,x]) (fun _ s₄=>∃ m,m < n /\ I m s₄) (notedBy (model prog w) A env fun e s'=>R (.error e) s') s₃) (notedBy (model prog w) A env fun e s'=>R (.error e) s') s₂'
            else ∃ m,m < n /\ I m s₂') (notedBy (model prog w) A env fun e s'=>R (.error e) s') s₂)
          (notedBy (model prog w) A env fun e s'=>R (.error e) s') s₁') (notedBy (model prog w) A env fun e s'=>R (.error e) s') s₁) (notedBy (model prog w) A env fun e s'=>R (.error e) s') s)
    (n:Nat) (h:I n s):codeAny (model prog w) A (.compLoop (.ListComp elt [⟨target,iter,ifs,0⟩] scope pos) 0 it acc env) R s:=by
  refine codeAny_loop rfl I (fun n s hI=>?_) n h
  show wpAny _ A ((compTurn (.ListComp elt [⟨target,iter,ifs,0⟩] scope pos) 0 it acc env).onRaise (fun x=>do noteFrame x env; theTreesLotGoes x)) _ _ s
  refine wpAny_noted ?_
  rw [compTurn_list]
  refine wpAny_bind (wpAny_standAt (wpAny_bind (wpAny_mono (turn n s hI) (fun r s₁ h₁=>?_) fun _ _ h'=>h')))
  cases r with
  | none=>exact wpAny_pure h₁
  | some v =>
    refine wpAny_bind (wpAny_mono h₁ (fun _ s₀ h₀'=>?_) fun _ _ h'=>h')
    refine wpAny_bind (wpAny_mono h₀' (fun _ s₂ h₂=>?_) fun _ _ h'=>h')
    refine wpAny_bind (wpAny_mono h₂ (fun okb s₃ h₃=>?_) fun _ _ h'=>h')
    cases okb with
    | false=>exact wpAny_pure ⟨rfl,h₃⟩
    | true=>exact wpAny_bind (wpAny_bind (wpAny_mono h₃ (fun x s₄ h₄=>wpAny_bind (wpAny_mono h₄ (fun _ s₅ h₅=>wpAny_pure (wpAny_pure ⟨rfl,h₅⟩)) fun _ _ h'=>h')) fun _ _ h'=>h'))
end
noncomputable def yV (J:It) (nx:Nat) (g:TG) (fr:List Nat) (tt:TT) (te:TE) (σ:St) (Q:VK) (H1:Hp) (l:Addr):Prop :=
  ∃ W:Nat->Nat->Hp->Prop,(∃ m,W 0 m (upd H1 l (.lst []))) /\ ∀ k m H,W k m H ->
    (J.stop k H /\ Q (.ref l) H) ∨ (J.go k H /\ ∀ v H',J.yld k H v H'->∀ os:St,os.length = nx->g v (os ++ inner σ fr) H' fun σ2 H2=>(∃ os':St,os'.length = nx /\ σ2 = os' ++ inner σ fr) /\ tt σ2 H2 fun b H3 =>
      if b = true then te σ2 H3 fun y H4=>∃ zs m',H4 l = some (.lst zs) /\ zs.length < sizeLine /\ m' < m /\ W (k + 1) m' (upd H4 l (.lst (zs ++ [y]))) else ∃ m',m' < m /\ W (k + 1) m' H3)
noncomputable def jfT (wi:TI) (nx:Nat) (fr:List Nat) (g:TG) (tt:TT) (te:TE):TE:=fun σ H Q=>wi σ H fun J H1=>∀ l,H1 l = none->yV J nx g fr tt te σ Q H1 l
theorem jhx {X:Cx} {pins:List (Addr × Obj)} {σ:St} {H:Hp} {s:Shared} {tg iter elt:Expr} {ifs:List Expr} {scope:Scope} {pos pos':Pos} {cl:List (Str × Addr)} {xs ns:List Str} {fr:List Nat} {wi:TI} {g:TG} {tt:TT} {te:TE}
    {use:Option (Value->Sem Unit)} {Qv:Value->Shared->Prop} {R:VK}
    (hc:X.calm = true) (ok:jam X scope cl xs ns fr) (hI:PI X tg iter wi) (hg:∀ C s₂ H2 fp,PG (J3 X scope cl (xs ++ ns) C s₂ H2 fp) tg g) (hf:∀ C s₂ H2 fp,PF (J3 X scope cl (xs ++ ns) C s₂ H2 fp) ifs tt)
    (he:∀ C s₂ H2 fp,PE (J3 X scope cl (xs ++ ns) C s₂ H2 fp) elt te) (hs:∀ x,foldedSetIterable iter X.env x = pure x)
    (I:Inv X pins σ H s) (h:jfT wi xs.length fr g tt te σ H R)
    (fin:∀ (C l:Addr) (m:Str->Option Value) (s4:Shared) (Hk:Hp),Inv X pins σ Hk s4->s4.heap.Ns C m->Hk C = none->C ≠ X.env.locals->(∀ z c,X.env.cells.lookup z = some c->c ≠ C)->X.s₀.heap.objs.size <= C->(∀ p ∈ X.pn ++ pins,p.1 ≠ C) ->
      R (.ref l) Hk->compPost (model X.prog X.w) X.A X.xe use Qv (.ref l) C (.ok .next) s4) :
    wpAny (model X.prog X.w) X.A (comprehension (.ListComp elt [⟨tg,iter,ifs,0⟩] scope pos) scope X.env pos' (newList []) false (eval iter X.env) use) Qv X.xe s:=by
  refine wpAny_comprehension_free (use:=use) rfl hs ok.clos ok.kind ok.names ?_
  refine thn (hI pins s σ H _ I h) fun v s1 h1=>thn h1 fun itv s2 h2=>?_
  obtain ⟨it,fp,tn,J,H2,rfl,I2,T,st2,f2,rd⟩:=h2
  refine wpAny_newObj_type (wpAny_newFunctionEnv ok.nocell (by intro y hy; simp at hy) (fun h₁ hns₁ hsb₁=>?_) ok.kind)
  dsimp only at hns₁ hsb₁ ⊢
  generalize hG:s2.heap.push { cls:=.type "list",dict:=none,data:=.seq ([]:List Value).toArray } = G at hns₁ hsb₁ ⊢
  have hC:G.objs.size = s2.heap.objs.size + 1:=by rw [<- hG,Heap.size_push]
  have below:∀ b,b < s2.heap.objs.size->b ≠ G.objs.size /\ b ≠ s2.heap.objs.size:=fun b hb=>⟨by rw [hC]; exact Nat.ne_of_lt (Nat.lt_succ_of_lt hb),Nat.ne_of_lt hb⟩
  have old:∀ b o,s2.heap.get? b = some o->h₁.get? b = some o:=fun b o e=>hsb₁.extBut b o (below b (Heap.lt_size e)).1 (Heap.get?_push_of_some _ (hG ▸ Heap.get?_push_of_some _ e))
  have hacc:h₁.get? s2.heap.objs.size = some { cls:=.type "list",data:=.seq ([]:List Value).toArray } :=
    hsb₁.extBut _ _ (by rw [hC]; exact Nat.ne_of_lt (Nat.lt_succ_self _)) (Heap.get?_push_of_some _ (hG ▸ Heap.get?_push_size _ rfl))
  have lfree:H2 s2.heap.objs.size = none:=I2.hok.fresh (Nat.le_refl _)
  have fplt:∀ b ∈ fp,b < s2.heap.objs.size:=fun b hb=>by
    obtain ⟨o,e,_⟩:=T.obj 0 _ st2 b hb
    exact Heap.lt_size e
  have stk:∀ b ∈ frs X.stack,b ∈ X.env.locals :: X.fs:=I2.jiS
  have clc:∀ z c,cl.lookup z = some c->c < s2.heap.objs.size:=fun z c e=>by
    obtain ⟨v,q⟩:=I2.cell z c (ok.sub z c e)
    exact q.lt
  have okC:(J3 X scope cl (xs ++ ns) G.objs.size s2 H2 fp).Ok:=by
    refine ⟨I2.ok.mod,ok.kind,I2.ok.glob,I2.ok.blt,?_,fun a b c h1 h2=>I2.ok.inj a b c (ok.sub a c h1) (ok.sub b c h2),fun z hz=>ok.has z hz,fun z c hf=>?_,fun _=>I2.ok.hd hc,I2.ok.frames,.inl rfl,fun b hb=>⟨(below b (fplt b hb)).1,fun z c e=>?_⟩,I2.bs,Nat.le_trans I2.ok.bsz I2.sz,fun b o e hb=>?_,fun b hb=>?_,I2.stack,I2.jjk⟩
    · show s2.heap.objs.size <= G.objs.size
      rw [hC]; exact Nat.le_succ _
    · exact absurd (show false = true from hf) Bool.false_ne_true
    · exact (f2 b hb).2.2.2.2.1 z c (ok.sub z c e)
    · rcases (f2 b hb).2.2.2.1 with z | z
      · exact I2.ok.noex b o e z
      · exact absurd (Nat.lt_of_lt_of_le (Heap.lt_size e) (Nat.le_trans I2.ok.bsz z)) (Nat.lt_irrefl _)
    · intro z
      rcases List.mem_cons.mp (stk b z) with q | q
      · exact (f2 b hb).2.1 q
      · exact (f2 b hb).2.2.1 q
  have fpC:∀ {H':Hp},(∀ b ∈ fp,H' b = none)->∀ b ∈ fp,FpOk (J3 X scope cl (xs ++ ns) G.objs.size s2 H2 fp) [] H' b:=fun hn b hb =>
    ⟨hn b hb,(below b (fplt b hb)).1,okC.exfs b hb,.inl hb,fun z c e=>(f2 b hb).2.2.2.2.1 z c (ok.sub z c e),fun p hp=>absurd (show p ∈ ([]:List (Addr × Obj)) from hp) (by simp)⟩
  have I4:Inv (J3 X scope cl (xs ++ ns) G.objs.size s2 H2 fp) [] (List.replicate xs.length none ++ inner σ fr) (upd H2 s2.heap.objs.size (.lst [])) { s2 with heap:=h₁,toks:=s2.toks + ([]:List (Str × Value)).length }:=by
    refine ⟨okC,rfl,I2.bare,Un.laid old (Nat.le_refl _) lfree,⟨_,hns₁,fun j z u e1 e2 e3=>?_⟩,fun z c e=>?_,?_,fun z c e=>?_,fun p hp=>absurd (show p ∈ ([]:List (Addr × Obj)) from hp) (by simp),I2.hok.laid old (Nat.le_refl _) ⟨Nat.zero_le _,[],0,.nil,hacc⟩,?_⟩
    · by_cases hj:j < xs.length
      · rw [List.getElem?_append_left (by rw [List.length_replicate]; exact hj),List.getElem?_replicate,if_pos hj] at e2
        have e2':(none:Option V) = some u:=Option.some.inj e2
        cases e2'
      · have hj':xs.length <= j:=Nat.not_lt.mp hj
        rw [List.getElem?_append_right (by rw [List.length_replicate]; exact hj'),List.length_replicate] at e2
        have e1':ns[j - xs.length]? = some z:=by
          have e1'':(xs ++ ns)[j]? = some z:=e1
          rw [List.getElem?_append_right hj'] at e1''; exact e1''
        obtain ⟨i',q1,q2,q3,q4⟩:=ok.out _ z e1'
        have e3':σ[i']? = some (some u):=by
          unfold inner at e2
          rw [List.getElem?_map,q1] at e2
          have e4:(σ[i']?).join = some u:=Option.some.inj e2
          cases q:σ[i']? with
          | none=>rw [q] at e4; cases e4
          | some o=>rw [q] at e4; cases o with
            | none=>cases e4
            | some o=>cases e4; rfl
        obtain ⟨m,hn,hl⟩:=I2.loc
        obtain ⟨val,r,l⟩:=hl i' z u q2 e3' (.inr (.inl q3))
        refine ⟨val,r,.inr ⟨.inl q4,?_⟩⟩
        obtain ⟨c',hc'⟩:=ok.has z (.inl q4)
        rcases l with ⟨k1,_⟩ | ⟨_,c,hcc,hcell⟩
        · have k1':X.env.scope.names.lookup z = some .local:=k1
          rw [q3] at k1'; cases k1'
        · rw [ok.sub z c' hc'] at hcc
          cases hcc
          obtain ⟨ob,ho,hd⟩:=hcell
          exact ⟨c',hc',ob,old _ _ ho,hd⟩
    · obtain ⟨v',ob,ho,hd⟩:=I2.cell z c (ok.sub z c e)
      exact ⟨v',ob,old _ _ ho,hd⟩
    · show upd H2 s2.heap.objs.size (.lst []) G.objs.size = none
      rw [jM (by rw [hC]; exact Nat.ne_of_gt (Nat.lt_succ_self _))]
      exact I2.hok.fresh (by rw [hC]; exact Nat.le_succ _)
    · rw [jM (Nat.ne_of_lt (clc z c e))]
      exact I2.freeC z c (ok.sub z c e)
    · show (List.replicate xs.length none ++ inner σ fr).length = (xs ++ ns).length
      unfold inner
      rw [List.length_append,List.length_append,List.length_map,ok.len,List.length_replicate]
  obtain ⟨W,⟨m0,w0⟩,turns⟩:=rd _ lfree
  have loop:codeAny (model X.prog X.w) X.A (.compLoop (.ListComp elt [⟨tg,iter,ifs,0⟩] scope pos) 0 (.ref it) (.ref s2.heap.objs.size) (compEnvC scope cl G.objs.size X.env))
      (compPost (model X.prog X.w) X.A X.xe use Qv (.ref s2.heap.objs.size) G.objs.size) { s2 with heap:=h₁,toks:=s2.toks + ([]:List (Str × Value)).length }:=by
    refine jik (fun n s'=>∃ k Hk σk,Inv (J3 X scope cl (xs ++ ns) G.objs.size s2 H2 fp) [] σk Hk s' /\ (∃ os:St,os.length = xs.length /\ σk = os ++ inner σ fr) /\ tn k s'.heap /\ (∀ b ∈ fp,Hk b = none) /\ W k n Hk) ?_ m0
      ⟨0,_,_,I4,⟨_,List.length_replicate,rfl⟩,T.keep _ _ _ st2 fun b _ o e=>old b o e,fun b hb=>by rw [jM (below b (fplt b hb)).2]; exact (f2 b hb).1,w0⟩
    rintro n s3 ⟨k,Hk,σk,I3,⟨os,hol,hσ⟩,st3,fr3,w3⟩
    subst hσ
    rcases turns k n Hk w3 with ⟨stop,qn⟩ | ⟨go,step⟩
    · refine thn (T.done (J3 X scope cl (xs ++ ns) G.objs.size s2 H2 fp) rfl rfl rfl rfl k [] s3 _ Hk _ I3 (fpC fr3) st3 stop) fun r s4 zz=>?_
      obtain ⟨hr,I5⟩:=zz
      subst hr
      have J5:Inv X pins σ Hk s4:=I2.call' I5.os I5.base I5.hok I5.bare fun b hb=>⟨(f2 b hb).2.2.2.1,(f2 b hb).2.1,(f2 b hb).2.2.2.2.1,(f2 b hb).2.2.2.2.2⟩
      obtain ⟨mC,hnC,_⟩:=I5.loc
      have neL:G.objs.size ≠ X.env.locals:=Nat.ne_of_gt (Nat.lt_trans I2.lt (by rw [hC]; exact Nat.lt_succ_self _))
      have neCell:∀ z c,X.env.cells.lookup z = some c->c ≠ G.objs.size:=fun z c e q=>by
        obtain ⟨v',hcell⟩:=I2.cell z c e
        have:=hcell.lt
        rw [q,hC] at this
        exact absurd this (Nat.not_lt.mpr (Nat.le_succ _))
      exact fin G.objs.size s2.heap.objs.size mC s4 Hk J5 hnC I5.free neL neCell (Nat.le_trans I2.sz (by rw [hC]; exact Nat.le_succ _)) (fun p hp q=>by
        have:=Heap.lt_size (I2.pin p hp).1
        rw [q,hC] at this
        exact absurd this (Nat.not_lt.mpr (Nat.le_succ _))) qn
    · refine thn (T.item (J3 X scope cl (xs ++ ns) G.objs.size s2 H2 fp) rfl rfl rfl rfl k [] s3 _ Hk _ I3 (fpC fr3) st3 go) fun r s4 zz=>?_
      obtain ⟨u,hr,h4⟩:=zz
      subst hr
      refine thn h4 fun _ s5 zz=>?_
      obtain ⟨val,H5,I5,r5,y5,st5,fr5⟩:=zz
      have I5':=I5.pinned (fpC fr5) (T.obj _ _ st5)
      refine wpAny_mono (hg _ _ _ _ _ s5 _ H5 val u _ I5' r5 (step val H5 y5 os hol)) (fun _ s6 zz=>?_) fun _ _ z=>z.elim
      obtain ⟨σ6,H6,I6,⟨os6,hol6,hσ6⟩,q6⟩:=zz
      subst hσ6
      have back:∀ {H8:Hp} {s8:Shared} {m':Nat},Inv (J3 X scope cl (xs ++ ns) G.objs.size s2 H2 fp) ([] ++ jfk fp s5.heap) (os6 ++ inner σ fr) H8 s8->m' < n->W (k + 1) m' H8 ->
          ∃ m,m < n /\ ∃ k Hk σk,Inv (J3 X scope cl (xs ++ ns) G.objs.size s2 H2 fp) [] σk Hk s8 /\ (∃ os:St,os.length = xs.length /\ σk = os ++ inner σ fr) /\ tn k s8.heap /\ (∀ b ∈ fp,Hk b = none) /\ W k m Hk:=fun {H8 s8 m'} I8 hm w8=>by
        refine ⟨m',hm,k + 1,_,_,I8.jc7,⟨os6,hol6,rfl⟩,T.keep _ _ _ st5 fun b hb o e=>(I8.pin (b,o) (List.mem_append_right _ (List.mem_append_right _ (jax hb e)))).1,fun b hb=>?_,w8⟩
        obtain ⟨ob,e,d⟩:=T.obj _ _ st5 b hb
        exact (I8.pin (b,ob) (List.mem_append_right _ (List.mem_append_right _ (jax hb e)))).2.1
      refine wpAny_mono (hf _ _ _ _ _ s6 _ H6 _ I6 q6) (fun b s6' zz=>?_) fun _ _ z=>z.elim
      obtain ⟨H6',I6',q6'⟩:=zz
      cases b with
      | false =>
        rw [if_neg (by decide)] at q6' ⊢
        obtain ⟨m',hm,w7⟩:=q6'
        exact back I6' hm w7
      | true =>
        rw [if_pos rfl] at q6' ⊢
        refine wpAny_mono (he _ _ _ _ _ s6' _ H6' _ I6' q6') (fun yv s7 zz=>?_) fun _ _ z=>z.elim
        obtain ⟨yy,H7,I7,r7,zs,m',hz,hl,hm,w7⟩:=zz
        refine wpAny_mono (jgt (X:=J3 X scope cl (xs ++ ns) G.objs.size s2 H2 fp) _ s7 _ H7 (.ref s2.heap.objs.size) [yy] (.ref s2.heap.objs.size) [yv] (fun _ H8=>H8 = upd H7 s2.heap.objs.size (.lst (zs ++ [yy]))) I7 rfl (.cons r7 .nil) ⟨_,zs,yy,rfl,rfl,hz,hl,rfl⟩) (fun _ s8 zz=>?_) fun _ _ z=>z.elim
        obtain ⟨_,H8,I8,_,e8⟩:=zz
        subst e8
        exact back I8 hm w7
  exact codeAny_compStart_list loop (T.self _ 0 _ _ _ (T.keep _ _ _ st2 fun b _ o e=>old b o e) loop)
theorem Jj {X:Cx} {tg iter elt:Expr} {ifs:List Expr} {scope:Scope} {pos:Pos} {cl:List (Str × Addr)} {xs ns:List Str} {fr:List Nat} {wi:TI} {g:TG} {tt:TT} {te:TE}
    (hc:X.calm = true) (ok:jam X scope cl xs ns fr) (hI:PI X tg iter wi) (hg:∀ C s₂ H2 fp,PG (J3 X scope cl (xs ++ ns) C s₂ H2 fp) tg g) (hf:∀ C s₂ H2 fp,PF (J3 X scope cl (xs ++ ns) C s₂ H2 fp) ifs tt)
    (he:∀ C s₂ H2 fp,PE (J3 X scope cl (xs ++ ns) C s₂ H2 fp) elt te) (hs:∀ x,foldedSetIterable iter X.env x = pure x:=by intro _; rfl) :
    PE X (.ListComp elt [⟨tg,iter,ifs,0⟩] scope pos) (jfT wi xs.length fr g tt te):=by
  intro pins s σ H Q I h
  rw [eval_ListComp]
  refine jhx (use:=none) hc ok hI hg hf he hs I h fun C l m s4 Hk J5 hn hC neL neCell sz hp q=>?_
  exact ⟨m,hn,fun h' sb=>⟨.ref l,Hk,J5.turned (t':=s4.toks) (it:=C) (fun b o hb e=>sb.extBut b o hb e) hC neL (.inr sz) neCell hp,rfl,q⟩⟩
theorem jfn {X:Cx} {i:Nat} {y:Str} {py spos:Pos} {tg iter elt:Expr} {ifs:List Expr} {scope:Scope} {pos:Pos} {cl:List (Str × Addr)} {xs ns:List Str} {fr:List Nat} {wi:TI} {g:TG} {tt:TT} {te:TE}
    (hc:X.calm = true) (ok:jam X scope cl xs ns fr) (hN:X.N.Nodup) (hi:X.N[i]? = some y) (hy:Loc X.env.scope y) (hfn:X.fn y = true ∨ X.env.scope.names.lookup y = some .local)
    (hsw:swapsWith (.ListComp elt [⟨tg,iter,ifs,0⟩] scope pos) (some (.Name y py)) spos.line X.env = pure true)
    (hI:PI X tg iter wi) (hg:∀ C s₂ H2 fp,PG (J3 X scope cl (xs ++ ns) C s₂ H2 fp) tg g) (hf:∀ C s₂ H2 fp,PF (J3 X scope cl (xs ++ ns) C s₂ H2 fp) ifs tt)
    (he:∀ C s₂ H2 fp,PE (J3 X scope cl (xs ++ ns) C s₂ H2 fp) elt te) (hs:∀ x,foldedSetIterable iter X.env x = pure x:=by intro _; rfl) :
    PS X (.Assign [.Name y py] (.ListComp elt [⟨tg,iter,ifs,0⟩] scope pos) spos) (tAsg (jfT wi xs.length fr g tt te) (Ye i)):=by
  intro pins s σ H D I h
  rw [exec_Assign_Name_used _ _ _ _ hsw]
  refine wpAny_bind (wpAny_standAt (wpAny_bind ?_))
  show wpAny _ X.A (do let _ <- comprehension (.ListComp elt [⟨tg,iter,ifs,0⟩] scope pos) scope X.env _ (newList []) false (eval iter X.env) (some (assign (.Name y py) X.env))) _ _ s
  refine wpAny_bind (wpAny_mono (jhx (use:=some (assign (.Name y py) X.env)) (Qv:=fun _ s'=>SP X pins D .next s') hc ok hI hg hf he hs I h fun C l m s4 Hk J5 hn hC neL neCell sz hp q=>?_) (fun _ s' hq=>wpAny_pure (wpAny_pure hq)) fun _ _ e=>e)
  show wpAny _ X.A (assign (.Name y py) X.env (.ref l)) _ _ s4
  refine wpAny_assign_Name (jgI J5 hN hi hy (v:=.ref l) rfl (fun s5 I6 sb=>?_) hfn)
  obtain ⟨aa,hsb,haa⟩:=sb
  have aC:C ≠ aa:=by
    rcases haa with q | q
    · rw [q]; exact neL
    · exact fun z=>neCell _ _ q z.symm
  refine ⟨m,?_,fun h' sb'=>⟨_,_,I6.turned (t':=s5.toks) (it:=C) (fun b o hb e=>sb'.extBut b o hb e) hC neL (.inr sz) neCell hp,q⟩⟩
  obtain ⟨oC,es,ep,ho,r⟩:=hn
  exact ⟨oC,es,ep,hsb.extBut _ _ aC ho,r⟩
end L2
set_option Elab.async false
set_option linter.all false
set_option maxRecDepth 100000
namespace L2
open PySem PySem.Spec PyProof.Rows
section
variable {X:Cx}
theorem jc9:∀ {xs:List V} {us:List Value} {i:Nat} {u:Value},Vals xs us->us[i]? = some u->∃ x,xs[i]? = some x /\ RelV x u
  | [],_,_,_,.nil,e=>by simp at e
  | x :: xs,_,0,u,.cons r rr,e=>⟨x,rfl,by cases e; exact r⟩
  | x :: xs,_,i + 1,u,.cons r rr,e=>by
    obtain ⟨y,hy,ry⟩:=jc9 (xs:=xs) (i:=i) rr (by simpa using e)
    exact ⟨y,by simpa using hy,ry⟩
theorem jdX (ns:List Int):∀ k,k <= ns.length->preSum (fun i=>ns.getD i 0) k = (ns.take k).sum
  | 0,_=>rfl
  | k + 1,h=>by
    have ih:=jdX ns k (by omega)
    have hk:k < ns.length:=by omega
    show preSum (fun i=>ns.getD i 0) k + ns.getD k 0 = _
    rw [ih,List.take_succ,List.getElem?_eq_getElem hk,List.sum_append,List.getD_eq_getElem?_getD,List.getElem?_eq_getElem hk]
    show (ns.take k).sum + ns[k] = (ns.take k).sum + (ns[k] + 0)
    rw [Int.add_zero]
theorem jaw {ns:List Int} {its:List Value} {i:Nat} {v:Value} (r:Vals (ns.map V.int) its) (e:its.toArray[i]? = some v):∃ t,v = .int (ns.getD i 0) t:=by
  have e':its[i]? = some v:=by simpa using e
  obtain ⟨x,hx,rx⟩:=jc9 r e'
  rw [List.getElem?_map] at hx
  obtain ⟨n,hn,rfl⟩:=Option.map_eq_some_iff.mp hx
  obtain ⟨t,rfl⟩:=rx
  refine ⟨t,?_⟩
  rw [List.getD_eq_getElem?_getD,hn]; rfl
theorem jdi (hc:X.calm = true):yl X (.builtin "sum") (fun xs H Q=>∃ (p:Addr) (ns:List Int),xs = [.ref p] /\ SqL X.K H p (ns.map V.int) /\ Q (.int ns.sum) H):=by
  intro pins s σ H xs us Q I r h
  obtain ⟨p,ns,rfl,hq,q⟩:=h
  obtain ⟨u,rfl,rx⟩:=vals1 r
  cases rx
  obtain ⟨its,r',pl,hz⟩:=I.list hq
  have hl:=r'.length
  rw [List.length_map] at hl
  have hlt:p < s.heap.objs.size:=by obtain ⟨_,e,_⟩:=pl.isList; exact Heap.lt_size e
  refine call_sum_walkG (wpAny_pyIter_list pl.isList ?_)
  refine ⟨_,_,_,_,_,_,fun i=>ns.getD i 0,rfl,Walks.list (A:=X.A.in1) (I.ok.hd hc) _ p (Nat.ne_of_lt hlt) its.toArray,⟨⟨_,Heap.get?_push_size _ rfl,rfl,rfl⟩,pl.isList.push _⟩,?_,fun i v e=>jaw r' e,fun h' tk t' hk=>?_⟩
  · intro b hb
    show b < (s.heap.push _).objs.size
    rw [Heap.size_push]
    rcases List.mem_cons.mp hb with rfl | hb
    · exact Nat.lt_succ_self _
    · rw [List.mem_singleton.mp hb]; exact Nat.lt_succ_of_lt hlt
  · refine ⟨.int ns.sum,H,I.kept (old_kept hk),⟨t',?_⟩,q⟩
    rw [List.size_toArray,<- hl,jdX ns _ (Nat.le_refl _),List.take_length]
theorem jdg (hc:X.calm = true):yl X (.builtin "all") (fun xs H Q=>∃ (p:Addr) (bs:List Bool),xs = [.ref p] /\ SqL X.K H p (bs.map V.bl) /\ Q (.bl (bs.all id)) H):=by
  intro pins s σ H xs us Q I r h
  obtain ⟨p,bs,rfl,hq,q⟩:=h
  obtain ⟨u,rfl,rx⟩:=vals1 r
  cases rx
  obtain ⟨its,r',pl,hz⟩:=I.list hq
  have hl:=r'.length
  rw [List.length_map] at hl
  have hlt:p < s.heap.objs.size:=by obtain ⟨_,e,_⟩:=pl.isList; exact Heap.lt_size e
  refine call_all_walk (wpAny_pyIter_list pl.isList ?_)
  refine ⟨_,_,_,_,_,_,fun i=>bs.getD i true,rfl,Walks.list (A:=X.A.in1) (I.ok.hd hc) _ p (Nat.ne_of_lt hlt) its.toArray,⟨⟨_,Heap.get?_push_size _ rfl,rfl,rfl⟩,pl.isList.push _⟩,fun i v s Q E e hQ=>?_,fun h' tk hk=>?_⟩
  · have e':its[i]? = some v:=by simpa using e
    obtain ⟨x,hx,rx⟩:=jc9 r' e'
    rw [List.getElem?_map] at hx
    obtain ⟨n,hn,rfl⟩:=Option.map_eq_some_iff.mp hx
    have rx':v = .bool n:=rx
    subst rx'
    refine wpAny_truthy_bool ?_
    have hb:bs.getD i true = n:=by rw [List.getD_eq_getElem?_getD,hn]; rfl
    have hQ':Q (bs.getD i true) s:=hQ
    rw [hb] at hQ'
    exact hQ'
  · refine ⟨.bl (bs.all id),H,I.kept (old_kept hk),?_,q⟩
    have e:((List.range its.toArray.size).all fun i=>bs.getD i true) = bs.all id:=by
      rw [List.size_toArray,<- hl,Bool.eq_iff_iff,List.all_eq_true,List.all_eq_true]
      constructor
      · intro h x hx
        obtain ⟨i,hi,rfl⟩:=List.mem_iff_getElem.mp hx
        have:=h i (List.mem_range.mpr hi)
        rw [List.getD_eq_getElem?_getD,List.getElem?_eq_getElem hi] at this
        exact this
      · intro h i hi
        have hi':=List.mem_range.mp hi
        rw [List.getD_eq_getElem?_getD,List.getElem?_eq_getElem hi']
        exact h _ (List.getElem_mem hi')
    rw [e]; rfl
noncomputable def jeC (ns:List Int) (m:Int):Prop:=m ∈ ns /\ ∀ x ∈ ns,x <= m
theorem jeH (bt:Nat->Nat->Bool):∀ k,argBest bt k <= k
  | 0=>Nat.le_refl _
  | k + 1=>by
    unfold argBest
    split
    · exact Nat.le_refl _
    · exact Nat.le_succ_of_le (jeH bt k)
theorem jdT (val:Nat->Int):∀ k j,j <= k->val j <= val (argBest (fun i j=>decide (val i > val j)) k)
  | 0,j,h=>by
    have:j = 0:=by omega
    subst this; exact Int.le_refl _
  | k + 1,j,h=>by
    have ih:=jdT val k
    unfold argBest
    by_cases hj:j = k + 1
    · subst hj
      split
      · exact Int.le_refl _
      · rename_i hb
        have hb':¬ val (k + 1) > val (argBest (fun i j=>decide (val i > val j)) k):=by simpa using hb
        omega
    · have hjk:=ih j (by omega)
      split
      · rename_i hb
        have hb':val (k + 1) > val (argBest (fun i j=>decide (val i > val j)) k):=by simpa using hb
        omega
      · exact hjk
theorem jeK {ns:List Int} (h:0 < ns.length):jeC ns (ns.getD (argBest (fun i j=>decide (ns.getD i 0 > ns.getD j 0)) (ns.length - 1)) 0):=by
  have hle:=jeH (fun i j=>decide (ns.getD i 0 > ns.getD j 0)) (ns.length - 1)
  have hlt:argBest (fun i j=>decide (ns.getD i 0 > ns.getD j 0)) (ns.length - 1) < ns.length:=by omega
  refine ⟨?_,fun x hx=>?_⟩
  · rw [List.getD_eq_getElem?_getD,List.getElem?_eq_getElem hlt]
    exact List.getElem_mem hlt
  · obtain ⟨i,hi,rfl⟩:=List.mem_iff_getElem.mp hx
    have:=jdT (fun i=>ns.getD i 0) (ns.length - 1) i (by omega)
    have e:ns.getD i 0 = ns[i]:=by rw [List.getD_eq_getElem?_getD,List.getElem?_eq_getElem hi]; rfl
    rw [e] at this
    exact this
theorem jjt (hc:X.calm = true):yl X (.builtin "max") (fun xs H Q=>∃ (p:Addr) (ns:List Int),xs = [.ref p] /\ SqL X.K H p (ns.map V.int) /\ 0 < ns.length /\ ∀ m,jeC ns m->Q (.int m) H):=by
  intro pins s σ H xs us Q I r h
  obtain ⟨p,ns,rfl,hq,h0,q⟩:=h
  obtain ⟨u,rfl,rx⟩:=vals1 r
  cases rx
  obtain ⟨its,r',pl,hz⟩:=I.list hq
  have hl:=r'.length
  rw [List.length_map] at hl
  have hlt:p < s.heap.objs.size:=by obtain ⟨_,e,_⟩:=pl.isList; exact Heap.lt_size e
  refine call_max_walk (wpAny_pyIter_list pl.isList ?_)
  refine ⟨_,_,_,_,_,_,_,rfl,Walks.list (A:=X.A.in1) (I.ok.hd hc) _ p (Nat.ne_of_lt hlt) its.toArray,⟨⟨_,Heap.get?_push_size _ rfl,rfl,rfl⟩,pl.isList.push _⟩,?_,?_,CmpOf.ints_gt (fun i=>ns.getD i 0) (fun i v e=>jaw r' e),fun v h' tk hv hk=>?_⟩
  · intro b hb
    show b < (s.heap.push _).objs.size
    rw [Heap.size_push]
    rcases List.mem_cons.mp hb with rfl | hb
    · exact Nat.lt_succ_self _
    · rw [List.mem_singleton.mp hb]; exact Nat.lt_succ_of_lt hlt
  · rw [List.size_toArray,<- hl]; exact h0
  · obtain ⟨t,rfl⟩:=jaw r' hv
    refine ⟨.int _,H,I.kept (old_kept hk),⟨t,rfl⟩,q _ ?_⟩
    rw [List.size_toArray,<- hl]
    exact jeK h0
theorem mt_bits:MtR X "int.bit_length" (fun x xs H Q=>∃ i,x = .int i /\ xs = [] /\ Q (.int (Builtin.Int.intBits i)) H):=by
  intro pins s σ H x xs v us Q I rx r h
  obtain ⟨i,rfl,rfl,q⟩:=h
  obtain ⟨t,rfl⟩:=rx
  cases r
  exact call_int_bit_length ⟨.int (Builtin.Int.intBits i),H,I.tok _,⟨_,rfl⟩,q⟩
noncomputable def tBits (to:TE):TE:=fun σ H Q=>to σ H fun x H1=>∃ i,x = .int i /\ Q (.int (Builtin.Int.intBits i)) H1
theorem jg8 {o:Expr} {to:TE} {apos cpos:Pos} (ho:PE X o to) (hbase:attributeBase o "bit_length" X.env (eval o X.env) = eval o X.env:=by rfl) (hline:(apos.endLine == cpos.line) = true:=by rfl) :
    PE X (.Call (.Attribute o "bit_length" apos) [] [] cpos) (tBits to):=by
  intro pins s σ H Q I h
  refine wpAny_Call_method0_late hbase hline (thn (ho pins s σ H _ I h) fun v s1 zz=>?_)
  obtain ⟨x,H1,I1,r1,i,e,q1⟩:=zz
  subst e
  obtain ⟨h1,h2⟩:=tyV_is I1 r1 (show tyV X.K "int" (.int i) H1 from rfl)
  exact ⟨"int", "int.bit_length",PySem.F.plainAttrs_int,PySem.F.slot_int_bit_length,PySem.F.type_int_bit_length,h1,h2,Calls.callWith_builtin rfl (PySem.evalArgs_none (mt_bits pins s1 σ H1 (.int i) [] v [] Q I1 r1 .nil ⟨i,rfl,rfl,q1⟩))⟩
end
structure QC (X:Cx) (ifs:List Expr) (t:TT):Prop where h:PF X ifs t
structure QGs (X:Cx) (ts:List Expr) (t:TGs):Prop where h:PGs X ts t
namespace R
section
variable {X:Cx} {e o:Expr} {te to:TE} {pos:Pos}
theorem JK:QC X [] fNil:=⟨L2.JK⟩
theorem jha {c:Expr} {t:TT} (h:QT X c t):QC X [c] t:=⟨L2.jha h.h⟩
theorem jg8 {apos cpos:Pos} (ho:QE X o to) (hbase:attributeBase o "bit_length" X.env (eval o X.env) = eval o X.env:=by rfl) (hline:(apos.endLine == cpos.line) = true:=by rfl) :
    QE X (.Call (.Attribute o "bit_length" apos) [] [] cpos) (tBits to):=⟨L2.jg8 ho.h hbase hline⟩
theorem ixL (K:PySem.W.Frag) (h:X.K = K:=by rfl):IxR X (rIxL K):=by subst h; exact ix_list
theorem ixT (K:PySem.W.Frag) (h:X.K = K:=by rfl):IxR X (rIxT K):=by subst h; exact Jq
theorem Yg:QGs X [] gNil:=⟨L2.Yg⟩
theorem JL {es:List Expr} {t:TG} {u:TGs} (h1:QG X e t) (h2:QGs X es u) (hs:(assignEach (e :: es) X.env).map (·.2) = assign e X.env :: (assignEach es X.env).map (·.2):=by rfl):QGs X (e :: es) (jgl t u):=⟨L2.JL h1.h h2.h hs⟩
theorem Zh {es:List Expr} {k:Nat} {t:TGs} (K:PySem.W.Frag) (n:Nat) (hc:X.calm = true) (h:QGs X es t) (hK:X.K = K:=by rfl) (hn:(assignEach es X.env).length = n:=by rfl) (hst:(assignEach es X.env).findIdx? (·.1) = none:=by rfl):QG X (.Tuple es k pos) (gTup K n t):=by
  subst hK; exact ⟨L2.Zh hc h.h hn hst⟩
theorem jhd {tg:Expr} {g:TG} (he:QE X e te) (hg:QG X tg g) (hs:swapsWithSole [tg] e pos.line X.env = pure false:=by rfl) (hw:swappedStores [tg] e X.env = pure none:=by rfl)
    (h1:(assignEach [tg] X.env).map (·.2) = [assign tg X.env]:=by rfl):QS X (.Assign [tg] e pos) (tAsg te g):=⟨L2.jhd he.h hg.h hs hw h1⟩
theorem Jj {tg iter elt:Expr} {ifs:List Expr} {scope:Scope} {wi:TI} {g:TG} {tt:TT} (sc:Scope) (N xs ns:List Str) (fr:List Nat)
    (hc:X.calm = true) (hsc:X.env.scope = sc) (hN:X.N = N) (hcl:∃ n,X.env.cells = cellsFrom n X.env.scope.names []) (hk:X.env.scope.kind = .function) (kind:scope.kind = .function) (hB:compB sc.names scope.names N ns fr = true)
    (hI:QI X tg iter wi) (hg:∀ C s₂ H2 fp,QG (J3 X scope (clOf X.env.cells scope.names []) (xs ++ ns) C s₂ H2 fp) tg g) (hf:∀ C s₂ H2 fp,QC (J3 X scope (clOf X.env.cells scope.names []) (xs ++ ns) C s₂ H2 fp) ifs tt)
    (he:∀ C s₂ H2 fp,QE (J3 X scope (clOf X.env.cells scope.names []) (xs ++ ns) C s₂ H2 fp) elt te) (hs:∀ x,foldedSetIterable iter X.env x = pure x:=by intro _; rfl) :
    QE X (.ListComp elt [⟨tg,iter,ifs,0⟩] scope pos) (jfT wi xs.length fr g tt te) :=
  ⟨L2.Jj hc (jam.of hsc hN hcl hk kind hB) hI.h (fun C s H f=>(hg C s H f).h) (fun C s H f=>(hf C s H f).h) (fun C s H f=>(he C s H f).h) hs⟩
theorem jfn {i:Nat} {y:Str} {py spos:Pos} {tg iter elt:Expr} {ifs:List Expr} {scope:Scope} {wi:TI} {g:TG} {tt:TT} (sc:Scope) (N xs ns:List Str) (fr:List Nat) (hnd:X.N.Nodup) (hi:X.N[i]? = some y) (hy:Loc X.env.scope y) (hfn:X.fn y = true)
    (hsw:swapsWith (.ListComp elt [⟨tg,iter,ifs,0⟩] scope pos) (some (.Name y py)) spos.line X.env = pure true)
    (hc:X.calm = true) (hsc:X.env.scope = sc) (hN:X.N = N) (hcl:∃ n,X.env.cells = cellsFrom n X.env.scope.names []) (hk:X.env.scope.kind = .function) (kind:scope.kind = .function) (hB:compB sc.names scope.names N ns fr = true)
    (hI:QI X tg iter wi) (hg:∀ C s₂ H2 fp,QG (J3 X scope (clOf X.env.cells scope.names []) (xs ++ ns) C s₂ H2 fp) tg g) (hf:∀ C s₂ H2 fp,QC (J3 X scope (clOf X.env.cells scope.names []) (xs ++ ns) C s₂ H2 fp) ifs tt)
    (he:∀ C s₂ H2 fp,QE (J3 X scope (clOf X.env.cells scope.names []) (xs ++ ns) C s₂ H2 fp) elt te) (hs:∀ x,foldedSetIterable iter X.env x = pure x:=by intro _; rfl) :
    QS X (.Assign [.Name y py] (.ListComp elt [⟨tg,iter,ifs,0⟩] scope pos) spos) (tAsg (jfT wi xs.length fr g tt te) (Ye i)) :=
  ⟨L2.jfn hc (jam.of hsc hN hcl hk kind hB) hnd hi hy (.inl hfn) hsw hI.h (fun C s H f=>(hg C s H f).h) (fun C s H f=>(hf C s H f).h) (fun C s H f=>(he C s H f).h) hs⟩
end
end R
section
variable {K:PySem.W.Frag} {fr:List Nat} {tt:TT} {te:TE} {σ:St} {Q:VK} {H1:Hp} {l:Addr}
noncomputable def Turn1 (fr:List Nat) (tt:TT) (te:TE) (σ:St) (l:Addr) (v:V) (H:Hp) (N:Hp->Prop):Prop :=
  ∀ (K1:V->Hp->Prop) (K0:Hp->Prop),(∀ y H4 zs,H4 l = some (.lst zs)->zs.length < sizeLine->N (upd H4 l (.lst (zs ++ [y])))->K1 y H4)->(∀ H3,N H3->K0 H3) ->
    tt (some v :: inner σ fr) H fun b H3=>if b = true then te (some v :: inner σ fr) H3 K1 else K0 H3
theorem jeP {J:It} (n:Nat) (Pv:Nat->Hp->Prop) (h0:Pv 0 (upd H1 l (.lst []))) (hgo:∀ k H,k < n->Pv k H->J.go k H) (hstop:∀ H,Pv n H->J.stop n H)
    (hs:∀ k H v H',k < n->Pv k H->J.yld k H v H'->Turn1 fr tt te σ l v H' (Pv (k + 1))) (hd:∀ H,Pv n H->Q (.ref l) H):yV J 1 (Ye 0) fr tt te σ Q H1 l:=by
  refine ⟨fun k m H=>m = n - k /\ k <= n /\ Pv k H,⟨n,by simp,Nat.zero_le _,h0⟩,?_⟩
  rintro k m H ⟨rfl,hk,p⟩
  by_cases hlt:k < n
  · refine .inr ⟨hgo k H hlt p,fun v H' hy os ho=>?_⟩
    obtain ⟨o,rfl⟩:=List.length_eq_one_iff.mp ho
    exact ⟨⟨[some v],rfl,rfl⟩,hs k H v H' hlt p hy _ _ (fun y H4 zs h1 h2 h3=>⟨zs,n - (k + 1),h1,h2,by omega,rfl,hlt,h3⟩) fun H3 h3=>⟨n - (k + 1),by omega,rfl,hlt,h3⟩⟩
  · have e:k = n:=by omega
    subst e
    exact .inl ⟨hstop H p,hd H p⟩
theorem jju {lo:Int} {n:Nat} (Pv:Nat->Hp->Prop) (h0:Pv 0 (upd H1 l (.lst [])))
    (hs:∀ k H,k < n->Pv k H->Turn1 fr tt te σ l (.int (lo + k)) H (Pv (k + 1))) (hd:∀ H,Pv n H->Q (.ref l) H):yV (Itr lo n) 1 (Ye 0) fr tt te σ Q H1 l :=
  jeP n Pv h0 (fun _ _ h _=>h) (fun _ _=>Nat.le_refl _) (fun k H v H' hk p hy=>by obtain ⟨rfl,rfl⟩:=hy; exact hs k _ hk p) hd
theorem qQ {a:Addr} {xs:List V} (Pv:Nat->Hp->Prop) (h0:Pv 0 (upd H1 l (.lst []))) (hl:∀ k H,k <= xs.length->Pv k H->SqL K H a xs)
    (hs:∀ k x H,xs[k]? = some x->Pv k H->Turn1 fr tt te σ l x H (Pv (k + 1))) (hd:∀ H,Pv xs.length H->Q (.ref l) H):yV (Itl K a) 1 (Ye 0) fr tt te σ Q H1 l :=
  jeP xs.length Pv h0 (fun k H h p=>⟨xs,xs[k],hl k H (Nat.le_of_lt h) p,by simp [h]⟩) (fun H p=>⟨xs,hl _ H (Nat.le_refl _) p,Nat.le_refl _⟩)
    (fun k H v H' hk p hy=>by obtain ⟨rfl,y⟩:=hy; exact hs k v _ (y xs (hl k _ (Nat.le_of_lt hk) p)) p) hd
noncomputable def Turn2 (fr:List Nat) (tt:TT) (te:TE) (σ:St) (l:Addr) (v u:V) (H:Hp) (N:Hp->Prop):Prop :=
  ∀ (K1:V->Hp->Prop) (K0:Hp->Prop),(∀ y H4 zs,H4 l = some (.lst zs)->zs.length < sizeLine->N (upd H4 l (.lst (zs ++ [y])))->K1 y H4)->(∀ H3,N H3->K0 H3) ->
    tt (some v :: some u :: inner σ fr) H fun b H3=>if b = true then te (some v :: some u :: inner σ fr) H3 K1 else K0 H3
theorem comp_by2 {J:It} (n:Nat) (Pv:Nat->Hp->Prop) (h0:Pv 0 (upd H1 l (.lst []))) (hgo:∀ k H,k < n->Pv k H->J.go k H) (hstop:∀ H,Pv n H->J.stop n H)
    (hs:∀ k H v H',k < n->Pv k H->J.yld k H v H'->∃ p x y,v = .ref p /\ SqT K H' p [x,y] /\ Turn2 fr tt te σ l x y H' (Pv (k + 1))) (hd:∀ H,Pv n H->Q (.ref l) H):yV J 2 (gTup K 2 (jgl (Ye 0) (jgl (Ye 1) gNil))) fr tt te σ Q H1 l:=by
  refine ⟨fun k m H=>m = n - k /\ k <= n /\ Pv k H,⟨n,by simp,Nat.zero_le _,h0⟩,?_⟩
  rintro k m H ⟨rfl,hk,p⟩
  by_cases hlt:k < n
  · refine .inr ⟨hgo k H hlt p,fun v H' hy os ho=>?_⟩
    obtain ⟨o,o',rfl⟩:∃ a b,os = [a,b]:=by
      cases os with
      | nil=>cases ho
      | cons a t =>
        obtain ⟨b,rfl⟩:=List.length_eq_one_iff.mp (Nat.succ.inj ho)
        exact ⟨a,b,rfl⟩
    obtain ⟨p',x,y,rfl,hq,ht⟩:=hs k H v H' hlt p hy
    exact ⟨p',[x,y],rfl,hq,rfl,x,[y],rfl,y,[],rfl,rfl,⟨[some x,some y],rfl,rfl⟩,ht _ _ (fun y H4 zs h1 h2 h3=>⟨zs,n - (k + 1),h1,h2,by omega,rfl,hlt,h3⟩) fun H3 h3=>⟨n - (k + 1),by omega,rfl,hlt,h3⟩⟩
  · have e:k = n:=by omega
    subst e
    exact .inl ⟨hstop H p,hd H p⟩
end
end L2
set_option Elab.async false
set_option linter.all false
set_option maxRecDepth 100000
namespace L2
open PySem PySem.Spec PyProof.Rows
theorem Same.upd {H H':Hp} {l:Addr} (s:Same H H') (h:H l = none) (o:HO):Same H (upd H' l o):=fun b u q=>by rw [jM (jU q h)]; exact s b u q
theorem and_nat (a b:Nat):Builtin.bitAnd (a:Int) b = ((a &&& b:Nat):Int):=by
  unfold Builtin.bitAnd
  rw [show decide ((0:Int) <= (a:Int)) = true from by simp,show decide ((0:Int) <= (b:Int)) = true from by simp]
  show (((a:Int).toNat &&& (b:Int).toNat:Nat):Int) = _
  rw [Int.toNat_natCast,Int.toNat_natCast]
theorem or_nat (a b:Nat):Builtin.bitOr (a:Int) b = ((a ||| b:Nat):Int):=by
  unfold Builtin.bitOr Builtin.bitAnd
  have h1:decide ((0:Int) <= Builtin.bitNot (a:Int)) = false:=by unfold Builtin.bitNot; simp; omega
  have h2:decide ((0:Int) <= Builtin.bitNot (b:Int)) = false:=by unfold Builtin.bitNot; simp; omega
  rw [h1,h2]
  show Builtin.bitNot (Builtin.bitNot (((Builtin.bitNot (Builtin.bitNot (a:Int))).toNat ||| (Builtin.bitNot (Builtin.bitNot (b:Int))).toNat:Nat):Int)) = _
  have e:∀ x:Int,Builtin.bitNot (Builtin.bitNot x) = x:=fun x=>by unfold Builtin.bitNot; omega
  rw [e,e,e,Int.toNat_natCast,Int.toNat_natCast]
theorem shl_nat (k:Nat):(1:Int) * 2 ^ (k:Int).toNat = ((2 ^ k:Nat):Int):=by
  rw [Int.toNat_natCast,Int.one_mul,Int.natCast_pow]; rfl
theorem jhu (b:Nat):Builtin.Int.intBits (b:Int) = if b = 0 then 0 else b.log2 + 1:=by
  unfold Builtin.Int.intBits
  by_cases h:b = 0
  · subst h; rfl
  · rw [if_neg h,if_neg (by simpa using h),Int.natAbs_natCast]
theorem bits64 {b:Nat} (h:b < 64):Builtin.Int.intBits (b:Int) <= 6:=by
  rw [jhu]
  split
  · omega
  · rename_i h0
    have:=(Nat.log2_lt h0 (k:=6)).mpr h
    omega
noncomputable def things (b:Nat):List Nat:=(List.range 6).filter b.testBit
theorem jh9:∀ b < 64,(List.range (if b = 0 then 0 else b.log2 + 1)).filter (fun k=>decide (b &&& 2 ^ k = 2 ^ k)) = things b:=by decide +kernel
theorem jiU {b k:Nat}:k ∈ things b ↔ k < 6 /\ b.testBit k = true:=by
  unfold things
  rw [List.mem_filter,List.mem_range]
theorem YX (b:Nat):(things b).length <= 6:=by
  have:=List.length_filter_le (b.testBit) (List.range 6)
  rw [List.length_range] at this
  exact this
theorem jav {a b:Nat}:decide (V.int (a:Int) = V.int (b:Int)) = decide (a = b):=by
  by_cases h:a = b
  · subst h; simp
  · rw [decide_eq_false h,decide_eq_false]
    intro z
    exact h (Int.ofNat.inj (V.int.inj z))
section
variable {K:PySem.W.Frag} {fr:List Nat} {tt:TT} {te:TE} {σ:St} {Q:VK} {H1:Hp} {l:Addr}
theorem JD {lo:Int} {n:Nat} (p:Nat->Bool) (f:Nat->V) (hn:n <= 100) (hl:H1 l = none)
    (ht:∀ k H,k < n->Same H1 H->∀ C,(∀ H',Same H H'->C (p k) H')->tt (some (.int (lo + k)) :: inner σ fr) H C)
    (he:∀ k H,k < n->p k = true->Same H1 H->∀ C,(∀ H',Same H H'->C (f k) H')->te (some (.int (lo + k)) :: inner σ fr) H C)
    (hd:∀ H,Same H1 H->H l = some (.lst (((List.range n).filter p).map f))->Q (.ref l) H):yV (Itr lo n) 1 (Ye 0) fr tt te σ Q H1 l:=by
  refine jju (fun k H=>Same H1 H /\ H l = some (.lst (((List.range k).filter p).map f))) ⟨jA hl _,jm⟩ ?_ fun H ⟨s,e⟩=>hd H s e
  rintro k H hk ⟨s,e⟩ K1 K0 h1 h0
  refine ht k H hk s _ fun H' s'=>?_
  have e':(List.range (k + 1)).filter p = (List.range k).filter p ++ (if p k = true then [k] else []):=by
    rw [List.range_succ,List.filter_append]
    cases hp:p k <;> simp [hp]
  cases hp:p k with
  | false =>
    rw [if_neg (by decide)]
    refine h0 _ ⟨s.trans s',?_⟩
    rw [e',hp,if_neg (by decide),List.append_nil]
    exact s' _ _ e
  | true =>
    rw [if_pos rfl]
    refine he k H' hk hp (s.trans s') _ fun H'' s''=>?_
    refine h1 _ _ _ (s'' _ _ (s' _ _ e)) ?_ ⟨((s.trans s').trans s'').upd hl _,?_⟩
    · rw [List.length_map]
      have:=List.length_filter_le p (List.range k)
      rw [List.length_range] at this
      exact Je (by omega)
    · rw [jm,e',hp,if_pos rfl,List.map_append]; rfl
theorem zG {α:Type} {a:Addr} (emb:α->V) (xs:List α) (p:α->Bool) (f:α->V) (hS:SqL K H1 a (xs.map emb)) (hn:xs.length <= 100) (hl:H1 l = none)
    (ht:∀ x ∈ xs,∀ H,Same H1 H->∀ C,(∀ H',Same H H'->C (p x) H')->tt (some (emb x) :: inner σ fr) H C)
    (he:∀ x ∈ xs,p x = true->∀ H,Same H1 H->∀ C,(∀ H',Same H H'->C (f x) H')->te (some (emb x) :: inner σ fr) H C)
    (hd:∀ H,Same H1 H->H l = some (.lst ((xs.filter p).map f))->Q (.ref l) H):yV (Itl K a) 1 (Ye 0) fr tt te σ Q H1 l:=by
  refine qQ (xs:=xs.map emb) (fun k H=>Same H1 H /\ H l = some (.lst (((xs.take k).filter p).map f))) ⟨jA hl _,jm⟩ (fun k H _ ⟨s,_⟩=>s.seq hS) ?_ fun H ⟨s,e⟩=>hd H s (by rw [List.length_map,List.take_length] at e; exact e)
  rintro k v H hv ⟨s,e⟩ K1 K0 h1 h0
  rw [List.getElem?_map] at hv
  obtain ⟨x,hx,rfl⟩:=Option.map_eq_some_iff.mp hv
  have hm:x ∈ xs:=List.mem_of_getElem? hx
  refine ht x hm H s _ fun H' s'=>?_
  have e':(xs.take (k + 1)).filter p = (xs.take k).filter p ++ (if p x = true then [x] else []):=by
    rw [List.take_succ,hx,List.filter_append]
    cases hp:p x <;> simp [hp]
  cases hp:p x with
  | false =>
    rw [if_neg (by decide)]
    refine h0 _ ⟨s.trans s',?_⟩
    rw [e',hp,if_neg (by decide),List.append_nil]
    exact s' _ _ e
  | true =>
    rw [if_pos rfl]
    refine he x hm hp H' (s.trans s') _ fun H'' s''=>?_
    refine h1 _ _ _ (s'' _ _ (s' _ _ e)) ?_ ⟨((s.trans s').trans s'').upd hl _,?_⟩
    · rw [List.length_map]
      have h1:=List.length_filter_le p (xs.take k)
      have h2:=List.length_take_le' k xs
      exact Je (by omega)
    · rw [jm,e',hp,if_pos rfl,List.map_append]; rfl
end
theorem jdf {α:Type} {xs:List α} {k:Nat} {x:α} (h:xs[k]? = some x):atI xs (k:Int) = some x:=jen h
end L2
namespace L2
open PySem PySem.Spec PyProof.Rows
noncomputable def rEqI (K:PySem.W.Frag) (neg:Bool):R2:=fun x y H Q=>∃ (a b:Addr) (ns ms:List Int),x = .ref a /\ y = .ref b /\ SqL K H a (ns.map V.int) /\ SqL K H b (ms.map V.int) /\ Q (.bl (if neg then !decide (ns = ms) else decide (ns = ms))) H
theorem ints_all {ns ms:List Int} (h:ns.length = ms.length):((List.range ns.length).all fun j=>ns.getD j 0 == ms.getD j 0) = decide (ns = ms):=by
  rw [Bool.eq_iff_iff,List.all_eq_true,decide_eq_true_iff]
  constructor
  · intro q
    refine List.ext_getElem? fun i=>?_
    by_cases hi:i < ns.length
    · have:=q i (List.mem_range.mpr hi)
      have e:ns.getD i 0 = ms.getD i 0:=by simpa using this
      rw [List.getD_eq_getElem?_getD,List.getD_eq_getElem?_getD,List.getElem?_eq_getElem hi,List.getElem?_eq_getElem (by rw [<- h]; exact hi)] at e
      rw [List.getElem?_eq_getElem hi,List.getElem?_eq_getElem (by rw [<- h]; exact hi)]
      exact congrArg some e
    · rw [List.getElem?_eq_none (by omega),List.getElem?_eq_none (by omega)]
  · intro e j _
    rw [e]; simp
theorem jjz {A:Around} {s:Shared} {ns ms:List Int} {us vs:List Value} (r1:Vals (ns.map V.int) us) (r2:Vals (ms.map V.int) vs) (j:Nat) (h1:j < us.toArray.size) (h2:j < vs.toArray.size):SeqAt.EqAt A s us.toArray[j] vs.toArray[j] (ns.getD j 0 == ms.getD j 0):=by
  obtain ⟨t,e1⟩:=jaw r1 (Array.getElem?_eq_getElem h1)
  obtain ⟨t',e2⟩:=jaw r2 (Array.getElem?_eq_getElem h2)
  rw [e1,e2]
  exact SeqAt.EqAt.int_int _ _ _ _
theorem op_eqI {X:Cx} (hu:X.A.units < cLine):OpR X (compareOp .Eq) (rEqI X.K false):=by
  intro pins s σ H x y v u Q I rx ry h
  obtain ⟨a,b,ns,ms,rfl,rfl,ha,hb,q⟩:=h
  cases rx; cases ry
  obtain ⟨its,r1,p1,_⟩:=I.list ha
  obtain ⟨its2,r2,p2,_⟩:=I.list hb
  have l1:=r1.length
  have l2:=r2.length
  rw [List.length_map] at l1 l2
  by_cases hl:ns.length = ms.length
  · refine SeqAt.eq_listAt p1.isList p2.isList (by rw [List.size_toArray,List.size_toArray]; omega) hu (fun j h1 h2=>jjz r1 r2 j h1 h2) ?_
    refine ⟨_,H,I,?_,q⟩
    show Value.bool _ = Value.bool (decide (ns = ms))
    rw [List.size_toArray,<- l1,ints_all hl]
  · refine SeqAt.eq_list_lengthsAt p1.isList p2.isList (by rw [List.size_toArray,List.size_toArray]; simp; omega) hu ?_
    refine ⟨_,H,I,?_,q⟩
    show Value.bool false = Value.bool (decide (ns = ms))
    rw [decide_eq_false fun e=>hl (by rw [e])]
end L2
namespace L2
open PySem PySem.Spec PyProof.Rows
section
variable {X:Cx}
theorem jbP:OpR X (binaryOp .BitAnd) (fun x y H Q=>∃ a b:Nat,x = .int a /\ y = .int b /\ Q (.int ((a &&& b:Nat):Int)) H):=by
  intro pins s σ H x y v u Q I rx ry ⟨a,b,e1,e2,q⟩
  exact op_and pins s σ H x y v u Q I rx ry ⟨_,_,e1,e2,by show Q (.int (Builtin.bitAnd a b)) H; rw [and_nat]; exact q⟩
theorem jdx:OpR X (binaryOp .BitOr) (fun x y H Q=>∃ a b:Nat,x = .int a /\ y = .int b /\ Q (.int ((a ||| b:Nat):Int)) H):=by
  intro pins s σ H x y v u Q I rx ry ⟨a,b,e1,e2,q⟩
  exact op_or pins s σ H x y v u Q I rx ry ⟨_,_,e1,e2,by show Q (.int (Builtin.bitOr a b)) H; rw [or_nat]; exact q⟩
theorem yx:OpR X (binaryOp .LShift) (fun x y H Q=>∃ k:Nat,x = .int 1 /\ y = .int k /\ k <= 1000 /\ Q (.int ((2 ^ k:Nat):Int)) H):=by
  intro pins s σ H x y v u Q I rx ry ⟨k,e1,e2,hk,q⟩
  exact op_shl pins s σ H x y v u Q I rx ry ⟨1,k,e1,e2,⟨by omega,by omega,by decide⟩,by show Q (.int ((1:Int) * 2 ^ (k:Int).toNat)) H; rw [shl_nat]; exact q⟩
theorem op_shrN:OpR X (binaryOp .RShift) (fun x y H Q=>∃ a k:Nat,x = .int a /\ y = .int k /\ Q (.int ((a / 2 ^ k:Nat):Int)) H):=by
  intro pins s σ H x y v u Q I rx ry ⟨a,k,e1,e2,q⟩
  refine op_shr pins s σ H x y v u Q I rx ry ⟨a,k,e1,e2,by show (0:Int) <= (k:Int); omega,?_⟩
  show Q (.int ((a:Int) / 2 ^ (k:Int).toNat)) H
  rw [Int.toNat_natCast]
  have e:((a / 2 ^ k:Nat):Int) = (a:Int) / 2 ^ k:=by rw [Int.natCast_ediv,Int.natCast_pow]; rfl
  rw [<- e]; exact q
end
end L2
namespace L2
open PySem PySem.Spec PyProof.Rows
theorem opE {X:Cx} {f:Value->Value->Sem Value} {C:Int->Int->Prop} {g:Int->Int->V} (h:OpR X f (rI C g)):OpR X f (fun x y H Q=>∃ i j r,x = .int i /\ y = .int j /\ C i j /\ g i j = r /\ Q r H):=by
  intro pins s σ H x y v u Q I rx ry ⟨i,j,r,e1,e2,hc,e3,q⟩
  subst e3
  exact h pins s σ H x y v u Q I rx ry ⟨i,j,e1,e2,hc,q⟩
theorem opE0 {X:Cx} {f:Value->Value->Sem Value} {g:Int->Int->V} (h:OpR X f (rI0 g)):OpR X f (fun x y H Q=>∃ i j r,x = .int i /\ y = .int j /\ g i j = r /\ Q r H):=by
  intro pins s σ H x y v u Q I rx ry ⟨i,j,r,e1,e2,e3,q⟩
  subst e3
  exact h pins s σ H x y v u Q I rx ry ⟨i,j,e1,e2,q⟩
end L2
set_option Elab.async false
set_option linter.all false
set_option maxRecDepth 100000
namespace L2
open PySem PySem.Spec PyProof.Rows
section
variable {X:Cx} {pins:List (Addr × Obj)} {σ:St} {H:Hp} {s:Shared} {h':Heap}
theorem Inv.zP {t':Nat} {ch:List Addr} (I:Inv X pins σ H s) (k:∀ b o,b ∉ ch->s.heap.get? b = some o->h'.get? b = some o) (hf:∀ b ∈ ch,FpOk X pins H b):Inv X pins σ H { s with heap:=h',toks:=t' }:=by
  have nit:∀ b u,H b = some u->b ∉ ch:=fun b u e z=>by have:=(hf b z).1; rw [e] at this; cases this
  refine I.step (g':=s.gens) (d':=s.drawn) (ch:=ch) (fun b hb=>?_) (fun b o _ _ hc e _=>k b o hc e) (fun b o _ _ hc e _=>⟨o.slots,k b o hc e⟩) (fun _ _ _ _ n=>n)
    (fun b o hc e=>⟨o,k b o hc e⟩) (fun _ _ e=>e) (fun _ _ _ e=>e) (fun b ps e=>⟨#[],by rw [e]; simp⟩) (fun m hm=>?_) (fun b u e=>?_) I.bare
  · obtain ⟨f0,f1,f2,f3,f4,f5⟩:=hf b hb
    exact ⟨f3,f1,f4,f5⟩
  · obtain ⟨o,es,ep,ho,r⟩:=hm
    exact ⟨o,es,ep,k _ o (fun z=>(hf _ z).2.1 rfl) ho,r⟩
  · refine (I.hok b u e).stay (fun c v hc q=>k c v ?_ q) (fun _ q=>q) fun _ _ q=>q
    rcases hc with z | z
    · rw [z]; exact nit b u e
    · exact nit c _ z
end
noncomputable def Itz (K:PySem.W.Frag) (a b:Addr):It :=
  ⟨fun i H=>∃ xs x ys y,SqL K H a xs /\ xs[i]? = some x /\ SqL K H b ys /\ ys[i]? = some y,
   fun i H v H'=>∃ p x y,v = .ref p /\ H p = none /\ H' = upd H p (.tup [x,y]) /\ (∀ xs,SqL K H a xs->xs[i]? = some x) /\ (∀ ys,SqL K H b ys->ys[i]? = some y),
   fun i H=>∃ xs ys,SqL K H a xs /\ SqL K H b ys /\ (xs.length <= i ∨ ys.length <= i)⟩
theorem turn_zip {P:Program} {w:World} {K:PySem.W.Frag} {es:List Expr} {kk:Nat} {pos:Pos} (a b z TI TO i1 i2:Addr) (D:ZipApart z TI TO i1 i2 a b) :
    Turn P w K (.Tuple es kk pos) (Itz K a b) [z,TI,TO,i1,i2] z (fun i h=>IsZip h z TI TO .none /\ IsPair h TI (.ref i1) (.ref i2) /\ (∃ u v,IsPair h TO u v) /\ h.IsListIter i1 a i /\ h.IsListIter i2 b i) where
  mem:=by simp
  obj:=fun i h st c hc=>by
    obtain ⟨hz,hTI,⟨u,v,hTO⟩,⟨o1,e1,c1,d1⟩,⟨o2,e2,c2,d2⟩⟩:=st
    simp only [List.mem_cons,List.not_mem_nil,or_false] at hc
    rcases hc with rfl | rfl | rfl | rfl | rfl
    · exact ⟨_,hz,fun v x=>by cases x⟩
    · exact ⟨_,hTI,fun v x=>by cases x⟩
    · exact ⟨_,hTO,fun v x=>by cases x⟩
    · exact ⟨_,e1,fun v x=>by rw [d1] at x; cases x⟩
    · exact ⟨_,e2,fun v x=>by rw [d2] at x; cases x⟩
  keep:=fun i h h' st k=>by
    obtain ⟨hz,hTI,⟨u,v,hTO⟩,h1,h2⟩:=st
    exact ⟨k z (by simp) _ hz,k TI (by simp) _ hTI,⟨u,v,k TO (by simp) _ hTO⟩,h1.at fun o e=>k i1 (by simp) o e,h2.at fun o e=>k i2 (by simp) o e⟩
  item:=by
    intro X hP hw hK hc i pins s σ H E I hf st hg
    subst hP hw hK
    obtain ⟨hz,hTI,⟨u,v,hTO⟩,h1,h2⟩:=st
    obtain ⟨xs,x,ys,y,hq1,hx,hq2,hy⟩:=hg
    obtain ⟨its,rv,p,hz1⟩:=I.list hq1
    obtain ⟨its2,rv2,p2,hz2⟩:=I.list hq2
    obtain ⟨ux,hux,rux⟩:=rv.get hx
    obtain ⟨uy,huy,ruy⟩:=rv2.get hy
    refine wpAny_pyNext_zip_item D hz hTI hTO h1 h2 p.isList p2.isList (x:=ux) (y:=uy) (by simpa using hux) (by simpa using huy) fun h' a1 a2 a3 a4 a5 a6 hk=>?_
    have lt:∀ {c o},s.heap.get? c = some o->c < s.heap.objs.size:=fun e=>Heap.lt_size e
    have ltz:∀ c ∈ [z,TI,TO,i1,i2],c < s.heap.objs.size:=by
      intro c hc
      simp only [List.mem_cons,List.not_mem_nil,or_false] at hc
      rcases hc with rfl | rfl | rfl | rfl | rfl
      · exact lt hz
      · exact lt hTI
      · exact lt hTO
      · obtain ⟨_,e,_⟩:=h1; exact lt e
      · obtain ⟨_,e,_⟩:=h2; exact lt e
    have I1:Inv X pins σ (upd H s.heap.objs.size (.tup [x,y])) { s with heap:=s.heap.push { cls:=.type "tuple",data:=.seq #[ux,uy] },toks:=s.toks }:=by
      refine I.laid (fun c o e=>Heap.get?_push_of_some _ e) (Nat.le_refl _) ⟨by show 2 <= sizeLine; decide,[ux,uy],.cons rux (.cons ruy .nil),?_⟩
      exact ⟨_,Heap.get?_push_size _ rfl,rfl,_,rfl⟩
    have hfr:∀ c ∈ [z,TI,TO,i1,i2],upd H s.heap.objs.size (.tup [x,y]) c = none:=fun c hc=>by
      rw [jM (Nat.ne_of_lt (ltz c hc))]; exact (hf c hc).1
    have hf1:∀ c ∈ [z,TI,TO,i1,i2],FpOk X pins (upd H s.heap.objs.size (.tup [x,y])) c:=fun c hc=>⟨hfr c hc,(hf c hc).2⟩
    have kk:∀ c o,c ∉ [z,TI,TO,i1,i2]->(s.heap.push { cls:=.type "tuple",data:=.seq #[ux,uy] }).get? c = some o->h'.get? c = some o:=fun c o hc e=>by
      rcases Heap.get?_push_cases e with ⟨e9,e8⟩ | e'
      · subst e9 e8; exact a5
      · exact hk c o (fun x=>hc (by simp [x])) (fun x=>hc (by simp [x])) (fun x=>hc (by simp [x])) (fun x=>hc (by simp [x])) e'
    have I2:Inv X pins σ (upd H s.heap.objs.size (.tup [x,y])) { s with heap:=h' }:=by
      have z:=Inv.zP (t':=s.toks) I1 kk hf1
      exact z
    refine ⟨_,rfl,wpAny_letOwnedTupleGo_zip (s:={ s with heap:=h' }) a1 fun h'' hz'' hs''=>?_⟩
    have I3:Inv X pins σ (upd H s.heap.objs.size (.tup [x,y])) { s with heap:=h'' } :=
      by
      have z:=Inv.zP (h':=h'') (t':=s.toks) (ch:=[z]) I2 (fun c o hc e=>hs''.extBut c o (fun q=>hc (by simp [q])) e) (fun c hc=>hf1 c (by simp at hc; simp [hc]))
      exact z
    refine ⟨.ref s.heap.objs.size,_,I3,rfl,⟨_,x,y,rfl,I.hok.fresh (Nat.le_refl _),rfl,fun zs hzs=>by rw [I.jcN hzs hq1]; exact hx,fun zs hzs=>by rw [I.jcN hzs hq2]; exact hy⟩,?_,hfr⟩
    have hTI':IsPair h' TI (.ref i1) (.ref i2):=hk _ _ D.TIz D.TITO D.TIi1 D.TIi2 hTI
    exact ⟨hz'',hs''.extBut _ _ D.TIz hTI',⟨_,_,hs''.extBut _ _ D.TOz a2⟩,a3.extBut hs''.extBut D.i1z,a4.extBut hs''.extBut D.i2z⟩
  done:=by
    intro X hP hw hK hc i pins s σ H E I hf st hg
    subst hP hw hK
    obtain ⟨hz,hTI,⟨u,v,hTO⟩,h1,h2⟩:=st
    obtain ⟨xs,ys,hq1,hq2,hend⟩:=hg
    obtain ⟨its,rv,p,hz1⟩:=I.list hq1
    obtain ⟨its2,rv2,p2,hz2⟩:=I.list hq2
    have l1:=rv.length
    have l2:=rv2.length
    refine wpAny_pyNext_zip_end (I.ok.hd hc) D hz hTI hTO h1 h2 p.isList p2.isList ?_ fun h' hk=>⟨rfl,?_⟩
    · rcases hend with q | q
      · exact .inl (by simp; omega)
      · exact .inr (by simp; omega)
    · exact I.zP (t':=s.toks) (ch:=[z,TI,TO,i1,i2]) (fun c o hc e=>hk c o (fun x=>hc (by simp [x])) (fun x=>hc (by simp [x])) (fun x=>hc (by simp [x])) (fun x=>hc (by simp [x])) e) hf
  self:=fun _ _ _ _ _ st h=>wpAny_pyIter_zip st.1 h
noncomputable def iZip (K:PySem.W.Frag) (ta:TA):TI:=fun σ H R=>ta σ H fun vs H1=>∃ a b,vs = [.ref a,.ref b] /\ (∃ xs,SqL K H1 a xs) /\ (∃ ys,SqL K H1 b ys) /\ R (Itz K a b) H1
theorem jcu {X:Cx} {es:List Expr} {kk:Nat} {tp:Pos} {a b:Expr} {ta:TA} {p pos:Pos} (hg:Gl X "zip") (hm:X.mg "zip" = none) (ha:PA X [a,b] ta) (hs:noStar a = true) (hs2:noStar b = true) :
    PI X (.Tuple es kk tp) (.Call (.Name "zip" p) [a,b] [] pos) (iZip X.K ta):=by
  intro pins s σ H R I h
  refine Call_ (ZJ I hg hm boot_zip (PyProof.Rows.callWith_type1 (thn (ha pos pins s σ H _ I h) fun us s1 zz=>?_) (by rw [Jb hs,Jb hs2]) (by rw [Jb hs2]; rfl)))
  obtain ⟨vs,H1,I1,r1,q1⟩:=zz
  obtain ⟨l1,l2,e,⟨xs,hq1⟩,⟨ys,hq2⟩,q⟩:=q1
  subst e
  obtain ⟨u,u',rfl,ru,ru'⟩:=vals2 r1
  cases ru; cases ru'
  obtain ⟨its,rv,p1,_⟩:=I1.list hq1
  obtain ⟨its2,rv2,p2,_⟩:=I1.list hq2
  have lt1:l1 < s1.heap.objs.size:=by obtain ⟨_,e,_⟩:=p1.isList; exact Heap.lt_size e
  have lt2:l2 < s1.heap.objs.size:=by obtain ⟨_,e,_⟩:=p2.isList; exact Heap.lt_size e
  refine call_zip_2 p1.isList p2.isList fun h' hz hTI hTO hi1 hi2 hsz hk=>?_
  refine wpAny_pyIter_zip hz ?_
  refine ⟨s1.heap.objs.size + 4,_,_,_,H1,rfl,I1.kept (t':=s1.toks) hk,turn_zip l1 l2 _ _ _ _ _ (zipApart_new lt1 lt2),⟨hz,hTI,⟨_,_,hTO⟩,hi1,hi2⟩,fun c hc=>?_,q⟩
  have hge:s1.heap.objs.size <= c:=by
    simp only [List.mem_cons,List.not_mem_nil,or_false] at hc
    rcases hc with rfl | rfl | rfl | rfl | rfl
    · exact Nat.le_add_right _ _
    · exact Nat.le_add_right _ _
    · exact Nat.le_add_right _ _
    · exact Nat.le_refl _
    · exact Nat.le_add_right _ _
  exact I1.fpOk hge (I1.hok.fresh hge)
namespace R
theorem jcu {X:Cx} {es:List Expr} {kk:Nat} {tp:Pos} {a b:Expr} {ta:TA} {p pos:Pos} (hg:Gl X "zip") (hm:X.mg "zip" = none) (ha:QA X [a,b] ta) (hs:noStar a = true:=by rfl) (hs2:noStar b = true:=by rfl) :
    QI X (.Tuple es kk tp) (.Call (.Name "zip" p) [a,b] [] pos) (iZip X.K ta):=⟨L2.jcu hg hm ha.h hs hs2⟩
end R
theorem jdj {K:PySem.W.Frag} {fr:List Nat} {tt:TT} {te:TE} {σ:St} {Q:VK} {H1:Hp} {l:Addr} {a b:Addr} {xs ys:List V} (hlen:xs.length = ys.length) (Pv:Nat->Hp->Prop) (h0:Pv 0 (upd H1 l (.lst []))) (hl:∀ k H,k <= xs.length->Pv k H->SqL K H a xs /\ SqL K H b ys)
    (hs:∀ k x y p H,xs[k]? = some x->ys[k]? = some y->Pv k H->H p = none->Turn2 fr tt te σ l x y (upd H p (.tup [x,y])) (Pv (k + 1))) (hd:∀ H,Pv xs.length H->Q (.ref l) H) :
    yV (Itz K a b) 2 (gTup K 2 (jgl (Ye 0) (jgl (Ye 1) gNil))) fr tt te σ Q H1 l :=
  comp_by2 xs.length Pv h0 (fun k H h p=>⟨xs,xs[k],ys,ys[k],(hl k H (Nat.le_of_lt h) p).1,by simp [h],(hl k H (Nat.le_of_lt h) p).2,by simp [hlen ▸ h]⟩) (fun H p=>⟨xs,ys,(hl _ H (Nat.le_refl _) p).1,(hl _ H (Nat.le_refl _) p).2,.inl (Nat.le_refl _)⟩)
    (fun k H v H' hk p hy=>by
      obtain ⟨q,x,y,rfl,hn,rfl,h1,h2⟩:=hy
      exact ⟨q,x,y,rfl,SqT.of jm,hs k x y q H (h1 _ (hl k H (Nat.le_of_lt hk) p).1) (h2 _ (hl k H (Nat.le_of_lt hk) p).2) p hn⟩) hd
theorem jjb {K:PySem.W.Frag} {a b:Addr} {xs ys:List V} {g:TG} {tb:TS} {D:Ends} {σ:St} {H:Hp} (hlen:xs.length = ys.length) (Pv:Nat->St->Hp->Prop) (h0:Pv 0 σ H) (hl:∀ i σ H,i <= xs.length->Pv i σ H->SqL K H a xs /\ SqL K H b ys)
    (hs:∀ i x y p σ H,xs[i]? = some x->ys[i]? = some y->Pv i σ H->H p = none->g (.ref p) σ (upd H p (.tup [x,y])) fun σ2 H2=>tb { D with nx:=Pv (i + 1),ct:=Pv (i + 1),bk:=D.nx } σ2 H2) (hd:∀ σ H,Pv xs.length σ H->D.nx σ H) :
    ∃ W:Nat->Nat->St->Hp->Prop,(∃ m,W 0 m σ H) /\ ∀ i m σ H,W i m σ H ->
      ((Itz K a b).stop i H /\ D.nx σ H) ∨ ((Itz K a b).go i H /\ ∃ N:St->Hp->Prop,(∀ σ' H',N σ' H'->∃ m',m' < m /\ W (i + 1) m' σ' H') /\ ∀ x H',(Itz K a b).yld i H x H'->g x σ H' fun σ2 H2=>tb { D with nx:=N,ct:=N,bk:=D.nx } σ2 H2):=by
  refine ⟨fun i m σ H=>m = xs.length - i /\ i <= xs.length /\ Pv i σ H,⟨xs.length,by simp,Nat.zero_le _,h0⟩,?_⟩
  rintro i m σ H ⟨rfl,hi,p⟩
  have q:=hl i σ H hi p
  by_cases hlt:i < xs.length
  · refine .inr ⟨⟨xs,xs[i],ys,ys[i],q.1,by simp [hlt],q.2,by simp [hlen ▸ hlt]⟩,Pv (i + 1),fun σ' H' p'=>⟨xs.length - (i + 1),by omega,rfl,hlt,p'⟩,fun v H' y=>?_⟩
    obtain ⟨r,x,y,rfl,hn,rfl,h1,h2⟩:=y
    exact hs i x y r σ _ (h1 _ q.1) (h2 _ q.2) p hn
  · have e:i = xs.length:=by omega
    subst e
    exact .inl ⟨⟨xs,ys,q.1,q.2,.inl (Nat.le_refl _)⟩,hd σ H p⟩
end L2
set_option Elab.async false
set_option linter.all false
set_option maxRecDepth 100000
namespace L2
open PySem PySem.Spec PyProof.Rows
section
variable {prog:Program} {w:World} {A:Around} {R:Result->Shared->Prop} {I:Addr} {fp wr:List Addr} {n:Nat} {P:Nat->Value->Prop} {St':Nat->Heap->Prop} {kw:List (Str × Value)}
theorem gv_mx (W:Walks prog w A.in1 I fp wr n P St') (bt:Nat->Nat->Bool) (cmp:CmpOf prog w A.in1 .Gt P bt) {S:Addr} (nf:S ∉ fp) :
    ∀ (k j:Nat) (s:Shared) (vb:Value) (c:Nat),(j + 1) + k = n->St' (j + 1) s.heap->P (argBest bt j) vb->s.heap.get? S = some { cls:=.type "list",dict:=none,data:=.seq #[vb,vb] c,slots:=#[] } ->
      (∀ v h' tk,P (argBest bt (n - 1)) v->(∀ b o,b ∉ wr->b ≠ S->s.heap.get? b = some o->h'.get? b = some o)->R (.ok (.ret v)) { s with heap:=h',toks:=tk }) ->
      codeAny (model prog w) A (.builtin "max.loop" ⟨[.ref I,.none,.ref S],kw⟩) R s:=by
  have nw:S ∉ wr:=fun z=>nf (W.sub _ z)
  have nm:(toString "max" ++ toString ".loop" : String) = "max.loop" := by decide
  intro k
  induction k with
  | zero =>
    intro j s vb c e0 st pb hS hR
    have e1:n = j + 1:=by omega
    subst e1
    refine codeAny_builtin F.entry_max_loop ?_; rw [Around.under_plainId F.plain_max_loop _]; show wpAny _ A.in1 (seqItems? (.ref S) >>= _) _ _ s; refine wpAny_bind (wpAny_seqItems hS rfl ?_); show wpAny _ A.in1 (tryCatch (pyNext (.ref I)) _ >>= _) _ _ s
    refine wpAny_bind (wpAny_tryCatch (W.done s _ _ st fun g tk keep=>?_))
    show wpAny _ A.in1 (updateSeq S (fun _=>#[]) >>= _) _ _ _
    refine wpAny_bind (wpAny_updateSeq (keep S _ nw hS) rfl (wpAny_bind (wpAny_letGo (wpAny_pure (hR vb _ tk pb fun b o q1 q2 e=>?_)))))
    exact (Heap.get?_update_other _ _ (Ne.symm q2)).trans (keep b o q1 e)
  | succ k ih =>
    intro j s vb c e0 st pb hS hR
    refine codeAny_builtin F.entry_max_loop ?_; rw [Around.under_plainId F.plain_max_loop _]; show wpAny _ A.in1 (seqItems? (.ref S) >>= _) _ _ s; refine wpAny_bind (wpAny_seqItems hS rfl ?_); show wpAny _ A.in1 (tryCatch (pyNext (.ref I)) _ >>= _) _ _ s
    refine wpAny_bind (wpAny_tryCatch (W.item (j + 1) s _ _ (by omega) st fun v g tk pv st2 keep=>?_))
    have hS2:=keep S _ nw hS
    show wpAny _ A.in1 (tryCatch (holding [v,v] (richCompare .Gt v vb >>= _)) _ >>= _) _ _ _
    refine wpAny_bind (wpAny_tryCatch (wpAny_holding (wpAny_bind (cmp (j + 1) (argBest bt j) v vb _ _ _ pv pb (wpAny_bind (wpAny_holding (wpAny_truthy_bool (wpAny_bind (wpAny_letGo (wpAny_pure ?_))))))))))
    have ea:argBest bt (j + 1) = if bt (j + 1) (argBest bt j) = true then j + 1 else argBest bt j:=rfl
    by_cases hb:bt (j + 1) (argBest bt j) = true
    · rw [if_pos hb] at ea ⊢
      refine wpAny_bind (wpAny_updateSeq hS2 rfl (wpAny_bind (wpAny_letGo ?_)))
      rw [nm]
      refine wpAny_pure ⟨plainId_quiet F.plain_max_loop _,ih (j + 1) _ v _ (by omega) (W.frame _ _ _ st2 fun b q o e=>?_) (by rw [ea]; exact pv) (Heap.get?_update_self _ hS2 rfl) fun v' g' tk' pv' keep'=>?_⟩
      · exact (Heap.get?_update_other _ _ (fun z:S = b=>nf (z ▸ q))).trans e
      · exact hR v' g' tk' pv' fun b o q1 q2 e=>keep' b o q1 q2 ((Heap.get?_update_other _ _ (Ne.symm q2)).trans (keep b o q1 e))
    · rw [if_neg hb] at ea ⊢
      refine wpAny_bind (wpAny_letGo ?_)
      rw [nm]
      refine wpAny_pure ⟨plainId_quiet F.plain_max_loop _,ih (j + 1) _ vb c (by omega) st2 (by rw [ea]; exact pb) hS2 fun v' g' tk' pv' keep'=>?_⟩
      exact hR v' g' tk' pv' fun b o q1 q2 e=>keep' b o q1 q2 (keep b o q1 e)
theorem gv_mx0 {d:Value} (W:Walks prog w A.in1 I fp wr n P St') (bt:Nat->Nat->Bool) (cmp:CmpOf prog w A.in1 .Gt P bt) {S:Addr} (nf:S ∉ fp) {s:Shared} {c:Nat} (st:St' 0 s.heap) (hS:s.heap.get? S = some { cls:=.type "list",dict:=none,data:=.seq #[] c,slots:=#[] })
    (hR:∀ v h' tk,(n = 0 /\ v = d ∨ 0 < n /\ P (argBest bt (n - 1)) v)->(∀ b o,b ∉ wr->b ≠ S->s.heap.get? b = some o->h'.get? b = some o)->R (.ok (.ret v)) { s with heap:=h',toks:=tk }) :
    codeAny (model prog w) A (.builtin "max.loop" ⟨[.ref I,.none,.ref S],[(Str.ofString "default",d)]⟩) R s:=by
  have nw:S ∉ wr:=fun z=>nf (W.sub _ z)
  have nm:(toString "max" ++ toString ".loop" : String) = "max.loop" := by decide
  refine codeAny_builtin F.entry_max_loop ?_; rw [Around.under_plainId F.plain_max_loop _]; show wpAny _ A.in1 (seqItems? (.ref S) >>= _) _ _ s; refine wpAny_bind (wpAny_seqItems hS rfl ?_); show wpAny _ A.in1 (tryCatch (pyNext (.ref I)) _ >>= _) _ _ s
  rcases Nat.eq_zero_or_pos n with e0 | e0
  · refine wpAny_bind (wpAny_tryCatch (W.done s _ _ (by rw [e0]; exact st) fun g tk keep=>?_))
    refine wpAny_bind (wpAny_rule (wpAny_pure ?_))
    exact hR d g tk (.inl ⟨e0,rfl⟩) fun b o q1 _ e=>keep b o q1 e
  · refine wpAny_bind (wpAny_tryCatch (W.item 0 s _ _ e0 st fun v g tk pv st2 keep=>?_))
    have hS2:=keep S _ nw hS
    show wpAny _ A.in1 (updateSeq S (fun _=>#[v,v]) >>= _) _ _ _
    refine wpAny_bind (wpAny_updateSeq hS2 rfl ?_)
    rw [nm]
    refine wpAny_pure ⟨plainId_quiet F.plain_max_loop _,gv_mx W bt cmp nf (n - 1) 0 _ v _ (by omega) (W.frame _ _ _ st2 fun b q o e=>?_) pv (Heap.get?_update_self _ hS2 rfl) fun v' g' tk' pv' keep'=>?_⟩
    · exact (Heap.get?_update_other _ _ (fun z:S = b=>nf (z ▸ q))).trans e
    · exact hR v' g' tk' (.inr ⟨e0,pv'⟩) fun b o q1 q2 e=>keep' b o q1 q2 ((Heap.get?_update_other _ _ (Ne.symm q2)).trans (keep b o q1 e))
end
theorem jhH (a v:Value):argsOk "max" ⟨[a],[(Str.ofString "default",v)]⟩:=by unfold argsOk; kernel_rfl
section
variable {X:Cx}
theorem gv_maxD {pins:List (Addr × Obj)} {s:Shared} {σ:St} {H:Hp} {Q:VK} {p:Addr} {ns:List Int} {d:Int} {t:Tok} (hc:X.calm = true) (J:Inv X pins σ H s) (hq:SqL X.K H p (ns.map V.int)) (q0:ns = []->Q (.int d) H) (q1:∀ m,jeC ns m->Q (.int m) H) :
    wpAny (model X.prog X.w) X.A (call (.builtin "max") [.ref p] [(Str.ofString "default",.int d t)]) (EP X pins σ Q) X.xe s:=by
  obtain ⟨its,r',pl,hz⟩:=J.list hq
  have hl:=r'.length
  rw [List.length_map] at hl
  have hlt:p < s.heap.objs.size:=by obtain ⟨_,e,_⟩:=pl.isList; exact Heap.lt_size e
  have nm:(toString "max" ++ toString ".loop" : String) = "max.loop" := by decide
  refine kmk_tree PySem.F.kind_max PySem.F.plain_max PySem.F.entry_max (jhH _ _) ?_
  show wpAny _ X.A.in1 (Builtin.Builtins.bindParams "max" ["key", "default"] 0 ⟨[],[(Str.ofString "default",.int d t)]⟩ >>= _) _ _ s
  refine wpAny_bind (wpAny_of_eq (show Builtin.Builtins.bindParams "max" ["key", "default"] 0 ⟨[],[(Str.ofString "default",.int d t)]⟩ = pure [none,some (.int d t)] from rfl) (wpAny_bind (wpAny_pure ?_)))
  refine wpAny_bind (wpAny_pyIter_list pl.isList (wpAny_bind (wpAny_newObj_type ?_)))
  rw [nm]
  have hI:p ≠ s.heap.objs.size:=Nat.ne_of_lt hlt
  have hsz:(s.heap.push { cls:=.type "list_iterator",data:=.fields #[.ref p,.int 0 0] }).objs.size = s.heap.objs.size + 1:=Heap.size_push ..
  refine wpAny_pure ⟨plainId_quiet F.plain_max_loop _,gv_mx0 (Walks.list (A:=X.A.in1) (J.ok.hd hc) s.heap.objs.size p hI its.toArray) _ (CmpOf.ints_gt (fun i=>ns.getD i 0) (fun i v e=>jaw r' e)) ?_ ?_ (Heap.get?_push_size _ rfl) ?_⟩
  · intro z
    rw [hsz] at z
    rcases List.mem_cons.mp z with z | z
    · exact absurd z (Nat.ne_of_gt (Nat.lt_succ_self _))
    · have z':=List.mem_singleton.mp z
      exact absurd z'.symm (Nat.ne_of_lt (Nat.lt_succ_of_lt hlt))
  · exact ⟨⟨_,Heap.get?_push_of_some _ (Heap.get?_push_size _ rfl),rfl,rfl⟩,(pl.isList.push _).push _⟩
  · intro v g tk hv keep
    have J':Inv X pins σ H { s with heap:=g,toks:=tk }:=by
      refine J.kept fun b o e=>keep b o (fun z=>?_) (fun z=>?_) (Heap.get?_push_of_some _ (Heap.get?_push_of_some _ e))
      · rw [List.mem_singleton.mp z] at e; exact absurd (Heap.lt_size e) (Nat.lt_irrefl _)
      · rw [z,hsz] at e; exact absurd (Nat.lt_of_succ_lt (Heap.lt_size e)) (Nat.lt_irrefl _)
    rcases hv with ⟨e0,rfl⟩ | ⟨e0,hv⟩
    · rw [List.size_toArray] at e0
      exact ⟨.int d,H,J',⟨t,rfl⟩,q0 (List.length_eq_zero_iff.mp (by omega))⟩
    · obtain ⟨t',rfl⟩:=jaw r' hv
      rw [List.size_toArray] at e0
      refine ⟨.int _,H,J',⟨t',rfl⟩,q1 _ ?_⟩
      rw [List.size_toArray,<- hl]
      exact jeK (by omega)
noncomputable def tMaxD (K:PySem.W.Frag) (te td:TE):TE:=fun σ H Q=>te σ H fun x H1=>td σ H1 fun y H2=>∃ (p:Addr) (ns:List Int) (d:Int),x = .ref p /\ y = .int d /\ SqL K H2 p (ns.map V.int) /\ (ns = []->Q (.int d) H2) /\ ∀ m,jeC ns m->Q (.int m) H2
theorem jet {e d:Expr} {te td:TE} {p kpos pos:Pos} (hc:X.calm = true) (hg:Gl X "max") (hm:X.mg "max" = none) (ha:PE X e te) (hd:PE X d td) (hs:noStar e = true) :
    PE X (.Call (.Name "max" p) [e] [⟨some "default",d,kpos⟩] pos) (tMaxD X.K te td):=by
  intro pins s σ H Q I h
  refine wpAny_Call_Name_kw (ZJ I hg hm boot_max ?_)
  refine callWith_kw (thn ((pa_c ha jh hs) pos pins s σ H (fun vs H1=>match vs with
    | [x]=>td σ H1 fun y H2=>∃ (p:Addr) (ns:List Int) (d:Int),x = .ref p /\ y = .int d /\ SqL X.K H2 p (ns.map V.int) /\ (ns = []->Q (.int d) H2) /\ ∀ m,jeC ns m->Q (.int m) H2
    | _=>False) I h) fun us s1 zz=>?_) (by rw [Jb hs]; rfl) (by rw [Jb hs]; rfl) rfl rfl
  obtain ⟨vs,H1,I1,r1,q1⟩:=zz
  match vs,q1 with
  | [x],q1 =>
    obtain ⟨u,rfl,ru⟩:=vals1 r1
    refine kws_cons (thn (hd pins s1 σ H1 _ I1 q1) fun v s2 zz=>kws_nil ?_)
    obtain ⟨y,H2,I2,r2,p2,ns,dd,e1,e2,hq,q0,qm⟩:=zz
    subst e1 e2
    cases ru
    obtain ⟨t,rfl⟩:=r2
    exact gv_maxD hc I2 hq q0 qm
end
namespace R
theorem jet {X:Cx} (K:PySem.W.Frag) {e d:Expr} {te td:TE} {p kpos pos:Pos} (hc:X.calm = true) (hg:Gl X "max") (hm:X.mg "max" = none) (ha:QE X e te) (hd:QE X d td) (hs:noStar e = true:=by rfl) (hK:X.K = K:=by rfl) :
    QE X (.Call (.Name "max" p) [e] [⟨some "default",d,kpos⟩] pos) (tMaxD K te td):=by subst hK; exact ⟨L2.jet hc hg hm ha.h hd.h hs⟩
end R
end L2
set_option Elab.async false
set_option linter.all false
set_option maxRecDepth 100000
namespace L2
theorem jfS {b c:Nat}:b &&& c = c ↔ ∀ k,c.testBit k = true->b.testBit k = true:=by
  constructor
  · intro h k hk
    have:(b &&& c).testBit k = true:=by rw [h]; exact hk
    rw [Nat.testBit_and,Bool.and_eq_true] at this
    exact this.1
  · intro h
    refine Nat.eq_of_testBit_eq fun k=>?_
    rw [Nat.testBit_and]
    cases hc:c.testBit k with
    | false=>rw [Bool.and_false]
    | true=>rw [h k hc]; rfl
theorem sub_or {b p:Nat}:b ||| p = b ↔ b &&& p = p:=by
  rw [jfS]
  constructor
  · intro h k hk
    have:(b ||| p).testBit k = true:=by rw [Nat.testBit_or,hk,Bool.or_true]
    rw [h] at this; exact this
  · intro h
    refine Nat.eq_of_testBit_eq fun k=>?_
    rw [Nat.testBit_or]
    cases hp:p.testBit k with
    | false=>rw [Bool.or_false]
    | true=>rw [h k hp]; rfl
theorem jgK {a b c:Nat} (h1:a &&& b = b) (h2:b &&& c = c):a &&& c = c:=by
  rw [jfS] at *
  exact fun k hk=>h1 k (h2 k hk)
noncomputable def top (ns:List Int):Int:=ns.foldl max 0
theorem jiV (ns:List Int):∀ a:Int,a <= ns.foldl max a /\ ∀ x ∈ ns,x <= ns.foldl max a:=by
  induction ns with
  | nil=>intro a; exact ⟨Int.le_refl _,fun x h=>by cases h⟩
  | cons y ns ih =>
    intro a
    obtain ⟨h1,h2⟩:=ih (max a y)
    refine ⟨Int.le_trans (Int.le_max_left a y) h1,fun x hx=>?_⟩
    rcases List.mem_cons.mp hx with e | hx
    · rw [e]; exact Int.le_trans (Int.le_max_right a y) h1
    · exact h2 x hx
theorem jjo (ns:List Int):∀ a:Int,ns.foldl max a = a ∨ ns.foldl max a ∈ ns:=by
  induction ns with
  | nil=>intro a; exact .inl rfl
  | cons y ns ih =>
    intro a
    show ns.foldl max (max a y) = a ∨ ns.foldl max (max a y) ∈ y :: ns
    rcases ih (max a y) with h | h
    · rw [h]
      rcases Int.le_total a y with q | q
      · rw [Int.max_eq_right q]; exact .inr List.mem_cons_self
      · rw [Int.max_eq_left q]; exact .inl rfl
    · exact .inr (List.mem_cons_of_mem _ h)
theorem jgL {ns:List Int} {m:Int} (h0:∀ x ∈ ns,0 <= x) (h:jeC ns m):m = top ns:=by
  have h1:=(jiV ns 0).2 m h.1
  rcases jjo ns 0 with e | e
  · have:=h0 m h.1
    unfold top; omega
  · have:=h.2 _ e
    unfold top; omega
theorem jfV (ns:List Int):0 <= top ns:=(jiV ns 0).1
end L2
set_option Elab.async false
set_option linter.all false
set_option maxRecDepth 100000
namespace L2
open PySem PySem.Spec PyProof.Rows
section
variable {P:Program} {w:World} {K:PySem.W.Frag} {mg:Str->Option Value} {base:Heap}
end
end L2
set_option Elab.async false
set_option linter.all false
set_option maxRecDepth 100000
namespace L2
open PySem PySem.Spec PyProof.Rows
section
variable {X:Cx}
end
namespace R
section
variable {X:Cx} {e e2 o a b c:Expr} {to ta tb tc:TE} {t:TA} {pos apos cpos:Pos}
theorem jbq {op op':CmpOp} {r r':R2} (h1:OpR X (compareOp op) r) (h2:OpR X (compareOp op') r') (ha:QE X a ta) (hb:QE X b tb) (hc:QE X c tc)
    (hm:lastMarks [op,op'] [b,c] = false:=by with_unfolding_all rfl):QE X (.Compare a [op,op'] [b,c] pos) (jhn r r' ta tb tc):=⟨L2.jbq h1 h2 ha.h hb.h hc.h hm⟩
theorem jcZ {op op':CmpOp} {r r':R2} (h1:OpR X (compareOp op) r) (h2:OpR X (compareOp op') r') (ha:QE X a ta) (hb:QE X b tb) (hc:QE X c tc)
    (hm:lastMarks [op,op'] [b,c] = false:=by with_unfolding_all rfl):QT X (.Compare a [op,op'] [b,c] pos) (tTest (jhn r r' ta tb tc)):=⟨L2.jcZ h1 h2 ha.h hb.h hc.h hm⟩
end
end R
end L2
set_option Elab.async false
set_option linter.all false
set_option maxRecDepth 100000
namespace L2
open PySem PySem.Spec PyProof.Rows
noncomputable def Jm (s:Stmt):List Stmt:=match s with
  | .ClassDef _ _ _ b _ _ _ _ _ _ _=>b
  | _=>[]
structure Own (K:PySem.W.Frag) (mg:Str->Option Value) (x:Str) (C:Addr) (nos:List Str):Prop where
  at_:mg x = some (.ref C)
  cls:Cls K C
  makes:PySem.W.makesIn K C = true
  kp:PySem.W.keepIn K (.ref C) = true
  no:∀ f ∈ nos,jaq K C f
  t1:PySem.W.findIn K (.ref C) "__class__" = some (some (.builtin "object.__class__"))
  t2:PySem.W.specialIn K (.builtin "object.__class__") "__get__" = some (some (.builtin "getset_descriptor.__get__"))
  t3:PySem.W.takesIn K (.builtin "object.__class__") = some true
  t4:PySem.W.mroIn K C (.type "object") = some true
theorem Own.ty {K:PySem.W.Frag} {mg:Str->Option Value} {x:Str} {C a dx:Addr} {nos:List Str} {H:Hp} {fs:List (Str × V)} (O:Own K mg x C nos) (e:H a = some (.ins C dx fs)):TyOf K H (.ref a) (.ref C):=.ins e O.cls O.t1 O.t2 O.t3 O.t4
structure J9 (P:Program) (w:World) (K:PySem.W.Frag) (mg:Str->Option Value) (base:Heap) (k:Nat) (C:Addr) (m:Str) (ps:List Str) (sp:Sp):Prop where
  ex:∃ (f:Addr) (fd:FuncData),FnOk P w K mg base CX0 k f fd ps sp /\ Binds K fd ps [] /\ Meth K C m f /\ Cls K C
structure Qc (P:Program) (w:World) (K:PySem.W.Frag) (mg:Str->Option Value) (base:Heap) (k:Nat) (x:Str) (C:Addr) (ps:List Str) (sp:Sp):Prop where
  ex:∃ (f:Addr) (fd:FuncData),FnOk P w K mg base CX0 k f fd ps sp /\ Binds K fd ps [] /\ Mk K C f /\ mg x = some (.ref C)
structure jeF (K:PySem.W.Frag) (mg:Str->Option Value) (x:Str) (C:Addr):Prop where
  makes:PySem.W.makesIn K C = true
  init:PySem.W.findIn K (.ref C) "__init__" = some (some (.builtin "object.__init__"))
  kp:PySem.W.keepIn K (.ref C) = true
  at_:mg x = some (.ref C)
section
variable {X:Cx}
theorem jj2 {pins:List (Addr × Obj)} {σ:St} {H:Hp} {s:Shared} {Q:VK} {C:Addr} {x:Str} (M:jeF X.K X.mg x C) (I:Inv X pins σ H s)
    (h:∀ a dx,H a = none->H dx = none->dx ≠ a->Q (.ref a) (upd (upd H dx (.own a)) a (.ins C dx []))):wpAny (model X.prog X.w) X.A (call (.ref C) []) (EP X pins σ Q) X.xe s:=by
  have hq:=h (s.heap.objs.size + 1) s.heap.objs.size (I.hok.fresh (Nat.le_succ _)) (I.hok.fresh (Nat.le_refl _)) (Nat.ne_of_lt (Nat.lt_succ_self _))
  have I2:=Inv.made (C:=C) I
  have Y:=PySem.W.makes_of (M:=model X.prog X.w) I.kIn M.makes
  have up:∀ b o,s.heap.get? b = some o->((s.heap.push PySem.W.emptyDict).push (PySem.W.instObj C s.heap.objs.size)).get? b = some o:=fun b o e=>Heap.get?_push_of_some _ (Heap.get?_push_of_some _ e)
  have hx:((s.heap.push PySem.W.emptyDict).push (PySem.W.instObj C s.heap.objs.size)).get? (s.heap.objs.size + 1) = some (PySem.W.instObj C s.heap.objs.size):=by
    have z:=Heap.get?_push_size (s.heap.push PySem.W.emptyDict) (o:=PySem.W.instObj C s.heap.objs.size) rfl
    rwa [Heap.size_push] at z
  have t1:PySem.W.Looks (model X.prog X.w) ((s.heap.push PySem.W.emptyDict).push (PySem.W.instObj C s.heap.objs.size)) (typeOf (.ref (s.heap.objs.size + 1))) (.ref C):=(PySem.W.Looks.ld hx).andThen .now
  have t2:PySem.W.Looks (model X.prog X.w) ((s.heap.push PySem.W.emptyDict).push (PySem.W.instObj C s.heap.objs.size)) (isInstance (.ref (s.heap.objs.size + 1)) (.type "object")) true:=t1.andThen (Y.top.keeps up)
  refine wpAny_call (jjL I.kIn M.makes M.init (fun self=>PySem.W.Looks.of_pure (PySem.W.oi_bind self)) ?_)
  refine codeAny_call_builtin PySem.W.oi_plain PySem.W.entry_oi (@PySem.W.check_slot (model X.prog X.w) _ _ _ "object.__init__" "object" "__init__" (.ref (s.heap.objs.size + 1)) [] [] _ PySem.W.oi_kind PySem.W.oi_split t2 (PySem.W.oi_args (.ref (s.heap.objs.size + 1))) ?_)
  rw [PySem.W.oi_run]
  exact wpAny_pure (And.intro rfl ⟨V.ref (s.heap.objs.size + 1),_,I2,rfl,hq⟩)
noncomputable def tMake0 (C:Addr):TE:=fun _ H Q=>∀ a dx,H a = none->H dx = none->dx ≠ a->Q (.ref a) (upd (upd H dx (.own a)) a (.ins C dx []))
theorem jg9 {x:Str} {C:Addr} {p pos:Pos} (M:jeF X.K X.mg x C) (hg:Gl X x) (hdb:(x == ("__debug__" : Str)) = false:=by decide):PE X (.Call (.Name x p) [] [] pos) (tMake0 C):=by
  intro pins s σ H Q I h
  exact wpAny_Call_Name_kw (jep I hg M.at_ (PySem.W.callWith_K0 I.kIn M.kp (jj2 M I h)) hdb)
noncomputable def jhp (T:Addr->Sp->Prop) (m:Str) (ta:TE) (t:TA):TE:=fun σ H Q=>ta σ H fun x H1=>∃ (a C dx:Addr) (fs:List (Str × V)) (sp:Sp),x = .ref a /\ H1 a = some (.ins C dx fs) /\ fs.lookup m = none /\ T C sp /\ t σ H1 fun vs H2=>sp (x :: vs) H2 Q E0
theorem yr {T:Addr->Sp->Prop} {m:Str} {o e:Expr} {es:List Expr} {ta:TE} {t:TA} {apos pos:Pos} {j:Nat} {pl:Sem Bool} (he:PE X o ta) (hT:∀ C sp,T C sp->∃ ps,J9 X.prog X.w X.K X.mg X.base j C m ps sp) (hr:Room j X.A) (ha:PA X (e :: es) t)
    (hst:starEach (e :: es) X.env = (false,eval e X.env) :: starEach es X.env) (hpl:(backTo pos (starEach es X.env)).any (·.1) = false)
    (ht:eval (.Call (.Attribute o m apos) (e :: es) [] pos) X.env = (do
      let ov <- eval o X.env
      standAt apos.atName
      let (f,first) <- holding [ov] (getMethod ov m pl)
      callWith pos f first (backTo pos (starEach (e :: es) X.env)) (backToKw pos (keywordEach [] X.env)))) :
    PE X (.Call (.Attribute o m apos) (e :: es) [] pos) (jhp T m ta t):=by
  intro pins s σ H Q I h
  refine PySem.W.methodCall_KW (pl:=pl) (thn (he pins s σ H _ I h) fun u s1 zz=>?_) ht
  obtain ⟨x,H1,I1,rx,a,C,dx,fs,sp,ex,ea,l,hC,q⟩:=zz
  subst ex
  obtain rfl:u = Value.ref a:=rx
  obtain ⟨ps,D⟩:=hT C sp hC
  obtain ⟨f,fd,F,b,hm,c⟩:=D.ex
  refine je1 I1 ea c hm l (PySem.W.callWith_K (first:=[.ref a]) (h₀:=X.base) I.ok.mod.kin hm.kp (thn (ha pos pins s1 σ H1 _ I1 q) fun us s2 ⟨vs,H2,I2,r,q2⟩=>⟨I2.kIn,?_⟩) hst hpl)
  have q3:sp (V.ref a :: (vs ++ [])) H2 Q E0:=by rw [List.append_nil]; exact q2
  exact jiJ (us:=.ref a :: us) (vs:=.ref a :: vs) (dvs:=[]) F hr b .nil pass0 I2 (.cons rfl r) q3
theorem Q6 {T:Addr->Sp->Prop} {m:Str} {o:Expr} {ta:TE} {apos pos:Pos} {j:Nat} {pl:Sem Bool} (he:PE X o ta) (hT:∀ C sp,T C sp->∃ ps,J9 X.prog X.w X.K X.mg X.base j C m ps sp) (hr:Room j X.A)
    (ht:eval (.Call (.Attribute o m apos) [] [] pos) X.env = (do
      let ov <- eval o X.env
      standAt apos.atName
      let (f,first) <- holding [ov] (getMethod ov m pl)
      callWith pos f first (backTo pos (starEach [] X.env)) (backToKw pos (keywordEach [] X.env)))) :
    PE X (.Call (.Attribute o m apos) [] [] pos) (jhp T m ta tNil):=by
  intro pins s σ H Q I h
  refine PySem.W.methodCall_KW (pl:=pl) (thn (he pins s σ H _ I h) fun u s1 zz=>?_) ht
  obtain ⟨x,H1,I1,rx,a,C,dx,fs,sp,ex,ea,l,hC,q⟩:=zz
  subst ex
  obtain rfl:u = Value.ref a:=rx
  obtain ⟨ps,D⟩:=hT C sp hC
  obtain ⟨f,fd,F,b,hm,c⟩:=D.ex
  refine je1 I1 ea c hm l (PySem.W.callWith_K0 (first:=[.ref a]) I1.kIn hm.kp ?_)
  exact jiJ (us:=[.ref a]) (vs:=[.ref a]) (dvs:=[]) F hr b .nil pass0 I1 (.cons rfl .nil) q
noncomputable def rIsOwn (K:PySem.W.Frag) (D:Addr):List V->Hp->VK->Prop:=fun xs H Q=>∃ x t b,xs = [x,.ref D] /\ TyOf K H x t /\ PySem.W.kitOne K t (.ref D) = some b /\ Q (.bl b) H
theorem jii (D:Addr):yl X (.builtin "isinstance") (rIsOwn X.K D):=by
  intro pins s σ H xs us Q I r h
  obtain ⟨x,t,b,rfl,ty,e,q⟩:=h
  obtain ⟨u,u',rfl,ru,ru'⟩:=vals2 r
  cases ru'
  exact jgn I ru ty e fun tk=>⟨.bl b,H,I.tok tk,rfl,q⟩
end
namespace R
section
variable {X:Cx} {e o value:Expr} {es:List Expr} {te to ta tv:TE} {t:TA} {pos p apos pos':Pos}
theorem Jo (K:PySem.W.Frag) {f:Str} (he:QE X e ta) (hb:attributeBase e f X.env (eval e X.env) = eval e X.env:=by rfl) (hK:X.K = K:=by rfl):QE X (.Attribute e f pos) (tFld K ta f):=by subst hK; exact ⟨L2.Jo he.h hb⟩
theorem YG {f:Str} (ha:QE X o ta) (hv:QE X value tv) (hs:je7 value = true:=by rfl):QS X (.Assign [.Attribute o f pos'] value pos) (sFld X.K ta tv f):=⟨L2.YG ha.h hv.h (jc5 hs)⟩
theorem jg9 {x:Str} {C:Addr} (M:jeF X.K X.mg x C) (hg:Gl X x) (hdb:(x == ("__debug__" : Str)) = false:=by decide):QE X (.Call (.Name x p) [] [] pos) (tMake0 C):=⟨L2.jg9 M hg hdb⟩
theorem QD {k j:Nat} {x:Str} {C:Addr} {ps:List Str} {sp:Sp} (D:Qc X.prog X.w X.K X.mg X.base k x C ps sp) (hr:Room j X.A) (hj:k + 1 <= j) (hg:Gl X x) (ha:QA X (e :: es) t) (hs:(e :: es).all noStar = true:=by rfl) (hdb:(x == ("__debug__" : Str)) = false:=by decide) :
    QE X (.Call (.Name x p) (e :: es) [] pos) (tMake C sp [] E0 t):=by
  obtain ⟨f,fd,F,b,M,m⟩:=D.ex
  exact ⟨L2.pe_make M F (hr.mono hj) hg m b .nil pass0 ha.h hdb (Jb (Qf hs).1) (jaj (Qf hs).2)⟩
theorem yr {T:Addr->Sp->Prop} {m:Str} {k j:Nat} {pl:Sem Bool} (he:QE X o ta) (hT:∀ C sp,T C sp->∃ ps,J9 X.prog X.w X.K X.mg X.base k C m ps sp) (hr:Room j X.A) (hj:k <= j) (ha:QA X (e :: es) t) (hs:(e :: es).all noStar = true:=by rfl)
    (ht:eval (.Call (.Attribute o m apos) (e :: es) [] pos) X.env = (do
      let ov <- eval o X.env
      standAt apos.atName
      let (f,first) <- holding [ov] (getMethod ov m pl)
      callWith pos f first (backTo pos (starEach (e :: es) X.env)) (backToKw pos (keywordEach [] X.env))):=by rfl) :
    QE X (.Call (.Attribute o m apos) (e :: es) [] pos) (jhp T m ta t):=⟨L2.yr (pl:=pl) he.h hT (hr.mono hj) ha.h (Jb (Qf hs).1) (jaj (Qf hs).2) ht⟩
theorem Q6 {T:Addr->Sp->Prop} {m:Str} {k j:Nat} {pl:Sem Bool} (he:QE X o ta) (hT:∀ C sp,T C sp->∃ ps,J9 X.prog X.w X.K X.mg X.base k C m ps sp) (hr:Room j X.A) (hj:k <= j)
    (ht:eval (.Call (.Attribute o m apos) [] [] pos) X.env = (do
      let ov <- eval o X.env
      standAt apos.atName
      let (f,first) <- holding [ov] (getMethod ov m pl)
      callWith pos f first (backTo pos (starEach [] X.env)) (backToKw pos (keywordEach [] X.env))):=by rfl) :
    QE X (.Call (.Attribute o m apos) [] [] pos) (jhp T m ta tNil):=⟨L2.Q6 (pl:=pl) he.h hT (hr.mono hj) ht⟩
theorem jhY {x:Str} {D:Addr} {p2:Pos} (hg:Gl X "isinstance") (hm:X.mg "isinstance" = none) (hgT:Gl X x) (hmT:X.mg x = some (.ref D)) (ha:QE X e te) (hs:noStar e = true:=by rfl) (hdb:(x == ("__debug__" : Str)) = false:=by decide) :
    QE X (.Call (.Name "isinstance" p) [e,.Name x p2] [] pos) (tCB (rIsOwn X.K D) (jc6 te (jc6 (tC (.ref D)) tNil))) :=
  ⟨L2.JM (jii D) hg hm boot_isinstance (L2.pa_c ha.h (L2.pa_c (L2.pe_glob hgT hmT rfl hdb) L2.jh) hs) (by rw [List.all_cons,hs]; rfl)⟩
end
end R
end L2
set_option Elab.async false
set_option linter.all false
set_option maxRecDepth 100000
namespace L2
open PySem PySem.Spec PyProof.Rows
inductive Form where
  | none
  | only (b:Nat) (m:Int)
  | some (k l:Nat) (m:Int)
  | most (k c:Nat) (m:Int)
inductive Tr where
  | leaf (f:Form)
  | node (any:Bool) (ts:List Tr)
noncomputable def yc:Form->Nat
  | .none=>0
  | .only b _=>b
  | .some k _ _=>k
  | .most k _ _=>k
mutual
noncomputable def j7:Tr->Nat
  | .leaf _=>1
  | .node _ ts=>1 + jW ts
noncomputable def jW:List Tr->Nat
  | []=>0
  | t :: ts=>max (j7 t) (jW ts)
end
mutual
noncomputable def jV:Tr->Nat
  | .leaf _=>1
  | .node _ ts=>1 + jN ts
noncomputable def jN:List Tr->Nat
  | []=>0
  | t :: ts=>jV t + jN ts
end
mutual
noncomputable def Ja:Tr->Nat
  | .leaf f=>yc f
  | .node _ ts=>Jg ts
noncomputable def Jg:List Tr->Nat
  | []=>0
  | t :: ts=>Ja t ||| Jg ts
end
theorem jil:∀ ts:List Tr,((jW ts:Nat):Int) = top (ts.map fun t=>((j7 t:Nat):Int)):=by
  have key:∀ (ts:List Tr) (a:Nat),(ts.map fun t=>((j7 t:Nat):Int)).foldl max (a:Int) = ((max a (jW ts):Nat):Int):=by
    intro ts
    induction ts with
    | nil=>intro a; show (a:Int) = _; rw [show jW [] = 0 from rfl,Nat.max_eq_left (Nat.zero_le _)]
    | cons t ts ih =>
      intro a
      show (ts.map fun t=>((j7 t:Nat):Int)).foldl max (max (a:Int) ((j7 t:Nat):Int)) = _
      have e:max (a:Int) ((j7 t:Nat):Int) = ((max a (j7 t):Nat):Int):=by omega
      rw [e,ih]
      show _ = ((max a (max (j7 t) (jW ts)):Nat):Int)
      omega
  intro ts
  have:=key ts 0
  rw [Nat.max_eq_right (Nat.zero_le _)] at this
  exact this.symm
theorem jcH:∀ ts:List Tr,((jN ts:Nat):Int) = (ts.map fun t=>((jV t:Nat):Int)).sum
  | []=>rfl
  | t :: ts=>by
    show ((jV t + jN ts:Nat):Int) = _
    rw [List.map_cons,List.sum_cons,<- jcH ts]; omega
theorem jdk:∀ t:Tr,1 <= j7 t
  | .leaf _=>Nat.le_refl _
  | .node _ ts=>by show 1 <= 1 + jW ts; omega
theorem Qh {ts:List Tr} {t:Tr} (h:t ∈ ts):j7 t <= jW ts:=by
  induction ts with
  | nil=>cases h
  | cons x ts ih =>
    show j7 t <= max (j7 x) (jW ts)
    rcases List.mem_cons.mp h with e | h
    · subst e; omega
    · have:=ih h; omega
theorem Qg:∀ (as bs:List Tr),jW (as ++ bs) = max (jW as) (jW bs)
  | [],bs=>by show jW bs = max 0 (jW bs); omega
  | a :: as,bs=>by show max (j7 a) (jW (as ++ bs)) = max (max (j7 a) (jW as)) (jW bs); rw [Qg as bs]; omega
theorem qM:∀ (as bs:List Tr),jN (as ++ bs) = jN as + jN bs
  | [],bs=>by show jN bs = 0 + jN bs; omega
  | a :: as,bs=>by show jV a + jN (as ++ bs) = jV a + jN as + jN bs; rw [qM as bs]; omega
noncomputable def All2 {α β:Type} (R:α->β->Prop) (xs:List α) (ys:List β):Prop:=xs.length = ys.length /\ ∀ (i:Nat) (x:α) (y:β),xs[i]? = some x->ys[i]? = some y->R x y
section
variable {α β:Type} {R S:α->β->Prop} {xs xs':List α} {ys ys':List β}
theorem All2.nil:All2 R [] []:=⟨rfl,fun i x y e=>by simp at e⟩
theorem All2.imp (h:All2 R xs ys) (f:∀ x y,y ∈ ys->R x y->S x y):All2 S xs ys:=⟨h.1,fun i x y e1 e2=>f x y (List.mem_of_getElem? e2) (h.2 i x y e1 e2)⟩
theorem All2.append (h:All2 R xs ys) (g:All2 R xs' ys'):All2 R (xs ++ xs') (ys ++ ys'):=by
  refine ⟨by rw [List.length_append,List.length_append,h.1,g.1],fun i x y e1 e2=>?_⟩
  by_cases hi:i < xs.length
  · rw [List.getElem?_append_left hi] at e1
    rw [List.getElem?_append_left (by rw [<- h.1]; exact hi)] at e2
    exact h.2 i x y e1 e2
  · rw [List.getElem?_append_right (by omega)] at e1
    rw [List.getElem?_append_right (by rw [<- h.1]; omega),<- h.1] at e2
    exact g.2 _ x y e1 e2
theorem All2.one {x:α} {y:β} (h:R x y):All2 R [x] [y]:=⟨rfl,fun i a b e1 e2=>by
  match i with
  | 0=>cases e1; cases e2; exact h
  | i + 1=>simp at e1⟩
theorem All2.snoc {x:α} {y:β} (h:All2 R xs ys) (g:R x y):All2 R (xs ++ [x]) (ys ++ [y]):=h.append (.one g)
theorem All2.at {bs:List Addr} {R:Addr->β->Prop} (h:All2 R bs ys) {i:Nat} {v:V} (e:(bs.map V.ref)[i]? = some v):∃ b y,v = .ref b /\ bs[i]? = some b /\ ys[i]? = some y /\ R b y:=by
  rw [List.getElem?_map] at e
  obtain ⟨b,hb,rfl⟩:=Option.map_eq_some_iff.mp e
  have hi:i < bs.length:=(List.getElem?_eq_some_iff.mp hb).1
  have hi':i < ys.length:=by rw [<- h.1]; exact hi
  exact ⟨b,ys[i],rfl,hb,List.getElem?_eq_getElem hi',h.2 i b _ hb (List.getElem?_eq_getElem hi')⟩
end
theorem yd:∀ ts:List Tr,ts.length <= jN ts
  | []=>Nat.le_refl _
  | t :: ts=>by
    have h1:1 <= jV t:=by cases t with | leaf f=>exact Nat.le_refl _ | node a us=>show 1 <= 1 + jN us; omega
    have h2:=yd ts
    show ts.length + 1 <= jV t + jN ts
    omega
theorem qG {ts:List Tr} {t:Tr} (h:t ∈ ts):jV t <= jN ts:=by
  induction ts with
  | nil=>cases h
  | cons x ts ih =>
    show jV t <= jV x + jN ts
    rcases List.mem_cons.mp h with e | h
    · subst e; omega
    · have:=ih h; omega
theorem jh8 (ts:List Tr) (i:Nat) (t:Tr) (h:ts[i]? = some t):jN (ts.take (i + 1)) = jN (ts.take i) + jV t:=by
  rw [List.take_succ,h,qM]; show _ + (jV t + 0) = _; omega
end L2
set_option Elab.async false
set_option linter.all false
set_option maxRecDepth 100000
namespace L2
open PySem PySem.Spec PyProof.Rows
structure jex (m:Int):Prop where
  lo:0 <= m
  hi:m <= 10 ^ 9
noncomputable def Qk:Form->Prop
  | .none=>True
  | .only b m=>1 <= b /\ b <= 63 /\ jex m
  | .some k l m=>1 <= k /\ k <= 63 /\ 1 <= l /\ l <= 6 /\ jex m
  | .most k c m=>1 <= k /\ k <= 63 /\ 1 <= c /\ c <= 6 /\ jex m
noncomputable def Q0:Form->Nat->Int
  | .none,_=>0
  | .only b m,x=>if x &&& b = b then m else 0
  | .some k l m,x=>if l <= (things (x &&& k)).length then m else 0
  | .most k c m,x=>m * (if c < (things (x &&& k)).length then c else (things (x &&& k)).length:Nat)
noncomputable def jew (f:Form) (n:Nat):List Int:=(List.range (2 ^ n)).map (Q0 f)
noncomputable def jaI (x:Nat):List Nat:=(List.range (x + 1)).filter fun p=>decide (x &&& p = p)
theorem jak {x p:Nat}:p ∈ jaI x ↔ x &&& p = p:=by
  unfold jaI
  rw [List.mem_filter,List.mem_range]
  constructor
  · exact fun h=>of_decide_eq_true h.2
  · intro h
    have:p <= x:=by rw [<- h]; exact Nat.and_le_left
    exact ⟨by omega,decide_eq_true h⟩
theorem jjM:∀ y < 64,∀ x ∈ jaI y,∀ p ∈ jaI x,(y - p) &&& (x - p) = x - p:=by decide +kernel
noncomputable def conv (g h:Nat->Int) (x:Nat):Int:=top ((jaI x).map fun p=>g p + h (x - p))
noncomputable def mx (g h:Nat->Int) (x:Nat):Int:=if h x > g x then h x else g x
noncomputable def join (any:Bool) (g h:Nat->Int):Nat->Int:=if any = true then conv g h else mx g h
mutual
noncomputable def Qa:Tr->Nat->Int
  | .leaf f=>Q0 f
  | .node any ts=>qW any ts (fun _=>0)
noncomputable def qW:Bool->List Tr->(Nat->Int)->Nat->Int
  | _,[],g=>g
  | any,t :: ts,g=>qW any ts (join any g (Qa t))
end
theorem jeJ (any:Bool) (t:Tr):∀ (ts:List Tr) (g:Nat->Int),qW any (ts ++ [t]) g = join any (qW any ts g) (Qa t)
  | [],g=>by show qW any [t] g = join any (qW any [] g) (Qa t); rw [qW,qW,qW]
  | u :: ts,g=>by
    show qW any (u :: (ts ++ [t])) g = join any (qW any (u :: ts) g) (Qa t)
    rw [qW,qW,jeJ any t ts]
theorem jar (any:Bool) (ts:List Tr) (i:Nat) (t:Tr) (h:ts[i]? = some t) (g:Nat->Int):qW any (ts.take (i + 1)) g = join any (qW any (ts.take i) g) (Qa t):=by
  rw [List.take_succ,h]; exact jeJ any t _ g
theorem ZZ (any:Bool) (g:Nat->Int):qW any [] g = g:=by rw [qW]
theorem zr (any:Bool) (ts:List Tr):Qa (.node any ts) = qW any ts (fun _=>0):=by rw [Qa]
theorem jbL (f:Form):Qa (.leaf f) = Q0 f:=by rw [Qa]
structure Good (g:Nat->Int):Prop where
  zero:g 0 = 0
  up:∀ x y,y < 64->y &&& x = x->g x <= g y
theorem Good.nonneg {g:Nat->Int} (h:Good g) {x:Nat} (hx:x < 64):0 <= g x:=by
  have:=h.up 0 x hx (Nat.and_zero x)
  rw [h.zero] at this; exact this
theorem sub_lt {x p:Nat} (hx:x < 64) (h:x &&& p = p):p < 64:=by
  have:p <= x:=by rw [<- h]; exact Nat.and_le_left
  omega
theorem jhV {g h:Nat->Int} (hg:Good g) (hh:Good h) {x:Nat} (hx:x < 64) {p:Nat} (hp:x &&& p = p):0 <= g p + h (x - p):=by
  have h1:=hg.nonneg (sub_lt hx hp)
  have h2:=hh.nonneg (show x - p < 64 by omega)
  omega
theorem ji6 {g h:Nat->Int} {x p:Nat} (hp:x &&& p = p):g p + h (x - p) <= conv g h x :=
  (jiV _ 0).2 _ (List.mem_map.mpr ⟨p,jak.mpr hp,rfl⟩)
theorem jgT (g h:Nat->Int) (x:Nat):conv g h x = 0 ∨ ∃ p,x &&& p = p /\ conv g h x = g p + h (x - p):=by
  rcases jjo ((jaI x).map fun p=>g p + h (x - p)) 0 with e | e
  · exact .inl e
  · obtain ⟨p,hp,e⟩:=List.mem_map.mp e
    exact .inr ⟨p,jak.mp hp,e.symm⟩
theorem jjv {g h:Nat->Int} (hg:Good g) (hh:Good h):Good (conv g h):=by
  constructor
  · rcases jgT g h 0 with e | ⟨p,hp,e⟩
    · exact e
    · have:p = 0:=by rw [<- hp]; exact Nat.zero_and p
      subst this
      rw [e,hg.zero,hh.zero]; rfl
  · intro x y hy hs
    rcases jgT g h x with e | ⟨p,hp,e⟩
    · rw [e]; exact jfV _
    · rw [e]
      have h1:=hh.up (x - p) (y - p) (by omega) (jjM y hy x (jak.mpr hs) p (jak.mpr hp))
      have h2:=ji6 (g:=g) (h:=h) (jgK hs hp)
      omega
theorem mx_good {g h:Nat->Int} (hg:Good g) (hh:Good h):Good (mx g h):=by
  constructor
  · unfold mx; rw [hg.zero,hh.zero]; rfl
  · intro x y hy hs
    have h1:=hg.up x y hy hs
    have h2:=hh.up x y hy hs
    unfold mx
    split <;> split <;> omega
theorem jjE (any:Bool) {g h:Nat->Int} (hg:Good g) (hh:Good h):Good (join any g h):=by
  cases any
  · exact mx_good hg hh
  · exact jjv hg hh
theorem good0:Good fun _=>0:=⟨rfl,fun _ _ _ _=>Int.le_refl _⟩
theorem jeV {p q:Nat->Bool}:∀ (l:List Nat),(∀ k ∈ l,p k = true->q k = true)->(l.filter p).length <= (l.filter q).length
  | [],_=>Nat.le_refl _
  | k :: l,h=>by
    have ih:=jeV l (fun j hj=>h j (List.mem_cons_of_mem _ hj))
    have hk:=h k (List.mem_cons_self ..)
    rw [List.filter_cons,List.filter_cons]
    cases e1:p k with
    | true=>rw [hk e1]; show _ + 1 <= _ + 1; omega
    | false =>
      cases e2:q k with
      | true=>show _ <= _ + 1; rw [if_neg (by decide)]; omega
      | false=>rw [if_neg (by decide),if_neg (by decide)]; exact ih
theorem jd1 {x y:Nat} (h:y &&& x = x) (k:Nat):(things (x &&& k)).length <= (things (y &&& k)).length:=by
  refine jeV _ fun i _ e=>?_
  rw [Nat.testBit_and,Bool.and_eq_true] at e ⊢
  exact ⟨jfS.mp h i e.1,e.2⟩
theorem jie {f:Form} (ok:Qk f):Good (Q0 f):=by
  cases f with
  | none=>exact good0
  | only b m =>
    refine ⟨?_,fun x y hy hs=>?_⟩
    · show (if 0 &&& b = b then m else 0) = 0
      rw [Nat.zero_and,if_neg (by have:=ok.1; omega)]
    · show (if x &&& b = b then m else 0) <= if y &&& b = b then m else 0
      have hm:=ok.2.2.lo
      by_cases c:x &&& b = b
      · rw [if_pos c,if_pos (jgK hs c)]; exact Int.le_refl _
      · rw [if_neg c]; split; exact hm; exact Int.le_refl _
  | some k l m =>
    refine ⟨?_,fun x y hy hs=>?_⟩
    · show (if l <= (things (0 &&& k)).length then m else 0) = 0
      rw [Nat.zero_and,if_neg (by have:=ok.2.2.1; show ¬ l <= 0; omega)]
    · show (if l <= (things (x &&& k)).length then m else 0) <= if l <= (things (y &&& k)).length then m else 0
      have hm:=ok.2.2.2.2.lo
      have:=jd1 hs k
      by_cases c:l <= (things (x &&& k)).length
      · rw [if_pos c,if_pos (by omega)]; exact Int.le_refl _
      · rw [if_neg c]; split; exact hm; exact Int.le_refl _
  | most k c m =>
    refine ⟨?_,fun x y hy hs=>?_⟩
    · show m * ((if c < (things (0 &&& k)).length then c else (things (0 &&& k)).length:Nat):Int) = 0
      rw [Nat.zero_and,if_neg (by show ¬ c < 0; omega)]
      show m * 0 = 0
      exact Int.mul_zero m
    · have:=jd1 hs k
      refine Int.mul_le_mul_of_nonneg_left ?_ ok.2.2.2.2.lo
      split <;> split <;> omega
mutual
noncomputable def okT:Tr->Prop
  | .leaf f=>Qk f
  | .node _ ts=>okL ts
noncomputable def okL:List Tr->Prop
  | []=>True
  | t :: ts=>okT t /\ okL ts
end
mutual
theorem ZF:∀ t,okT t->Good (Qa t)
  | .leaf f,h=>by rw [jbL]; rw [okT] at h; exact jie h
  | .node any ts,h=>by rw [zr]; rw [okT] at h; exact Za any ts _ good0 h
theorem Za:∀ any ts g,Good g->okL ts->Good (qW any ts g)
  | _,[],g,hg,_=>by rw [ZZ]; exact hg
  | any,t :: ts,g,hg,h=>by
    rw [okL] at h
    rw [qW]
    exact Za any ts _ (jjE any hg (ZF t h.1)) h.2
end
theorem jgZ:∀ {ts:List Tr},(∀ t ∈ ts,okT t)->okL ts
  | [],_=>by rw [okL]; trivial
  | t :: ts,h=>by rw [okL]; exact ⟨h t (List.mem_cons_self ..),jgZ fun u hu=>h u (List.mem_cons_of_mem _ hu)⟩
theorem Y4:∀ {ts:List Tr},okL ts->∀ t ∈ ts,okT t
  | [],_,t,ht=>by cases ht
  | u :: ts,h,t,ht=>by
    rw [okL] at h
    rcases List.mem_cons.mp ht with e | ht
    · subst e; exact h.1
    · exact Y4 h.2 t ht
theorem je8 {ts:List Tr} (h:okL ts) (i:Nat):okL (ts.take i):=jgZ fun t ht=>Y4 h t (List.mem_of_mem_take ht)
theorem yq {any:Bool} {ts:List Tr}:okT (.node any ts) ↔ okL ts:=by rw [okT]
theorem jbk {f:Form}:okT (.leaf f) ↔ Qk f:=by rw [okT]
theorem All2.mem {α β:Type} {R:α->β->Prop} {xs:List α} {ys:List β} (h:All2 R xs ys) {y:β} (hy:y ∈ ys):∃ x,R x y:=by
  obtain ⟨i,hi,rfl⟩:=List.mem_iff_getElem.mp hy
  have hi':i < xs.length:=by rw [h.1]; exact hi
  exact ⟨xs[i],h.2 i _ _ (List.getElem?_eq_getElem hi') (List.getElem?_eq_getElem hi)⟩
noncomputable def tab (g:Nat->Int) (n:Nat):List Int:=(List.range (2 ^ n)).map g
theorem zb (g:Nat->Int) (n:Nat):(tab g n).length = 2 ^ n:=by unfold tab; rw [List.length_map,List.length_range]
theorem tab_at {g:Nat->Int} {n x:Nat} (h:x < 2 ^ n):(tab g n).getD x 0 = g x:=by
  unfold tab
  rw [List.getD_eq_getElem?_getD,List.getElem?_map,List.getElem?_eq_getElem (by rw [List.length_range]; exact h),List.getElem_range]; rfl
structure Zw (S:Nat->Prop) (v:Nat->Int) (m:Int):Prop where
  nn:0 <= m
  ub:∀ p,S p->v p <= m
  at_:m = 0 ∨ ∃ p,S p /\ v p = m
theorem Zw.uniq {S:Nat->Prop} {v:Nat->Int} {m m':Int} (h:Zw S v m) (h':Zw S v m'):m = m':=by
  have a:m <= m':=by
    rcases h.at_ with e | ⟨p,hp,e⟩
    · rw [e]; exact h'.nn
    · rw [<- e]; exact h'.ub p hp
  have b:m' <= m:=by
    rcases h'.at_ with e | ⟨p,hp,e⟩
    · rw [e]; exact h.nn
    · rw [<- e]; exact h.ub p hp
  omega
theorem Zw.add {S S':Nat->Prop} {v:Nat->Int} {m:Int} (h:Zw S v m) (p:Nat) (hS:∀ q,S' q ↔ S q ∨ q = p):Zw S' v (if v p > m then v p else m):=by
  by_cases c:v p > m
  · rw [if_pos c]
    refine ⟨by have:=h.nn; omega,fun q hq=>?_,.inr ⟨p,(hS p).mpr (.inr rfl),rfl⟩⟩
    rcases (hS q).mp hq with hq | rfl
    · have:=h.ub q hq; omega
    · exact Int.le_refl _
  · rw [if_neg c]
    refine ⟨h.nn,fun q hq=>?_,?_⟩
    · rcases (hS q).mp hq with hq | rfl
      · exact h.ub q hq
      · omega
    · rcases h.at_ with e | ⟨q,hq,e⟩
      · exact .inl e
      · exact .inr ⟨q,(hS q).mpr (.inl hq),e⟩
theorem Zw.eqv {S S':Nat->Prop} {v:Nat->Int} {m:Int} (h:Zw S v m) (hS:∀ q,S' q ↔ S q):Zw S' v m :=
  ⟨h.nn,fun q hq=>h.ub q ((hS q).mp hq),h.at_.imp id fun ⟨q,hq,e⟩=>⟨q,(hS q).mpr hq,e⟩⟩
theorem conv_top (g h:Nat->Int) (x:Nat):Zw (fun p=>x &&& p = p) (fun p=>g p + h (x - p)) (conv g h x) :=
  ⟨jfV _,fun _ hp=>ji6 hp,(jgT g h x).imp id fun ⟨p,hp,e⟩=>⟨p,hp,e.symm⟩⟩
end L2
namespace L2.R
open PySem PySem.Spec PyProof.Rows
variable {X:Cx} {e:Expr} {te:TE} {pos:Pos}
theorem jji {i:Nat} {x:Str} {pos':Pos} (hN:X.N.Nodup) (hi:X.N[i]? = some x) (hx:Loc X.env.scope x) (he:QE X e te) (hs:swapsWith e (some (.Name x pos')) pos.line X.env = pure false:=by rfl) (hf:X.fn x = true ∨ X.env.scope.names.lookup x = some .local:=by first | exact .inl rfl | exact .inr rfl | assumption) :
    QS X (.Assign [.Name x pos'] e pos) (tAsg te (Ye i)):=⟨L2.jO hN hi hx he.h hs hf⟩
end L2.R
set_option Elab.async false
set_option linter.all false
set_option maxRecDepth 100000
namespace L2
open PySem PySem.Spec PyProof.Rows
end L2
set_option Elab.async false
set_option linter.all false
set_option maxRecDepth 100000
namespace L2
open PySem PySem.Spec PyProof.Rows
section
variable {prog:Program} {w:World} {A:Around} {E:Value->Shared->Prop}
end
namespace R
end R
end L2
set_option Elab.async false
set_option linter.all false
set_option maxRecDepth 100000
namespace L2
open PySem PySem.Spec PyProof.Rows PySem.W
section
variable {P:Program} {w:World} {K:PySem.W.Frag} {mg:Str->Option Value} {base:Heap}
end
theorem jev {X:Cx} {body:List Stmt} {h₀:ExceptHandler} {hs:List ExceptHandler} {pos:Pos} {t:TS} (hb:PSs X.nox body t):PS X (.Try body (h₀ :: hs) [] [] pos) t:=by
  intro pins s σ H D I h
  refine wpAny_Try_except (wpAny_mono (hb pins s σ H D (I.wish _) h) (fun f s1 q=>?_) fun _ _ z=>False.elim z)
  have q':=q.jaL
  cases f with
  | next=>exact wpAny_execs_nil q'
  | ret u=>exact q'
  | brk=>exact q'
  | cont=>exact q'
namespace R
section
variable {X:Cx} {e:Expr} {es:List Expr} {te:TE} {t:TA} {pos p:Pos}
theorem jev {body:List Stmt} {h₀:ExceptHandler} {hs:List ExceptHandler} {tb:TS} (hb:QSs X.nox body tb):QS X (.Try body (h₀ :: hs) [] [] pos) tb:=⟨L2.jev hb.h⟩
end
end R
end L2
set_option Elab.async false
set_option linter.all false
set_option maxRecDepth 100000
namespace L2
open PySem PySem.Spec PyProof.Rows PySem.W
section
variable {M:Model} {A:Around} {E:Value->Shared->Prop} {s:Shared} {B:Heap} {env:Env} {outer:List Env} {L e:Addr} {C:Value} {dx:Option Addr} {Q:Unit->Shared->Prop}
end
end L2
set_option Elab.async false
set_option linter.all false
set_option maxRecDepth 100000
namespace L2
open PySem PySem.Spec PyProof.Rows PySem.W
section
variable {prog:Program} {w:World} {A:Around} {E:Value->Shared->Prop} {h:Heap} {g:Array GenState} {d:Drawn} {t:Nat} {os:OsState} {K:Frag}
variable {nm q:Str} {C N:Addr} {bs bm bmB:List Value} {hdct:Bool} {sn:List Str} {sub:List Value} {ab:Bool} {col:Option Bool} {dd:Option Addr} {k0 k1 k2 k3 k5:Option Value} {B newId initId:String}
end
end L2
set_option Elab.async false
set_option linter.all false
set_option maxRecDepth 100000
namespace L2
open PySem PySem.Spec PyProof.Rows PySem.W
end L2
set_option Elab.async false
set_option linter.all false
set_option maxRecDepth 100000
namespace L2
open PySem PySem.Spec PyProof.Rows PySem.W
open Builtin Builtin.ObjectAttr
section
variable {prog:Program} {w:World} {A:Around} {E:Value->Shared->Prop} {h:Heap} {g:Array GenState} {d:Drawn} {t:Nat} {os:OsState} {K:Frag} {C a:Addr}
end
end L2
set_option Elab.async false
set_option linter.all false
set_option maxRecDepth 100000
namespace L2
open PySem PySem.Spec PyProof.Rows PySem.W
open Builtin Builtin.ObjectAttr
section
variable {prog:Program} {w:World} {A:Around} {E:Value->Shared->Prop} {h:Heap} {g:Array GenState} {d:Drawn} {t:Nat} {os:OsState} {K:Frag} {C a dx:Addr} {f:Str} {v:Value}
end
end L2
set_option Elab.async false
set_option linter.all false
set_option maxRecDepth 100000
namespace L2
open PySem PySem.Spec PyProof.Rows PySem.W
section
variable {X:Cx} {D:Addr} {pos p apos:Pos} {e o:Expr} {es:List Expr} {ta:TE} {t:TA}
end
end L2
set_option Elab.async false
set_option linter.all false
set_option maxRecDepth 100000
namespace L2
open PySem PySem.Spec PyProof.Rows PySem.W
noncomputable def tx (l:List Nat):Str:=⟨l.toArray⟩
theorem qZ (l:List Nat):(tx l).cps.toList = l:=by simp [tx]
theorem Ju (l:List Nat):(tx l).length = l.length:=by simp [tx,Str.length]
theorem jhq {l m:List Nat} (h:tx l = tx m):l = m:=by rw [<- qZ l,h,qZ]
theorem jgM (x:Str):x = tx x.cps.toList:=by obtain ⟨a⟩:=x; simp [tx]
theorem qx (l m:List Nat):tx l ++ tx m = tx (l ++ m):=by
  rw [jgM (tx l ++ tx m)]
  congr 1
  show ((tx l).cps ++ (tx m).cps).toList = _
  rw [Array.toList_append,qZ,qZ]
theorem jbQ {X:Cx}:OpR X (compareOp .LtE) (fun x y H Q=>∃ i j,x = .str i /\ y = .str j /\ Q (.bl (!decide (j.cps.toList < i.cps.toList))) H):=by
  rintro pins s σ H x y u v Q I rx ry ⟨i,j,rfl,rfl,q⟩
  obtain ⟨t,rfl⟩:=(show ∃ t,u = Value.str i t from rx)
  obtain ⟨t',rfl⟩:=(show ∃ t',v = Value.str j t' from ry)
  exact P.le_str ⟨.bl _,H,I,rfl,q⟩
noncomputable def cutL (l:List Nat) (lo hi:Option Int):List Nat:=(l.drop (HT.sIx l.length 0 lo)).take (HT.sIx l.length l.length hi - HT.sIx l.length 0 lo)
theorem picked_eq (n:Nat) (lo hi:Option Int):Builtin.Str.strSliceIndices lo hi 1 n = (List.range (HT.sIx n n hi - HT.sIx n 0 lo)).map (HT.sIx n 0 lo + ·):=by
  rw [<- sliceRange_one]
  unfold Builtin.Str.strSliceIndices
  have c:∀ (d:Nat) (o:Option Int),(match o with | none=>(d:Int) | some i=>if (1:Int) > 0 then max 0 (min (if i < 0 then i + (n:Int) else i) (n:Int)) else max (-1) (min (if i < 0 then i + (n:Int) else i) ((n:Int) - 1))) = ((HT.sIx n d o:Nat):Int):=fun d o=>by
    cases o with
    | none=>rfl
    | some i =>
      show (if (1:Int) > 0 then _ else _) = _
      rw [if_pos (by decide)]
      unfold HT.sIx
      by_cases h:i < 0
      · simp only [h,if_true] <;> omega
      · simp only [h,if_false] <;> omega
  have c0:=c 0 lo
  have cn:=c n hi
  dsimp only
  rw [if_pos (by decide),if_pos (by decide)]
  congr 1
theorem jbe (l:List Nat) (lo hi:Option Int):(cutL l lo hi).length <= l.length:=by
  unfold cutL
  rw [List.length_take,List.length_drop]; omega
noncomputable def rSlS:V->Option Int->Option Int->Hp->VK->Prop:=fun x lo hi H Q=>∃ l,x = .str (tx l) /\ l.length <= sizeLine /\ Q (.str (tx (cutL l lo hi))) H
theorem ZP {X:Cx}:SlR X rSlS:=by
  intro pins s σ H x v vl vu lo hi sl Q I rx hs pl pu h
  obtain ⟨l,rfl,hz,q⟩:=h
  obtain ⟨t,rfl⟩:=(show ∃ t,v = Value.str (tx l) t from rx)
  have pt:∀ {w o},IsPart w o->∃ p:Option (Int × Tok),w = partValue p /\ p.map (·.1) = o:=fun p=>by
    cases p with
    | none=>exact ⟨none,rfl,rfl⟩
    | int i t=>exact ⟨some (i,t),rfl,rfl⟩
  obtain ⟨pl1,rfl,el⟩:=pt pl
  obtain ⟨pu1,rfl,eu⟩:=pt pu
  refine ⟨"str",_,F.slot_str_getitem.lookup,typeIs_str _ _ _,wpAny_getItem_str_slice (l:=pl1) (u:=pu1) (st:=none) hs rfl ?_⟩
  have e:(slicePicked (tx l) pl1 pu1 none).filterMap ((tx l).cps[·]?) = cutL l lo hi:=by
    unfold slicePicked
    rw [el,eu]
    show (Builtin.Str.strSliceIndices lo hi 1 (tx l).length).filterMap ((tx l).cps[·]?) = _
    rw [picked_eq,pick_run,qZ,Ju]
    rfl
  have e2:(slicePicked (tx l) pl1 pu1 none).length = (cutL l lo hi).length:=by
    have:slicePicked (tx l) pl1 pu1 none = (List.range (HT.sIx l.length l.length hi - HT.sIx l.length 0 lo)).map (HT.sIx l.length 0 lo + ·):=by
      unfold slicePicked
      rw [el,eu]
      show Builtin.Str.strSliceIndices lo hi 1 (tx l).length = _
      rw [picked_eq,Ju]
    rw [this,List.length_map,List.length_range]
    unfold cutL
    rw [List.length_take,List.length_drop]
    have:=HT.sIx_le l.length l.length (Nat.le_refl _) hi
    omega
  unfold sliceMade
  refine post_val_or_str ?_
  rw [e]
  have fin:(if (((none:Option (Int × Tok)).map (·.1)).getD 1 == 1 && (slicePicked (tx l) pl1 pu1 none).length == (tx l).length) = true then tx l else ⟨(cutL l lo hi).toArray⟩) = tx (cutL l lo hi):=by
    split
    · rename_i z
      rw [Bool.and_eq_true] at z
      have z2:=beq_iff_eq.mp z.2
      rw [e2,Ju] at z2
      congr 1
      have a0:HT.sIx l.length 0 lo = 0 ∨ l = []:=by
        unfold cutL at z2
        rw [List.length_take,List.length_drop] at z2
        have:=HT.sIx_le l.length l.length (Nat.le_refl _) hi
        by_cases hl:l = []
        · exact .inr hl
        · have:0 < l.length:=List.length_pos_iff.mpr hl
          left; omega
      rcases a0 with a0 | a0
      · have:l.length <= HT.sIx l.length l.length hi:=by
          unfold cutL at z2
          rw [a0,List.length_take,List.length_drop] at z2
          omega
        unfold cutL
        rw [a0,List.drop_zero,List.take_of_length_le (by omega)]
      · subst a0; unfold cutL; simp
    · rfl
  rw [fin]
  exact ⟨by rw [Ju]; exact Nat.le_trans (jbe l lo hi) hz,fun t2 k=>⟨.str (tx (cutL l lo hi)),H,I.tok k,⟨t2,rfl⟩,q⟩⟩
end L2
set_option Elab.async false
set_option linter.all false
set_option maxRecDepth 100000
namespace L2
open PySem PySem.Spec PyProof.Rows PySem.W
noncomputable def Ite (K:PySem.W.Frag) (a:Addr):It :=
  ⟨fun i H=>∃ xs x,SqL K H a xs /\ xs[i]? = some x,
   fun i H v H'=>∃ p x,v = .ref p /\ H p = none /\ H' = upd H p (.tup [.int i,x]) /\ ∀ xs,SqL K H a xs->xs[i]? = some x,
   fun i H=>∃ xs,SqL K H a xs /\ xs.length <= i⟩
theorem jj8 {P:Program} {w:World} {K:PySem.W.Frag} {es:List Expr} {kk:Nat} {pos:Pos} (a z i1:Addr) (hne:z ≠ i1) :
    Turn P w K (.Tuple es kk pos) (Ite K a) [z,i1] z (fun i h=>(∃ old,IsEnum h z i1 i old) /\ h.IsListIter i1 a i) where
  mem:=by simp
  obj:=fun i h st c hc=>by
    obtain ⟨⟨old,hz⟩,⟨o1,e1,c1,d1⟩⟩:=st
    simp only [List.mem_cons,List.not_mem_nil,or_false] at hc
    rcases hc with rfl | rfl
    · exact ⟨_,hz,fun v x=>by cases x⟩
    · exact ⟨_,e1,fun v x=>by rw [d1] at x; cases x⟩
  keep:=fun i h h' st k=>by
    obtain ⟨⟨old,hz⟩,h1⟩:=st
    exact ⟨⟨old,k z (by simp) _ hz⟩,h1.at fun o e=>k i1 (by simp) o e⟩
  item:=by
    intro X hP hw hK hc i pins s σ H E I hf st hg
    subst hP hw hK
    obtain ⟨⟨old,hz⟩,h1⟩:=st
    obtain ⟨xs,x,hq1,hx⟩:=hg
    obtain ⟨its,rv,p,hz1⟩:=I.list hq1
    obtain ⟨ux,hux,rux⟩:=rv.get hx
    refine wpAny_pyNext_enum_item hz h1 p.isList (x:=ux) (by simpa using hux) hne fun h' a1 a2 a3 a4 hk=>?_
    have ltz:∀ c ∈ [z,i1],c < s.heap.objs.size:=by
      intro c hc
      simp only [List.mem_cons,List.not_mem_nil,or_false] at hc
      rcases hc with rfl | rfl
      · exact Heap.lt_size hz
      · obtain ⟨_,e,_⟩:=h1; exact Heap.lt_size e
    have I1:Inv X pins σ (upd H s.heap.objs.size (.tup [.int i,x])) { s with heap:=s.heap.push { cls:=.type "tuple",data:=.seq #[.int i s.toks,ux] },toks:=s.toks + 1 }:=by
      refine I.laid (fun c o e=>Heap.get?_push_of_some _ e) (Nat.le_refl _) ⟨by show 2 <= sizeLine; decide,[.int i s.toks,ux],.cons ⟨_,rfl⟩ (.cons rux .nil),?_⟩
      exact ⟨_,Heap.get?_push_size _ rfl,rfl,_,rfl⟩
    have hfr:∀ c ∈ [z,i1],upd H s.heap.objs.size (.tup [.int i,x]) c = none:=fun c hc=>by
      rw [jM (Nat.ne_of_lt (ltz c hc))]; exact (hf c hc).1
    have hf1:∀ c ∈ [z,i1],FpOk X pins (upd H s.heap.objs.size (.tup [.int i,x])) c:=fun c hc=>⟨hfr c hc,(hf c hc).2⟩
    have kk:∀ c o,c ∉ [z,i1]->(s.heap.push { cls:=.type "tuple",data:=.seq #[.int i s.toks,ux] }).get? c = some o->h'.get? c = some o:=fun c o hc e=>by
      rcases Heap.get?_push_cases e with ⟨e9,e8⟩ | e'
      · subst e9 e8; exact a3
      · exact hk c o (fun x=>hc (by simp [x])) (fun x=>hc (by simp [x])) e'
    have I2:Inv X pins σ (upd H s.heap.objs.size (.tup [.int i,x])) { s with heap:=h',toks:=s.toks + 1 }:=by
      have z:=Inv.zP (t':=s.toks + 1) I1 kk hf1
      exact z
    refine ⟨_,rfl,wpAny_letOwnedTupleGo_enum (s:={ s with heap:=h',toks:=s.toks + 1 }) a1 fun h'' hz'' hs''=>?_⟩
    have I3:Inv X pins σ (upd H s.heap.objs.size (.tup [.int i,x])) { s with heap:=h'',toks:=s.toks + 1 }:=by
      have z:=Inv.zP (h':=h'') (t':=s.toks + 1) (ch:=[z]) I2 (fun c o hc e=>hs''.extBut c o (fun q=>hc (by simp [q])) e) (fun c hc=>hf1 c (by simp at hc; simp [hc]))
      exact z
    refine ⟨.ref s.heap.objs.size,_,I3,rfl,⟨_,x,rfl,I.hok.fresh (Nat.le_refl _),rfl,fun zs hzs=>by rw [I.jcN hzs hq1]; exact hx⟩,?_,hfr⟩
    exact ⟨⟨_,by have:=hz''; push_cast; exact this⟩,a2.extBut hs''.extBut (Ne.symm hne)⟩
  done:=by
    intro X hP hw hK hc i pins s σ H E I hf st hg
    subst hP hw hK
    obtain ⟨⟨old,hz⟩,h1⟩:=st
    obtain ⟨xs,hq1,hend⟩:=hg
    obtain ⟨its,rv,p,hz1⟩:=I.list hq1
    have l1:=rv.length
    refine wpAny_pyNext_enum_end (I.ok.hd hc) hz h1 p.isList (by simp; omega) fun h' hk=>⟨rfl,?_⟩
    exact I.zP (t':=s.toks) (ch:=[z,i1]) (fun c o hc e=>hk c o (fun x=>hc (by simp [x])) e) hf
  self:=fun _ _ _ _ _ st h=>by
    obtain ⟨⟨old,hz⟩,_⟩:=st
    exact wpAny_pyIter_enum hz h
noncomputable def iEnum (K:PySem.W.Frag) (ta:TA):TI:=fun σ H R=>ta σ H fun vs H1=>∃ a,vs = [.ref a] /\ (∃ xs,SqL K H1 a xs) /\ R (Ite K a) H1
theorem jhb {X:Cx} {es:List Expr} {kk:Nat} {tp:Pos} {a:Expr} {ta:TA} {p pos:Pos} (hg:Gl X "enumerate") (hm:X.mg "enumerate" = none) (ha:PA X [a] ta) (hs:noStar a = true) :
    PI X (.Tuple es kk tp) (.Call (.Name "enumerate" p) [a] [] pos) (iEnum X.K ta):=by
  intro pins s σ H R I h
  refine Call_ (ZJ I hg hm boot_enumerate (PyProof.Rows.callWith_type1 (thn (ha pos pins s σ H _ I h) fun us s1 zz=>?_) (by rw [Jb hs]) rfl))
  obtain ⟨vs,H1,I1,r1,q1⟩:=zz
  obtain ⟨l1,e,⟨xs,hq1⟩,q⟩:=q1
  subst e
  obtain ⟨u,rfl,ru⟩:=vals1 r1
  cases ru
  obtain ⟨its,rv,p1,_⟩:=I1.list hq1
  refine call_enumerate_list p1.isList fun h' hz hi1 hsz hk=>?_
  refine wpAny_pyIter_enum hz ?_
  refine ⟨s1.heap.objs.size + 1,_,_,_,H1,rfl,I1.kept (t':=s1.toks) hk,jj8 l1 _ _ (Nat.succ_ne_self _),⟨⟨_,hz⟩,hi1⟩,fun c hc=>?_,q⟩
  have hge:s1.heap.objs.size <= c:=by
    simp only [List.mem_cons,List.not_mem_nil,or_false] at hc
    rcases hc with rfl | rfl
    · exact Nat.le_succ _
    · exact Nat.le_refl _
  exact I1.fpOk hge (I1.hok.fresh hge)
theorem for_enum {K:PySem.W.Frag} {a:Addr} {xs:List V} {g:TG} {tb:TS} {D:Ends} {σ:St} {H:Hp} (Pv:Nat->St->Hp->Prop) (h0:Pv 0 σ H) (hl:∀ i σ H,i <= xs.length->Pv i σ H->SqL K H a xs)
    (hs:∀ (i:Nat) x p σ H,xs[i]? = some x->Pv i σ H->H p = none->g (.ref p) σ (upd H p (.tup [.int i,x])) fun σ2 H2=>tb { D with nx:=Pv (i + 1),ct:=Pv (i + 1),bk:=D.nx } σ2 H2) (hd:∀ σ H,Pv xs.length σ H->D.nx σ H) :
    ∃ W:Nat->Nat->St->Hp->Prop,(∃ m,W 0 m σ H) /\ ∀ i m σ H,W i m σ H ->
      ((Ite K a).stop i H /\ D.nx σ H) ∨ ((Ite K a).go i H /\ ∃ N:St->Hp->Prop,(∀ σ' H',N σ' H'->∃ m',m' < m /\ W (i + 1) m' σ' H') /\ ∀ x H',(Ite K a).yld i H x H'->g x σ H' fun σ2 H2=>tb { D with nx:=N,ct:=N,bk:=D.nx } σ2 H2):=by
  refine ⟨fun i m σ H=>m = xs.length - i /\ i <= xs.length /\ Pv i σ H,⟨xs.length,by simp,Nat.zero_le _,h0⟩,?_⟩
  rintro i m σ H ⟨rfl,hi,p⟩
  have q:=hl i σ H hi p
  by_cases hlt:i < xs.length
  · refine .inr ⟨⟨xs,xs[i],q,by simp [hlt]⟩,Pv (i + 1),fun σ' H' p'=>⟨xs.length - (i + 1),by omega,rfl,hlt,p'⟩,fun v H' y=>?_⟩
    obtain ⟨r,x,rfl,hn,rfl,h1⟩:=y
    exact hs i x r σ _ (h1 _ q) p hn
  · have e:i = xs.length:=by omega
    subst e
    exact .inl ⟨⟨xs,q,Nat.le_refl _⟩,hd σ H p⟩
noncomputable def Its (l:List Nat):It:=⟨fun i _=>i < l.length,fun i H v H'=>H' = H /\ ∃ c,l[i]? = some c /\ v = .str (tx [c]),fun i _=>l.length <= i⟩
theorem turn_str {P:Program} {w:World} {K:PySem.W.Frag} {tg:Expr} (l:List Nat) (t:Tok) (it:Addr):Turn P w K tg (Its l) [it] it (fun i h=>h.IsStrIter it "str_ascii_iterator" (tx l) t i) where
  mem:=by simp
  obj:=fun i h st b hb=>by
    have e:b = it:=by simpa using hb
    subst e
    obtain ⟨o,e,c,d⟩:=st
    exact ⟨o,e,fun v z=>by rw [d] at z; cases z⟩
  keep:=fun i h h' st k=>by
    obtain ⟨o,e,c,d⟩:=st
    exact ⟨o,k it (by simp) o e,c,d⟩
  item:=by
    intro X hP hw hK hc i pins s σ H E I hf st hg
    subst hP hw hK
    have hg:i < l.length:=hg
    obtain ⟨f0,f1,f2,f3,f4,f5⟩:=hf it (by simp)
    have hx:(tx l).cps[i]? = some l[i]:=by rw [<- Array.getElem?_toList,qZ]; simp [hg]
    refine wpAny_pyNext_ascii_item st hx fun h' st' sb=>?_
    have I1:Inv X pins σ H { s with heap:=h',toks:=s.toks + 1 }:=I.turned (t':=s.toks + 1) (fun b o hb e=>(sb.2 b hb).trans e) f0 f1 f3 f4 f5
    obtain ⟨o,e,c,d⟩:=id st'
    exact ⟨_,rfl,go_of (s:={ s with heap:=h',toks:=s.toks + 1 }) e c d (by decide) ⟨.str (tx [l[i]]),H,I1,⟨_,rfl⟩,⟨rfl,l[i],by simp [hg],rfl⟩,st',fun b hb=>(hf b hb).1⟩⟩
  done:=by
    intro X hP hw hK hc i pins s σ H E I hf st hg
    subst hP hw hK
    have hg:l.length <= i:=hg
    obtain ⟨f0,f1,f2,f3,f4,f5⟩:=hf it (by simp)
    have hx:(tx l).cps[i]? = none:=by rw [<- Array.getElem?_toList,qZ]; simp [hg]
    exact wpAny_pyNext_ascii_end (I.ok.hd hc) st hx fun h' eb=>⟨rfl,I.turned (t':=s.toks) (fun b o hb e=>eb b o hb e) f0 f1 f3 f4 f5⟩
  self:=fun _ _ _ _ _ st h=>wpAny_pyIter_striter_ascii st h
noncomputable def iStr (tl:TE):TI:=fun σ H R=>tl σ H fun x H1=>∃ l:List Nat,x = .str (tx l) /\ l.all (· < 128) = true /\ R (Its l) H1
theorem jhc {X:Cx} {tg e:Expr} {tl:TE} (hl:PE X e tl):PI X tg e (iStr tl):=by
  intro pins s σ H R I h
  refine thn (hl pins s σ H _ I h) fun v s1 zz=>?_
  obtain ⟨x,H1,I1,r1,l,e,ha,q⟩:=zz
  subst e
  obtain ⟨t,rfl⟩:=(show ∃ t,v = Value.str (tx l) t from r1)
  refine wpAny_pyIter_ascii (by rw [<- Array.all_toList,qZ]; exact ha) ?_
  refine ⟨s1.heap.objs.size,[s1.heap.objs.size],_,_,H1,rfl,I1.kept (t':=s1.toks) fun b o e=>Heap.get?_push_of_some _ e,turn_str l t _,⟨_,Heap.get?_push_size _ rfl,rfl,rfl⟩,fun b hb=>?_,q⟩
  have e:b = s1.heap.objs.size:=by simpa using hb
  subst e
  exact I1.fpOk (Nat.le_refl _) (I1.hok.fresh (Nat.le_refl _))
end L2
set_option Elab.async false
set_option linter.all false
set_option maxRecDepth 100000
namespace L2
open PySem PySem.Spec PyProof.Rows PySem.W
section
variable {X:Cx}
theorem jka {P:Program} {w:World} {kvs:List (Key × V)} {vs:List (Key × Value)} (r:KV kvs vs):∀ (us:List Value),us.length = vs.length->(∀ (j:Nat) (v:Value),us[j]? = some v->∃ (k:Key) (x:Value),vs[j]? = some (k,x) /\ (qH P w).is k v = true)->Vals (kvs.map fun q=>kV q.1) us:=by
  induction r with
  | nil=>intro us hl _; cases us with | nil=>exact .nil | cons=>cases hl
  | cons h t ih =>
    intro us hl hu
    cases us with
    | nil=>cases hl
    | cons u us =>
      obtain ⟨k,x,e,hk⟩:=hu 0 u rfl
      simp only [List.getElem?_cons_zero,Option.some.injEq] at e
      refine .cons ?_ (ih us (by simpa using hl) fun j v hv=>by simpa using hu (j + 1) v (by simpa using hv))
      rename_i p q _ _
      have e1:p.1 = k:=by rw [h.1,e]
      show RelV (kV p.1) u
      rw [e1]
      rcases qb hk with ⟨i,t,rfl,rfl⟩ | ⟨i,t,rfl,rfl⟩
      · exact ⟨t,rfl⟩
      · exact ⟨t,rfl⟩
theorem jgR (hc:X.calm = true):yl X (.type "list") (fun xs H Q=>∃ a kvs,xs = [.ref a] /\ H a = some (.dK kvs) /\ ∀ l,H l = none->Q (.ref l) (upd H l (.lst (kvs.map fun q=>kV q.1)))):=by
  intro pins s σ H xs us Q I r h
  obtain ⟨a,kvs,rfl,ea,q⟩:=h
  obtain ⟨u,rfl,ru⟩:=vals1 r
  cases ru
  obtain ⟨z,lo,vs,rel,hd⟩:qP X.prog X.w H s.heap a (.dK kvs):=I.hok a _ ea
  obtain ⟨ep,hat⟩:=hd.dictAt
  have hlen:kvs.length = vs.length:=Paired.length rel
  refine kdl_call (kdl_dict (knd:=qH X.prog X.w) (kvs:=vs) (ep:=ep) lo) (I.ok.hd hc) hat (by rw [<- hlen]; exact z) fun h' tk acc c hk hl hacc=>?_
  have va:Vals (kvs.map fun q=>kV q.1) acc.toList:=jka (P:=X.prog) (w:=X.w) rel acc.toList (by rw [Array.length_toList]; exact hacc.1) fun j v e=>hacc.2 j v (by rw [<- Array.getElem?_toList]; exact e)
  exact ⟨.ref s.heap.objs.size,_,I.laid (t':=tk) (o:=.lst (kvs.map fun q=>kV q.1)) hk (Nat.le_refl _) ⟨by rw [List.length_map]; exact z,acc.toList,c,va,by rw [Array.toArray_toList]; exact hl⟩,rfl,q _ (I.hok.fresh (Nat.le_refl _))⟩
noncomputable def rEqS (K:PySem.W.Frag) (neg:Bool):R2:=fun x y H Q=>∃ (a b:Addr) (ns ms:List Str),x = .ref a /\ y = .ref b /\ SqL K H a (ns.map V.str) /\ SqL K H b (ms.map V.str) /\ Q (.bl (if neg then !decide (ns = ms) else decide (ns = ms))) H
theorem strs_all:∀ {ns ms:List Str} {us ws:List Value} {A:Around} {s:Shared},Vals (ns.map V.str) us->Vals (ms.map V.str) ws->∀ j (h1:j < us.toArray.size) (h2:j < ws.toArray.size),SeqAt.EqAt A s us.toArray[j] ws.toArray[j] ((ns[j]?).any fun x=>(ms[j]?).any fun y=>x == y):=by
  intro ns ms us ws A s r1 r2 j h1 h2
  have g1:j < us.length:=by simpa using h1
  have g2:j < ws.length:=by simpa using h2
  have l1:=r1.length
  have l2:=r2.length
  rw [List.length_map] at l1 l2
  obtain ⟨x,hx,rx⟩:=jc9 r1 (List.getElem?_eq_getElem g1)
  obtain ⟨y,hy,ry⟩:=jc9 r2 (List.getElem?_eq_getElem g2)
  rw [List.getElem?_map] at hx hy
  obtain ⟨a,ha,rfl⟩:=Option.map_eq_some_iff.mp hx
  obtain ⟨b,hb,rfl⟩:=Option.map_eq_some_iff.mp hy
  rw [ha,hb]
  have:=eqAt_V (A:=A) (s:=s) rx ry rfl rfl
  simpa [eqV] using this
theorem jj7:∀ {ns ms:List Str},ns.length = ms.length->((List.range ns.length).all fun j=>(ns[j]?).any fun x=>(ms[j]?).any fun y=>x == y) = decide (ns = ms):=by
  intro ns ms hl
  by_cases h:ns = ms
  · subst h
    rw [decide_eq_true rfl,List.all_eq_true]
    intro j hj
    have hj:j < ns.length:=List.mem_range.mp hj
    simp [hj]
  · rw [decide_eq_false h,<- Bool.not_eq_true]
    intro q
    refine h (List.ext_getElem? fun j=>?_)
    by_cases hj:j < ns.length
    · have z:=List.all_eq_true.mp q j (List.mem_range.mpr hj)
      have hj2:j < ms.length:=hl ▸ hj
      simp only [List.getElem?_eq_getElem hj,List.getElem?_eq_getElem hj2,Option.any_some,beq_iff_eq] at z ⊢
      rw [z]
    · rw [List.getElem?_eq_none (by omega),List.getElem?_eq_none (by omega)]
theorem op_eqS (hu:X.A.units < cLine):OpR X (compareOp .Eq) (rEqS X.K false):=by
  intro pins s σ H x y v u Q I rx ry h
  obtain ⟨a,b,ns,ms,rfl,rfl,ha,hb,q⟩:=h
  cases rx; cases ry
  obtain ⟨its,r1,p1,_⟩:=I.list ha
  obtain ⟨its2,r2,p2,_⟩:=I.list hb
  have l1:=r1.length
  have l2:=r2.length
  rw [List.length_map] at l1 l2
  by_cases hl:ns.length = ms.length
  · refine SeqAt.RcAt.lists p1.isList p2.isList (by rw [List.size_toArray,List.size_toArray]; omega) hu (fun j h1 h2=>strs_all r1 r2 j h1 h2) _ _ _ _ ?_
    refine ⟨_,H,I,?_,q⟩
    show Value.bool _ = Value.bool (decide (ns = ms))
    rw [List.size_toArray,<- l1,jj7 hl]
  · refine SeqAt.RcAt.lists_lengths p1.isList p2.isList (by rw [List.size_toArray,List.size_toArray]; simp; omega) hu _ _ _ _ ?_
    refine ⟨_,H,I,?_,q⟩
    show Value.bool false = Value.bool (decide (ns = ms))
    rw [decide_eq_false fun e=>hl (by rw [e])]
end
end L2
set_option Elab.async false
set_option linter.all false
set_option maxRecDepth 100000
namespace L2
open PySem PySem.Spec PyProof.Rows PySem.W
section
variable {X:Cx}
theorem op_din (hu:X.A.units + 64 < cLine):OpR X (compareOp .In) (fun y x H Q=>∃ a o,x = .ref a /\ DGet H a y o /\ Q (.bl o.isSome) H):=by
  intro pins s σ H y x v u Q I ry rx h
  obtain ⟨a,o,rfl,g,q⟩:=h
  cases rx
  exact d_in (by omega) I g ry fun s' I'=>⟨.bl _,H,I',rfl,q⟩
theorem jgv (hu:X.A.units + 64 < cLine):OpR X (compareOp .NotIn) (fun y x H Q=>∃ a o,x = .ref a /\ DGet H a y o /\ Q (.bl (!o.isSome)) H):=by
  intro pins s σ H y x v u Q I ry rx h
  obtain ⟨a,o,rfl,g,q⟩:=h
  cases rx
  exact d_notIn (by omega) I g ry fun s' I'=>⟨.bl _,H,I',rfl,q⟩
end
theorem few2 {e f:Expr} {env:Env} {cpos:Pos} (h:noStar e = true) (h2:noStar f = true):((backTo cpos (starEach [e,f] env)).all (fun x=>!x.1) && (backToKw cpos (keywordEach [] env)).all (fun x=>x.1.isSome)
      && decide (([e,f]:List Expr).length + ([]:List Keyword).length + (if ([]:List Keyword).isEmpty then 0 else 1) < 30)) = true:=by
  rw [Jb h,Jb h2]; rfl
section
variable {P:Program} {w:World} {K:PySem.W.Frag} {mg:Str->Option Value} {base:Heap}
end
namespace R
section
variable {X:Cx} {e o i f value:Expr} {es:List Expr} {te to ti tf tv:TE} {t:TA} {pos p apos pos':Pos}
theorem jhb {tes:List Expr} {kk:Nat} {tp:Pos} (hg:Gl X "enumerate") (hm:X.mg "enumerate" = none) (ha:QA X [e] t) (hs:noStar e = true:=by rfl):QI X (.Tuple tes kk tp) (.Call (.Name "enumerate" p) [e] [] pos) (iEnum X.K t):=⟨L2.jhb hg hm ha.h hs⟩
theorem jhc {tg:Expr} (hl:QE X e te):QI X tg e (iStr te):=⟨L2.jhc hl.h⟩
theorem jer (hu:X.A.units + 64 < cLine) (ho:QE X o to) (hi:QE X i ti) (hs:NoSl i:=by intro _ _; rfl):QE X (.Subscript o i pos) (tDGet to ti):=⟨L2.jer (by omega) ho.h hi.h hs⟩
theorem jeu (hu:X.A.units + 64 < cLine) (ho:QE X o to) (hi:QE X i ti) (hv:QE X value tv) (hs:je7 value = true:=by rfl):QS X (.Assign [.Subscript o i pos'] value pos) (sDPut to ti tv):=⟨L2.jeu (by omega) ho.h hi.h hv.h (jc5 hs)⟩
theorem jff {cpos:Pos} (hu:X.A.units + 64 < cLine) (ho:QE X o to) (he:QE X e te) (hf:QE X f tf) (hs:noStar e = true:=by rfl) (hs2:noStar f = true:=by rfl) (hb:attributeBase o "get" X.env (eval o X.env) = eval o X.env:=by rfl) (hl:(apos.endLine == cpos.line) = true:=by rfl) :
    QE X (.Call (.Attribute o "get" apos) [e,f] [] cpos) (tDGet2 to te tf):=⟨L2.jff (by omega) ho.h he.h hf.h ⟨hb,few2 hs hs2,hl,by rw [Jb hs,Jb hs2]; rfl⟩⟩
end
end R
section
variable {l:Addr} {fr:List Nat} {tt:TT} {te:TE} {σ:St} {Q:VK} {H1:Hp}
theorem jcL (xs:List Nat) (p:Nat->Bool) (f:Nat->V) (hn:xs.length <= 100) (hl:H1 l = none)
    (ht:∀ x ∈ xs,∀ H,Same H1 H->∀ C,(∀ H',Same H H'->C (p x) H')->tt (some (.str (tx [x])) :: inner σ fr) H C)
    (he:∀ x ∈ xs,p x = true->∀ H,Same H1 H->∀ C,(∀ H',Same H H'->C (f x) H')->te (some (.str (tx [x])) :: inner σ fr) H C)
    (hd:∀ H,Same H1 H->H l = some (.lst ((xs.filter p).map f))->Q (.ref l) H):yV (Its xs) 1 (Ye 0) fr tt te σ Q H1 l:=by
  refine jeP xs.length (fun k H=>Same H1 H /\ H l = some (.lst (((xs.take k).filter p).map f))) ⟨jA hl _,jm⟩ (fun k H hk _=>hk) (fun H _=>Nat.le_refl _) ?_ fun H ⟨s,e⟩=>hd H s (by rw [List.take_length] at e; exact e)
  rintro k H v H' hk ⟨s,e⟩ ⟨rfl,c,hx,rfl⟩ K1 K0 h1 h0
  have hm:c ∈ xs:=List.mem_of_getElem? hx
  have e':(xs.take (k + 1)).filter p = (xs.take k).filter p ++ (if p c = true then [c] else []):=by
    rw [List.take_add_one,hx,List.filter_append]
    cases hp:p c <;> simp [hp]
  refine ht c hm _ s _ fun H2 s2=>?_
  have eL:H2 l = some (.lst (((xs.take k).filter p).map f)):=s2 _ _ e
  cases hp:p c with
  | false =>
    rw [if_neg (by decide)]
    refine h0 H2 ⟨s.trans s2,?_⟩
    rw [e',hp]; simpa using eL
  | true =>
    rw [if_pos rfl]
    refine he c hm hp H2 (s.trans s2) _ fun H3 s3=>?_
    have e3:H3 l = some (.lst (((xs.take k).filter p).map f)):=s3 _ _ eL
    refine h1 _ H3 _ e3 ?_ ⟨?_,?_⟩
    · rw [List.length_map,sizeLine_eq]
      have:=List.length_filter_le p (xs.take k)
      rw [List.length_take] at this
      omega
    · exact ((s.trans s2).trans s3).upd hl _
    · rw [jm,e',hp]; simp
end
end L2
set_option Elab.async false
set_option linter.all false
set_option maxRecDepth 100000
namespace L2
open PySem PySem.Spec PyProof.Rows PySem.W
end L2
set_option Elab.async false
set_option linter.all false
set_option maxRecDepth 100000
namespace L2
open PySem PySem.Spec PyProof.Rows
theorem jh6:∀ {ns:List Str} {us:List Value},Vals (ns.map V.str) us->∃ l:List (Str × Tok),us = strValues l /\ l.map (·.1) = ns
  | [],_,h=>by
    cases h
    exact ⟨[],rfl,rfl⟩
  | n :: ns,_,h=>by
    cases h with
    | cons r t =>
      obtain ⟨l,rfl,e⟩:=jh6 t
      obtain ⟨tk,rfl⟩:=r
      exact ⟨(n,tk) :: l,rfl,by rw [List.map_cons,e]⟩
noncomputable def tJoin (K:PySem.W.Frag) (to te:TE):TE:=fun σ H Q=>to σ H fun x H1=>∃ sep,x = .str sep /\ te σ H1 fun y H2=>∃ a ns,y = .ref a /\ SqL K H2 a (ns.map V.str) /\ JoinOk sep ns = true /\ Q (.str (Txt.join sep ns)) H2
section
variable {X:Cx} {o e:Expr} {apos cpos pos:Pos} {to te:TE}
theorem jbR (ho:PE X o to) (he:PE X e te) (m:M1 X o "join" apos e cpos):PE X (.Call (.Attribute o "join" apos) [e] [] cpos) (tJoin X.K to te):=by
  intro pins s σ H Q I h
  refine wpAny_Call_method m.base m.few m.line PySem.F.plainAttrs_str PySem.F.slot_str_join PySem.F.type_str_join (thn (ho pins s σ H _ I h) fun u s1 zz=>?_)
  obtain ⟨x,H1,I1,rx,sep,ex,q1⟩:=zz
  subst ex
  obtain ⟨t,rfl⟩:=rx
  refine ⟨typeIs_str _ _ _,(fun _ e=>nomatch e),?_⟩
  rw [m.trees]
  refine Calls.callWith_builtin rfl (Calls.evalArgs_plain (Calls.spliced_cons (thn (he pins s1 σ H1 _ I1 q1) fun iv s2 ⟨y,H2,I2,ry,a,ns,ey,ha,hok,q2⟩=>Calls.spliced_nil ?_)))
  subst ey
  cases ry
  obtain ⟨its,r1,p1,_⟩:=I2.list ha
  obtain ⟨l,rfl,hl⟩:=jh6 r1
  exact SC.join p1.isList hl hok fun t' k=>⟨.str (Txt.join sep ns),H2,I2.tok _,⟨_,rfl⟩,q2⟩
noncomputable def tFs (te:TE):TE:=fun σ H Q=>te σ H fun x H1=>∃ y:Str,x = .str y /\ y.length <= sizeLine /\ Q (.str y) H1
theorem jfg (he:PE X e te):PE X (.FormattedValue e (-1) none pos) (tFs te):=by
  intro pins s σ H Q I q
  refine FormattedValue_plain (thn (he pins s σ H _ I q) fun v s1 ⟨x,H1,I1,r1,y,e,hz,q1⟩=>?_)
  subst e
  obtain ⟨t,rfl⟩:=r1
  exact wpAny_formatField_str ⟨.str y,H1,I1,⟨_,rfl⟩,q1⟩ ⟨.str y,H1,I1.tok _,⟨_,rfl⟩,q1⟩ hz
end
namespace R
section
variable {X:Cx} {o e:Expr} {apos cpos pos:Pos} {to te:TE}
theorem jbR (K:PySem.W.Frag) (ho:QE X o to) (he:QE X e te) (hK:X.K = K:=by rfl) (hs:noStar e = true:=by rfl) (hb:attributeBase o "join" X.env (eval o X.env) = eval o X.env:=by rfl) (hl:(apos.endLine == cpos.line) = true:=by rfl) :
    QE X (.Call (.Attribute o "join" apos) [e] [] cpos) (tJoin K to te):=by
  subst hK
  exact ⟨L2.jbR ho.h he.h ⟨hb,few1 hs,hl,by rw [Jb hs]; rfl⟩⟩
theorem jfg (he:QE X e te):QE X (.FormattedValue e (-1) none pos) (tFs te):=⟨L2.jfg he.h⟩
end
end R
end L2
set_option Elab.async false
set_option linter.all false
set_option maxRecDepth 100000
namespace L2
open PySem PySem.Spec PyProof.Rows
noncomputable def qp (ns:List Str) (b:Nat):Str:=Txt.join (Str.ofString "+") ((things b).map fun k=>ns.getD k Str.empty)
noncomputable def jeW (ns:List Str):Form->Str
  | .none=>Str.ofString "nothing"
  | .only b m=>qp ns b ++ Str.ofString " for " ++ Str.ofString (toString m)
  | .some k l m=>Str.ofString (toString ((l:Nat):Int)) ++ Str.ofString " of " ++ qp ns k ++ Str.ofString " for " ++ Str.ofString (toString m)
  | .most k c m=>Str.ofString "up to " ++ Str.ofString (toString ((c:Nat):Int)) ++ Str.ofString " of " ++ qp ns k ++ Str.ofString " for " ++ Str.ofString (toString m) ++ Str.ofString " each"
noncomputable def jhI (any:Bool):Str:=if any = true then Str.ofString "any(" else Str.ofString "one("
mutual
noncomputable def qN (ns:List Str):Tr->Str
  | .leaf f=>jeW ns f
  | .node any ts=>jhI any ++ Txt.join (Str.ofString "; ") (textL ns ts) ++ Str.ofString ")"
noncomputable def textL (ns:List Str):List Tr->List Str
  | []=>[]
  | t :: ts=>qN ns t :: textL ns ts
end
theorem jbW (ns:List Str):∀ ts:List Tr,textL ns ts = ts.map (qN ns)
  | []=>by rw [textL]; rfl
  | t :: ts=>by rw [textL,jbW ns ts]; rfl
theorem jaK (ns:List Str) (any:Bool) (ts:List Tr):qN ns (.node any ts) = jhI any ++ Txt.join (Str.ofString "; ") (ts.map (qN ns)) ++ Str.ofString ")" := by rw [qN,jbW]
theorem jaJ (ns:List Str) (f:Form):qN ns (.leaf f) = jeW ns f:=by rw [qN]
noncomputable def NsOk (ns:List Str):Prop:=∀ x ∈ ns,x.length <= 20
theorem jis {ns:List Str} (h:NsOk ns) (k:Nat):(ns.getD k Str.empty).length <= 20:=by
  rw [List.getD_eq_getElem?_getD]
  cases e:ns[k]? with
  | none=>show Str.empty.length <= 20; decide
  | some x=>exact h x (List.mem_of_getElem? e)
theorem join_len {sep:Str} {ts:List Str} {B N:Nat} (h:∀ x ∈ ts,x.length <= B) (hn:ts.length <= N):(ts.map (·.length)).sum + ts.length * sep.length <= N * (B + sep.length):=by
  have h1:∀ l:List Str,(∀ x ∈ l,x.length <= B)->(l.map (·.length)).sum <= l.length * B:=by
    intro l
    induction l with
    | nil=>intro _; simp
    | cons x l ih =>
      intro h
      have a:=ih fun y hy=>h y (List.mem_cons_of_mem _ hy)
      have b:=h x (List.mem_cons_self ..)
      rw [List.map_cons,List.sum_cons,List.length_cons,Nat.succ_mul]
      omega
  have a:=h1 ts h
  have b:ts.length * (B + sep.length) <= N * (B + sep.length):=Nat.mul_le_mul_right _ hn
  rw [Nat.mul_add] at b
  omega
theorem joinOk_of {sep:Str} {ts:List Str} (h:(ts.map (·.length)).sum + ts.length * sep.length <= 100000):JoinOk sep ts = true /\ (Txt.join sep ts).length <= (ts.map (·.length)).sum + ts.length * sep.length:=by
  constructor
  · unfold JoinOk Builtin.Str.tooLong
    rw [StrLaws.joinTotal]
    have:¬ ((ts.map (·.length)).sum + ts.length * sep.length > sizeLine):=by rw [sizeLine_eq]; omega
    simp [this]
  · unfold Txt.join
    rw [StrLaws.glued_eq_join]
    exact StrLaws.join_length_le sep ts
theorem qt {ns:List Str} (h:NsOk ns) (b:Nat):JoinOk (Str.ofString "+") ((things b).map fun k=>ns.getD k Str.empty) = true /\ (qp ns b).length <= 130:=by
  have e:=join_len (sep:=Str.ofString "+") (ts:=(things b).map fun k=>ns.getD k Str.empty) (B:=20) (N:=6) (fun x hx=>by
    obtain ⟨k,_,rfl⟩:=List.mem_map.mp hx
    exact jis h k) (by rw [List.length_map]; exact YX b)
  have e1:(Str.ofString "+").length = 1:=rfl
  rw [e1] at e
  obtain ⟨a,c⟩:=joinOk_of (sep:=Str.ofString "+") (ts:=(things b).map fun k=>ns.getD k Str.empty) (by rw [e1]; omega)
  refine ⟨a,?_⟩
  unfold qp
  rw [e1] at c
  omega
theorem qX {m:Int} (h0:0 <= m) (h:m <= 10 ^ 9):(Str.ofString (toString m)).length <= 11:=by
  rw [PySem.ofString_length]
  exact int_text_length_le10 (k:=10) (by decide) (by omega)
theorem YZ {m:Int} (h0:0 <= m) (h:m <= 10 ^ 9):m.natAbs.log2 < 1920:=by
  by_cases z:m.natAbs = 0
  · rw [z]; decide
  · exact (Nat.log2_lt z).mpr (Nat.lt_of_lt_of_le (show m.natAbs < 2 ^ 31 by omega) (Nat.pow_le_pow_right (by decide) (by decide)))
theorem lens:(Str.ofString " for ").length = 5 /\ (Str.ofString " of ").length = 4 /\ (Str.ofString "up to ").length = 6 /\ (Str.ofString " each").length = 5 /\ (Str.ofString "nothing").length = 7 /\ (Str.ofString ")").length = 1 /\ (Str.ofString "; ").length = 2 /\ (Str.ofString "any(").length = 4 /\ (Str.ofString "one(").length = 4:=by decide
theorem form_len {ns:List Str} (h:NsOk ns) {f:Form} (ok:Qk f):(jeW ns f).length <= 200:=by
  obtain ⟨l1,l2,l3,l4,l5,_⟩:=lens
  cases f with
  | none=>show (Str.ofString "nothing").length <= 200; omega
  | only b m =>
    have a:=(qt h b).2
    have c:=qX ok.2.2.lo ok.2.2.hi
    show (qp ns b ++ Str.ofString " for " ++ Str.ofString (toString m)).length <= 200
    rw [strLen_append,strLen_append]; omega
  | some k l m =>
    have a:=(qt h k).2
    have c:=qX ok.2.2.2.2.lo ok.2.2.2.2.hi
    have d:=qX (m:=((l:Nat):Int)) (by omega) (by have:=ok.2.2.2.1; omega)
    show (Str.ofString (toString ((l:Nat):Int)) ++ Str.ofString " of " ++ qp ns k ++ Str.ofString " for " ++ Str.ofString (toString m)).length <= 200
    rw [strLen_append,strLen_append,strLen_append,strLen_append]; omega
  | most k l m =>
    have a:=(qt h k).2
    have c:=qX ok.2.2.2.2.lo ok.2.2.2.2.hi
    have d:=qX (m:=((l:Nat):Int)) (by omega) (by have:=ok.2.2.2.1; omega)
    show (Str.ofString "up to " ++ Str.ofString (toString ((l:Nat):Int)) ++ Str.ofString " of " ++ qp ns k ++ Str.ofString " for " ++ Str.ofString (toString m) ++ Str.ofString " each").length <= 200
    rw [strLen_append,strLen_append,strLen_append,strLen_append,strLen_append,strLen_append]; omega
theorem head_len (any:Bool):(jhI any).length = 4:=by cases any <;> rfl
mutual
theorem text_len {ns:List Str} (h:NsOk ns):∀ t:Tr,okT t->jV t <= 100->(qN ns t).length + 2 <= 220 * jV t
  | .leaf f,ok,_=>by
    rw [jaJ]
    have:=form_len h (jbk.mp ok)
    show _ <= 220 * 1
    omega
  | .node any ts,ok,few=>by
    have few':1 + jN ts <= 100:=few
    have ih:=jdQ h ts (Y4 (yq.mp ok)) (by omega)
    obtain ⟨_,_,_,_,_,l6,l7,_⟩:=lens
    rw [qN,strLen_append,strLen_append,head_len,l6]
    have hl:(textL ns ts).length = ts.length:=by rw [jbW,List.length_map]
    have e:((textL ns ts).map (·.length)).sum + (textL ns ts).length * (Str.ofString "; ").length <= 220 * jN ts:=by rw [l7]; exact ih
    have:=(joinOk_of (sep:=Str.ofString "; ") (ts:=textL ns ts) (by omega)).2
    show _ <= 220 * (1 + jN ts)
    omega
theorem jdQ {ns:List Str} (h:NsOk ns):∀ ts:List Tr,(∀ t ∈ ts,okT t)->jN ts <= 100->((textL ns ts).map (·.length)).sum + (textL ns ts).length * 2 <= 220 * jN ts
  | [],_,_=>by rw [textL]; exact Nat.zero_le _
  | t :: ts,ok,few=>by
    have few':jV t + jN ts <= 100:=few
    have a:=text_len h t (ok t (List.mem_cons_self ..)) (by omega)
    have b:=jdQ h ts (fun u hu=>ok u (List.mem_cons_of_mem _ hu)) (by omega)
    rw [textL,List.map_cons,List.sum_cons,List.length_cons,Nat.succ_mul]
    show _ <= 220 * (jV t + jN ts)
    omega
end
theorem jbX {ns:List Str} (h:NsOk ns) {ts:List Tr} (ok:∀ t ∈ ts,okT t) (few:jN ts <= 100):JoinOk (Str.ofString "; ") (ts.map (qN ns)) = true /\ (Txt.join (Str.ofString "; ") (ts.map (qN ns))).length <= 22000:=by
  obtain ⟨_,_,_,_,_,l6,l7,_⟩:=lens
  have ih:=jdQ h ts ok few
  rw [jbW] at ih
  have e:((ts.map (qN ns)).map (·.length)).sum + (ts.map (qN ns)).length * (Str.ofString "; ").length <= 22000:=by rw [l7]; omega
  obtain ⟨a,b⟩:=joinOk_of (sep:=Str.ofString "; ") (ts:=ts.map (qN ns)) (by omega)
  exact ⟨a,by omega⟩
noncomputable def Sub (x m:Nat):Prop:=x ||| (2 ^ m - 1) = 2 ^ m - 1
theorem Sub.of_or {x y m:Nat} (h:Sub (x ||| y) m):Sub x m /\ Sub y m:=by
  unfold Sub at *
  have key:∀ i,(x.testBit i = true->(2 ^ m - 1).testBit i = true) /\ (y.testBit i = true->(2 ^ m - 1).testBit i = true):=fun i=>by
    have:=congrArg (fun z=>z.testBit i) h
    simp only [Nat.testBit_or] at this
    constructor <;> intro z
    · rw [z,Bool.true_or,Bool.true_or] at this; exact this.symm
    · rw [z,Bool.or_true,Bool.true_or] at this; exact this.symm
  constructor
  · refine Nat.eq_of_testBit_eq fun i=>?_
    rw [Nat.testBit_or]
    cases e:x.testBit i with
    | false=>rfl
    | true=>rw [(key i).1 e]; rfl
  · refine Nat.eq_of_testBit_eq fun i=>?_
    rw [Nat.testBit_or]
    cases e:y.testBit i with
    | false=>rfl
    | true=>rw [(key i).2 e]; rfl
theorem jbI:∀ m < 7,∀ b < 64,b ||| (2 ^ m - 1) = 2 ^ m - 1->∀ k ∈ things b,k < m:=by decide +kernel
theorem Sub.mem {m:Nat}:∀ {ts:List Tr},Sub (Jg ts) m->∀ t ∈ ts,Sub (Ja t) m
  | [],_,t,ht=>by cases ht
  | u :: ts,h,t,ht=>by
    obtain ⟨a,b⟩:=Sub.of_or (show Sub (Ja u ||| Jg ts) m from h)
    rcases List.mem_cons.mp ht with rfl | ht
    · exact a
    · exact Sub.mem b t ht
end L2
set_option Elab.async false
set_option linter.all false
set_option maxRecDepth 100000
namespace L2
open PySem PySem.Spec PyProof.Rows PySem.W Builtin Builtin.Str
section
variable {prog:Program} {w:World} {A:Around} {E:Value->Shared->Prop} {s:Shared} {x y:Str} {t u:Tok} {Q:Value->Shared->Prop}
theorem jgy (x:Str) (cuts:List Nat) (k:Nat):(partsBetween x cuts k).length = cuts.length + 1:=by
  unfold partsBetween
  rw [List.length_map,List.length_zip]
  simp
theorem call_cut (hy:(y.length == 0) = false) (hx:x.length + 2 <= sizeLine)
    (h:∀ (l:List (Str × Tok)) (k:Tok),l.map (·.1) = Txt.split x y->l.length <= x.length + 2->Q (.ref s.heap.objs.size) { s with heap:=s.heap.push { cls:=.type "list",data:=.seq (strValues l).toArray },toks:=k }) :
    wpAny (model prog w) A (call (.builtin "str.split") [.str x t,.str y u]) Q E s:=by
  have hocc:=StrLaws.occ_length_le x y 0 x.length (x.length + 1)
  by_cases h1:(decide (x.length < y.length) || decide (strKind x < strKind y)) = true
  · refine call_meets F.slot_str_split (typeIs_str _ _ _) F.entry_str_split (F.args_str_split_2 _ _) (meets_str_split_cannot_occur x y t u h1) ?_
    exact h [(x,t)] s.toks (by unfold Txt.split; rw [if_pos h1]; rfl) (by simp)
  have h1':=eq_false_of_ne_true h1
  by_cases hf:(occurrences x y 0 x.length (x.length + 1)).isEmpty = true
  · refine call_meets F.slot_str_split (typeIs_str _ _ _) F.entry_str_split (F.args_str_split_2 _ _) (meets_str_split_not_found x y t u h1' hy hf) ?_
    exact h [(x,t)] s.toks (by unfold Txt.split; rw [if_neg h1,if_pos hf]; rfl) (by simp)
  have hf':=eq_false_of_ne_true hf
  have hp:(partsBetween x (occurrences x y 0 x.length (x.length + 1)) y.length).length <= x.length + 2:=by rw [jgy]; omega
  refine call_meets F.slot_str_split (typeIs_str _ _ _) F.entry_str_split (F.args_str_split_2 _ _) (meets_str_split_sep x y t u h1' hy hf' (by omega) (by omega)) ?_
  show wants Q E _ _
  rw [strsFrom_eq]
  refine h (numbered s.toks _) _ ?_ ?_
  · unfold Txt.split; rw [if_neg h1,if_neg hf]; exact numbered_texts _ _
  · rw [<- List.length_map (f:=(·.1)),numbered_texts]; exact hp
end
theorem jgJ:∀ l:List (Str × Tok),Vals ((l.map (·.1)).map V.str) (strValues l)
  | []=>.nil
  | (x,t) :: l=>.cons ⟨t,rfl⟩ (jgJ l)
section
variable {X:Cx} {o e f:Expr} {apos cpos pos p:Pos} {to te tf:TE}
noncomputable def jjm (to te:TE):TE:=fun σ H Q=>to σ H fun x H1=>∃ z,x = .str z /\ te σ H1 fun y H2=>∃ q,y = .str q /\ Q (.bl (Txt.startswith z q)) H2
noncomputable def tEnds (to te:TE):TE:=fun σ H Q=>to σ H fun x H1=>∃ z,x = .str z /\ te σ H1 fun y H2=>∃ q,y = .str q /\ Q (.bl (Txt.endswith z q)) H2
noncomputable def jh7 (to te tf:TE):TE:=fun σ H Q=>to σ H fun x H1=>∃ z,x = .str z /\ te σ H1 fun y H2=>∃ q,y = .str q /\ tf σ H2 fun v H3=>∃ i,v = .int i /\ Q (.bl (Txt.startswith3 z q i)) H3
noncomputable def tSplit (to te:TE):TE:=fun σ H Q=>to σ H fun x H1=>∃ z,x = .str z /\ z.length <= 100000 /\ te σ H1 fun y H2=>∃ q,y = .str q /\ (q.length == 0) = false /\ ∀ l,H2 l = none->Q (.ref l) (upd H2 l (.lst ((Txt.split z q).map V.str)))
theorem zU (ho:PE X o to) (he:PE X e te) (m:M1 X o "startswith" apos e cpos):PE X (.Call (.Attribute o "startswith" apos) [e] [] cpos) (jjm to te):=by
  intro pins s σ H Q I h
  refine wpAny_Call_method m.base m.few m.line PySem.F.plainAttrs_str PySem.F.slot_str_startswith PySem.F.type_str_startswith (thn (ho pins s σ H _ I h) fun u s1 zz=>?_)
  obtain ⟨x,H1,I1,rx,z,ex,q1⟩:=zz
  subst ex
  obtain ⟨t,rfl⟩:=rx
  refine ⟨typeIs_str _ _ _,(fun _ e=>nomatch e),?_⟩
  rw [m.trees]
  refine Calls.callWith_builtin rfl (Calls.evalArgs_plain (Calls.spliced_cons (thn (he pins s1 σ H1 _ I1 q1) fun iv s2 ⟨y,H2,I2,ry,q,ey,q2⟩=>Calls.spliced_nil ?_)))
  subst ey
  obtain ⟨t2,rfl⟩:=ry
  exact SC.startswith ⟨.bl _,H2,I2,rfl,q2⟩
theorem jes (ho:PE X o to) (he:PE X e te) (m:M1 X o "endswith" apos e cpos):PE X (.Call (.Attribute o "endswith" apos) [e] [] cpos) (tEnds to te):=by
  intro pins s σ H Q I h
  refine wpAny_Call_method m.base m.few m.line PySem.F.plainAttrs_str PySem.F.slot_str_endswith PySem.F.type_str_endswith (thn (ho pins s σ H _ I h) fun u s1 zz=>?_)
  obtain ⟨x,H1,I1,rx,z,ex,q1⟩:=zz
  subst ex
  obtain ⟨t,rfl⟩:=rx
  refine ⟨typeIs_str _ _ _,(fun _ e=>nomatch e),?_⟩
  rw [m.trees]
  refine Calls.callWith_builtin rfl (Calls.evalArgs_plain (Calls.spliced_cons (thn (he pins s1 σ H1 _ I1 q1) fun iv s2 ⟨y,H2,I2,ry,q,ey,q2⟩=>Calls.spliced_nil ?_)))
  subst ey
  obtain ⟨t2,rfl⟩:=ry
  exact SC.endswith ⟨.bl _,H2,I2,rfl,q2⟩
theorem jct (ho:PE X o to) (he:PE X e te) (hf:PE X f tf) (m:M2 X o "startswith" apos e f cpos):PE X (.Call (.Attribute o "startswith" apos) [e,f] [] cpos) (jh7 to te tf):=by
  intro pins s σ H Q I h
  refine wpAny_Call_method m.base m.few m.line PySem.F.plainAttrs_str PySem.F.slot_str_startswith PySem.F.type_str_startswith (thn (ho pins s σ H _ I h) fun u s1 zz=>?_)
  obtain ⟨x,H1,I1,rx,z,ex,q1⟩:=zz
  subst ex
  obtain ⟨t,rfl⟩:=rx
  refine ⟨typeIs_str _ _ _,(fun _ e=>nomatch e),?_⟩
  rw [m.trees]
  refine Calls.callWith_builtin rfl (Calls.evalArgs_plain (Calls.spliced_cons (thn (he pins s1 σ H1 _ I1 q1) fun iv s2 ⟨y,H2,I2,ry,q,ey,q2⟩ =>
    Calls.spliced_cons (thn (hf pins s2 σ H2 _ I2 q2) fun fv s3 ⟨v,H3,I3,rv,i,ei,q3⟩=>Calls.spliced_nil ?_))))
  subst ey ei
  obtain ⟨t2,rfl⟩:=ry
  obtain ⟨t3,rfl⟩:=rv
  exact SC.startswith3 ⟨.bl _,H3,I3,rfl,q3⟩
theorem jcX (ho:PE X o to) (he:PE X e te) (m:M1 X o "split" apos e cpos):PE X (.Call (.Attribute o "split" apos) [e] [] cpos) (tSplit to te):=by
  intro pins s σ H Q I h
  refine wpAny_Call_method m.base m.few m.line PySem.F.plainAttrs_str PySem.F.slot_str_split PySem.F.type_str_split (thn (ho pins s σ H _ I h) fun u s1 zz=>?_)
  obtain ⟨x,H1,I1,rx,z,ex,hz,q1⟩:=zz
  subst ex
  obtain ⟨t,rfl⟩:=rx
  refine ⟨typeIs_str _ _ _,(fun _ e=>nomatch e),?_⟩
  rw [m.trees]
  refine Calls.callWith_builtin rfl (Calls.evalArgs_plain (Calls.spliced_cons (thn (he pins s1 σ H1 _ I1 q1) fun iv s2 ⟨y,H2,I2,ry,q,ey,hq,q2⟩=>Calls.spliced_nil ?_)))
  subst ey
  obtain ⟨t2,rfl⟩:=ry
  refine call_cut hq (by rw [sizeLine_eq]; omega) fun l k el hl=>?_
  have ev:Vals ((Txt.split z q).map V.str) (strValues l):=by rw [<- el]; exact jgJ l
  refine ⟨.ref s2.heap.objs.size,_,I2.laid (t':=k) (o:=.lst ((Txt.split z q).map V.str)) (fun c o e=>Heap.get?_push_of_some _ e) (Nat.le_refl _) ⟨?_,strValues l,0,ev,?_⟩,rfl,q2 _ (I2.hok.fresh (Nat.le_refl _))⟩
  · have:=congrArg List.length el
    rw [List.length_map] at this
    rw [List.length_map,<- this,sizeLine_eq]; omega
  · exact Heap.get?_push_size _ rfl
theorem jgQ:yl X (.type "int") (fun xs H Q=>∃ n:Int,xs = [.str (Str.ofString (toString n))] /\ 0 <= n /\ n < 10 ^ 10 /\ Q (.int n) H):=by
  intro pins s σ H xs us Q I r h
  obtain ⟨n,rfl,h0,h1,q⟩:=h
  obtain ⟨u,rfl,ru⟩:=vals1 r
  obtain ⟨t,rfl⟩:=ru
  exact KIN.call_num h0 h1 ⟨.int n,H,I.tok _,⟨_,rfl⟩,q⟩
end
noncomputable def Itq (l:List Nat):It :=
  ⟨fun i _=>i < l.length,fun i H v H'=>∃ p c,v = .ref p /\ H p = none /\ l[i]? = some c /\ H' = upd H p (.tup [.int i,.str (tx [c])]),fun i _=>l.length <= i⟩
theorem jiW {P:Program} {w:World} {K:PySem.W.Frag} {es:List Expr} {kk:Nat} {pos:Pos} (l:List Nat) (t:Tok) (z i1:Addr) (hne:z ≠ i1) :
    Turn P w K (.Tuple es kk pos) (Itq l) [z,i1] z (fun i h=>i <= l.length /\ (∃ old,IsEnum h z i1 i old) /\ h.IsStrIter i1 "str_ascii_iterator" (tx l) t i) where
  mem:=by simp
  obj:=fun i h st c hc=>by
    obtain ⟨_,⟨old,hz⟩,⟨o1,e1,c1,d1⟩⟩:=st
    simp only [List.mem_cons,List.not_mem_nil,or_false] at hc
    rcases hc with rfl | rfl
    · exact ⟨_,hz,fun v x=>by cases x⟩
    · exact ⟨_,e1,fun v x=>by rw [d1] at x; cases x⟩
  keep:=fun i h h' st k=>by
    obtain ⟨hi,⟨old,hz⟩,⟨o1,e1,c1,d1⟩⟩:=st
    exact ⟨hi,⟨old,k z (by simp) _ hz⟩,⟨o1,k i1 (by simp) o1 e1,c1,d1⟩⟩
  item:=by
    intro X hP hw hK hc i pins s σ H E I hf st hg
    subst hP hw hK
    have hg:i < l.length:=hg
    obtain ⟨_,⟨old,hz⟩,h1⟩:=st
    have hsz:(tx l).cps.size = l.length:=Ju l
    refine wpAny_pyNext_enum_itemD (Draws.strAscii (A:=X.A.in1) (I.ok.hd hc) i1 (tx l) t) hz h1 (by rw [hsz]; exact hg) hne (by simpa using hne) fun ux h' tk hP a1 a2 a3 a4 hk=>?_
    obtain ⟨c,u,hcx,rfl⟩:=hP
    have hcl:l[i]? = some c:=by rw [<- Array.getElem?_toList,qZ] at hcx; exact hcx
    have ltz:∀ b ∈ [z,i1],b < s.heap.objs.size:=by
      intro b hb
      simp only [List.mem_cons,List.not_mem_nil,or_false] at hb
      rcases hb with rfl | rfl
      · exact Heap.lt_size hz
      · obtain ⟨_,e,_⟩:=h1; exact Heap.lt_size e
    have I1:Inv X pins σ (upd H s.heap.objs.size (.tup [.int i,.str (tx [c])])) { s with heap:=s.heap.push { cls:=.type "tuple",data:=.seq #[.int i tk,.str ⟨#[c]⟩ u] },toks:=tk + 1 }:=by
      refine I.laid (fun c o e=>Heap.get?_push_of_some _ e) (Nat.le_refl _) ⟨by show 2 <= sizeLine; decide,[.int i tk,.str ⟨#[c]⟩ u],.cons ⟨_,rfl⟩ (.cons ⟨_,rfl⟩ .nil),?_⟩
      exact ⟨_,Heap.get?_push_size _ rfl,rfl,_,rfl⟩
    have hfr:∀ b ∈ [z,i1],upd H s.heap.objs.size (.tup [.int i,.str (tx [c])]) b = none:=fun b hb=>by
      rw [jM (Nat.ne_of_lt (ltz b hb))]; exact (hf b hb).1
    have hf1:∀ b ∈ [z,i1],FpOk X pins (upd H s.heap.objs.size (.tup [.int i,.str (tx [c])])) b:=fun b hb=>⟨hfr b hb,(hf b hb).2⟩
    have kk:∀ b o,b ∉ [z,i1]->(s.heap.push { cls:=.type "tuple",data:=.seq #[.int i tk,.str ⟨#[c]⟩ u] }).get? b = some o->h'.get? b = some o:=fun b o hb e=>by
      rcases Heap.get?_push_cases e with ⟨e9,e8⟩ | e'
      · subst e9 e8; exact a3
      · exact hk b o (fun x=>hb (by simp [x])) (fun x=>hb (by simp [x])) e'
    have I2:Inv X pins σ (upd H s.heap.objs.size (.tup [.int i,.str (tx [c])])) { s with heap:=h',toks:=tk + 1 }:=by
      have z:=Inv.zP (t':=tk + 1) I1 kk hf1
      exact z
    refine ⟨_,rfl,wpAny_letOwnedTupleGo_enum (s:={ s with heap:=h',toks:=tk + 1 }) a1 fun h'' hz'' hs''=>?_⟩
    have I3:Inv X pins σ (upd H s.heap.objs.size (.tup [.int i,.str (tx [c])])) { s with heap:=h'',toks:=tk + 1 }:=by
      have z:=Inv.zP (h':=h'') (t':=tk + 1) (ch:=[z]) I2 (fun b o hb e=>hs''.extBut b o (fun q=>hb (by simp [q])) e) (fun b hb=>hf1 b (by simp at hb; simp [hb]))
      exact z
    refine ⟨.ref s.heap.objs.size,_,I3,rfl,⟨_,c,rfl,I.hok.fresh (Nat.le_refl _),hcl,rfl⟩,?_,hfr⟩
    exact ⟨hg,⟨_,by have:=hz''; push_cast; exact this⟩,a2.extBut hs''.extBut (Ne.symm hne)⟩
  done:=by
    intro X hP hw hK hc i pins s σ H E I hf st hg
    subst hP hw hK
    have hg:l.length <= i:=hg
    obtain ⟨hi,⟨old,hz⟩,h1⟩:=st
    have e:i = (tx l).cps.size:=by rw [show (tx l).cps.size = l.length from Ju l]; omega
    subst e
    refine wpAny_pyNext_enum_endD (Draws.strAscii (A:=X.A.in1) (I.ok.hd hc) i1 (tx l) t) hz h1 fun h' hk=>⟨rfl,?_⟩
    exact I.zP (t':=s.toks) (ch:=[z,i1]) (fun c o hc e=>hk c o (fun x=>hc (by simp [x])) e) hf
  self:=fun _ _ _ _ _ st h=>by
    obtain ⟨_,⟨old,hz⟩,_⟩:=st
    exact wpAny_pyIter_enum hz h
noncomputable def iEnumS (ta:TA):TI:=fun σ H R=>ta σ H fun vs H1=>∃ l:List Nat,vs = [.str (tx l)] /\ l.all (· < 128) = true /\ R (Itq l) H1
theorem jfj {X:Cx} {es:List Expr} {kk:Nat} {tp:Pos} {a:Expr} {ta:TA} {p pos:Pos} (hg:Gl X "enumerate") (hm:X.mg "enumerate" = none) (ha:PA X [a] ta) (hs:noStar a = true) :
    PI X (.Tuple es kk tp) (.Call (.Name "enumerate" p) [a] [] pos) (iEnumS ta):=by
  intro pins s σ H R I h
  refine Call_ (ZJ I hg hm boot_enumerate (PyProof.Rows.callWith_type1 (thn (ha pos pins s σ H _ I h) fun us s1 zz=>?_) (by rw [Jb hs]) rfl))
  obtain ⟨vs,H1,I1,r1,q1⟩:=zz
  obtain ⟨l,e,hasc,q⟩:=q1
  subst e
  obtain ⟨u,rfl,ru⟩:=vals1 r1
  obtain ⟨t,rfl⟩:=ru
  refine call_enumerate_str fun h' hz hi1 hsz hk=>?_
  have hty:strIterType (tx l) = "str_ascii_iterator" := by
    unfold strIterType
    rw [show (tx l).cps.all (· < 128) = true from by rw [<- Array.all_toList,qZ]; exact hasc]; rfl
  rw [hty] at hi1
  refine wpAny_pyIter_enum hz ?_
  refine ⟨s1.heap.objs.size + 1,_,_,_,H1,rfl,I1.kept (t':=s1.toks) hk,jiW l t _ _ (Nat.succ_ne_self _),⟨Nat.zero_le _,⟨_,hz⟩,hi1⟩,fun c hc=>?_,q⟩
  have hge:s1.heap.objs.size <= c:=by
    simp only [List.mem_cons,List.not_mem_nil,or_false] at hc
    rcases hc with rfl | rfl
    · exact Nat.le_succ _
    · exact Nat.le_refl _
  exact I1.fpOk hge (I1.hok.fresh hge)
theorem jjA {l:List Nat} {g:TG} {tb:TS} {D:Ends} {σ:St} {H:Hp} (Pv:Nat->St->Hp->Prop) (h0:Pv 0 σ H)
    (hs:∀ (i:Nat) c p σ H,l[i]? = some c->Pv i σ H->H p = none->g (.ref p) σ (upd H p (.tup [.int i,.str (tx [c])])) fun σ2 H2=>tb { D with nx:=Pv (i + 1),ct:=Pv (i + 1),bk:=D.nx } σ2 H2) (hd:∀ σ H,Pv l.length σ H->D.nx σ H) :
    ∃ W:Nat->Nat->St->Hp->Prop,(∃ m,W 0 m σ H) /\ ∀ i m σ H,W i m σ H ->
      ((Itq l).stop i H /\ D.nx σ H) ∨ ((Itq l).go i H /\ ∃ N:St->Hp->Prop,(∀ σ' H',N σ' H'->∃ m',m' < m /\ W (i + 1) m' σ' H') /\ ∀ x H',(Itq l).yld i H x H'->g x σ H' fun σ2 H2=>tb { D with nx:=N,ct:=N,bk:=D.nx } σ2 H2):=by
  refine ⟨fun i m σ H=>m = l.length - i /\ i <= l.length /\ Pv i σ H,⟨l.length,by simp,Nat.zero_le _,h0⟩,?_⟩
  rintro i m σ H ⟨rfl,hi,p⟩
  by_cases hlt:i < l.length
  · refine .inr ⟨hlt,Pv (i + 1),fun σ' H' p'=>⟨l.length - (i + 1),by omega,rfl,hlt,p'⟩,fun v H' y=>?_⟩
    obtain ⟨r,c,rfl,hn,hc,rfl⟩:=y
    exact hs i c r σ _ hc p hn
  · have e:i = l.length:=by omega
    subst e
    exact .inl ⟨Nat.le_refl _,hd σ H p⟩
namespace R
section
variable {X:Cx} {o e f:Expr} {apos cpos pos p:Pos} {to te tf:TE} {t:TA}
theorem zU (ho:QE X o to) (he:QE X e te) (hs:noStar e = true:=by rfl) (hb:attributeBase o "startswith" X.env (eval o X.env) = eval o X.env:=by rfl) (hl:(apos.endLine == cpos.line) = true:=by rfl) :
    QE X (.Call (.Attribute o "startswith" apos) [e] [] cpos) (jjm to te):=⟨L2.zU ho.h he.h ⟨hb,few1 hs,hl,by rw [Jb hs]; rfl⟩⟩
theorem jes (ho:QE X o to) (he:QE X e te) (hs:noStar e = true:=by rfl) (hb:attributeBase o "endswith" X.env (eval o X.env) = eval o X.env:=by rfl) (hl:(apos.endLine == cpos.line) = true:=by rfl) :
    QE X (.Call (.Attribute o "endswith" apos) [e] [] cpos) (tEnds to te):=⟨L2.jes ho.h he.h ⟨hb,few1 hs,hl,by rw [Jb hs]; rfl⟩⟩
theorem jcX (ho:QE X o to) (he:QE X e te) (hs:noStar e = true:=by rfl) (hb:attributeBase o "split" X.env (eval o X.env) = eval o X.env:=by rfl) (hl:(apos.endLine == cpos.line) = true:=by rfl) :
    QE X (.Call (.Attribute o "split" apos) [e] [] cpos) (tSplit to te):=⟨L2.jcX ho.h he.h ⟨hb,few1 hs,hl,by rw [Jb hs]; rfl⟩⟩
theorem jct (ho:QE X o to) (he:QE X e te) (hf:QE X f tf) (hs:noStar e = true:=by rfl) (hs2:noStar f = true:=by rfl) (hb:attributeBase o "startswith" X.env (eval o X.env) = eval o X.env:=by rfl) (hl:(apos.endLine == cpos.line) = true:=by rfl) :
    QE X (.Call (.Attribute o "startswith" apos) [e,f] [] cpos) (jh7 to te tf):=⟨L2.jct ho.h he.h hf.h ⟨hb,few2 hs hs2,hl,by rw [Jb hs,Jb hs2]; rfl⟩⟩
theorem jfj {tes:List Expr} {kk:Nat} {tp:Pos} (hg:Gl X "enumerate") (hm:X.mg "enumerate" = none) (ha:QA X [e] t) (hs:noStar e = true:=by rfl):QI X (.Tuple tes kk tp) (.Call (.Name "enumerate" p) [e] [] pos) (iEnumS t):=⟨L2.jfj hg hm ha.h hs⟩
end
end R
end L2
set_option Elab.async false
set_option linter.all false
set_option maxRecDepth 100000
namespace L2
open PySem PySem.Spec PyProof.Rows
noncomputable def j6 (sep:List Nat):List (List Nat)->List Nat
  | []=>[]
  | [x]=>x
  | x :: y :: r=>x ++ sep ++ j6 sep (y :: r)
theorem jbH (sep:List Nat):∀ ps:List (List Nat),Str.join (tx sep) (ps.map tx) = tx (j6 sep ps)
  | []=>rfl
  | [x]=>rfl
  | x :: y :: r=>by
    show tx x ++ tx sep ++ Str.join (tx sep) ((y :: r).map tx) = _
    rw [jbH sep (y :: r),qx,qx]; rfl
theorem jjd (sep:List Nat) (ps:List (List Nat)):Txt.join (tx sep) (ps.map tx) = tx (j6 sep ps):=by
  unfold Txt.join
  rw [StrLaws.glued_eq_join,jbH]
theorem jhD {c:Nat}:∀ {a a' b b':List Nat},c ∉ a->c ∉ a'->a ++ c :: b = a' ++ c :: b'->a = a' /\ b = b'
  | [],[],b,b',_,_,e=>⟨rfl,(List.cons.inj e).2⟩
  | [],y :: a',b,b',_,h',e=>absurd (List.cons.inj e).1 (fun q=>h' (by rw [q]; exact List.mem_cons_self ..))
  | x :: a,[],b,b',h,_,e=>absurd (List.cons.inj e).1 (fun q=>h (by rw [<- q]; exact List.mem_cons_self ..))
  | x :: a,y :: a',b,b',h,h',e=>by
    obtain ⟨e1,e2⟩:=List.cons.inj e
    obtain ⟨q1,q2⟩:=jhD (fun z=>h (List.mem_cons_of_mem _ z)) (fun z=>h' (List.mem_cons_of_mem _ z)) e2
    exact ⟨by rw [e1,q1],q2⟩
theorem jgq {c:Nat}:∀ {ps qs:List (List Nat)},ps ≠ []->qs ≠ []->(∀ p ∈ ps,c ∉ p)->(∀ q ∈ qs,c ∉ q)->j6 [c] ps = j6 [c] qs->ps = qs
  | [],_,h,_,_,_,_=>absurd rfl h
  | _ :: _,[],_,h,_,_,_=>absurd rfl h
  | [x],[y],_,_,_,_,e=>by rw [show x = y from e]
  | [x],y :: z :: r,_,_,h,_,e=>by
    have e:x = y ++ [c] ++ j6 [c] (z :: r):=e
    exact absurd (show c ∈ x by rw [e]; simp) (h x (List.mem_cons_self ..))
  | x :: z :: r,[y],_,_,_,h,e=>by
    have e:x ++ [c] ++ j6 [c] (z :: r) = y:=e
    exact absurd (show c ∈ y by rw [<- e]; simp) (h y (List.mem_cons_self ..))
  | x :: y :: r,x' :: y' :: r',_,_,h,h',e=>by
    have e:x ++ [c] ++ j6 [c] (y :: r) = x' ++ [c] ++ j6 [c] (y' :: r'):=e
    rw [List.append_assoc,List.append_assoc] at e
    obtain ⟨e1,e2⟩:=jhD (h x (List.mem_cons_self ..)) (h' x' (List.mem_cons_self ..)) e
    rw [e1,jgq (by simp) (by simp) (fun p hp=>h p (List.mem_cons_of_mem _ hp)) (fun p hp=>h' p (List.mem_cons_of_mem _ hp)) e2]
theorem split_ne (x y:Str):Txt.split x y ≠ []:=by
  unfold Txt.split
  split
  · simp
  split
  · simp
  · intro e
    have:=jgy x (Builtin.Str.occurrences x y 0 x.length (x.length + 1)) y.length
    rw [e] at this
    simp at this
theorem jh2 {c:Nat} {ps:List (List Nat)} (h0:ps ≠ []) (hf:∀ p ∈ ps,c ∉ p):Txt.split (tx (j6 [c] ps)) (tx [c]) = ps.map tx:=by
  have key:Txt.split (tx (j6 [c] ps)) (tx [c]) = ((Txt.split (tx (j6 [c] ps)) (tx [c])).map fun q=>q.cps.toList).map tx:=by
    rw [List.map_map]
    conv=>lhs; rw [<- List.map_id (Txt.split (tx (j6 [c] ps)) (tx [c]))]
    exact List.map_congr_left fun q _=>jgM q
  rw [key]
  congr 1
  refine jgq (c:=c) ?_ h0 ?_ hf ?_
  · intro e
    exact split_ne _ _ (List.map_eq_nil_iff.mp e)
  · intro p hp
    obtain ⟨q,hq,rfl⟩:=List.mem_map.mp hp
    exact StrLaws.split_free (tx (j6 [c] ps)) c q hq
  · refine jhq ?_
    rw [<- jbH,<- key]
    exact StrLaws.join_split _ _
theorem jim (l:List Nat) (i j:Nat):(tx l).cps.extract i j = ((l.drop i).take (j - i)).toArray:=by
  simp [tx,List.extract_toArray,List.extract_eq_drop_take]
theorem jfR (l p:List Nat) (i:Nat):Builtin.Str.subAt (tx l) (tx p) i = ((l.drop i).take p.length == p):=by
  unfold Builtin.Str.subAt
  rw [jim,Ju,Nat.add_sub_cancel_left]
  rw [Bool.eq_iff_iff]
  simp [tx]
theorem zV (l p:List Nat):Txt.startswith (tx l) (tx p) = (l.take p.length == p):=by
  unfold Txt.startswith
  rw [jfR,Ju,Ju,List.drop_zero,Nat.zero_add]
  rw [Bool.eq_iff_iff]
  simp only [Bool.and_eq_true,decide_eq_true_eq,beq_iff_eq]
  refine ⟨fun h=>h.2,fun h=>⟨?_,h⟩⟩
  have:=congrArg List.length h
  rw [List.length_take] at this; omega
theorem jiR (l p:List Nat) (i:Nat):Txt.startswith3 (tx l) (tx p) (i:Int) = ((l.drop i).take p.length == p && decide (i + p.length <= l.length)):=by
  have e:fromIndex (tx l).length (i:Int) = i:=by unfold fromIndex; rw [if_neg (by omega)]; omega
  unfold Txt.startswith3
  rw [e,jfR,Ju,Ju,Bool.and_comm]
theorem ends_tx (l p:List Nat):Txt.endswith (tx l) (tx p) = (decide (p.length <= l.length) && ((l.drop (l.length - p.length)).take p.length == p)):=by
  unfold Txt.endswith
  rw [jfR,Ju,Ju,Nat.zero_add]
theorem jjy (l:List Nat) (c:Nat):Txt.endswith (tx (l ++ [c])) (tx [c]) = true:=by
  rw [ends_tx]
  simp
theorem zJ (n d i:Nat):HT.sIx n d (some (i:Int)) = min i n:=by
  unfold HT.sIx
  simp only [show ¬ ((i:Int) < 0) by omega,if_false]
  omega
theorem jeQ (l:List Nat) (b:Nat) (h:b <= l.length):cutL l (some (b:Int)) none = l.drop b:=by
  unfold cutL
  rw [zJ,Nat.min_eq_left h]
  show (l.drop b).take (l.length - b) = _
  rw [List.take_of_length_le (by rw [List.length_drop]; exact Nat.le_refl _)]
theorem cut_in (a x:List Nat) (c:Nat) (h:a.length = 4):cutL (a ++ x ++ [c]) (some 4) (some (-1)) = x:=by
  have hl:(a ++ x ++ [c]).length = x.length + 5:=by simp [h]; omega
  have e1:HT.sIx (x.length + 5) 0 (some 4) = 4:=by unfold HT.sIx; simp only [show ¬ ((4:Int) < 0) by omega,if_false]; omega
  have e2:HT.sIx (x.length + 5) (x.length + 5) (some (-1)) = x.length + 4:=by unfold HT.sIx; simp only [show ((-1:Int) < 0) by omega,if_true]; omega
  unfold cutL
  rw [hl,e1,e2,List.append_assoc,<- h,List.drop_left,h,Nat.add_sub_cancel,List.take_left]
noncomputable def quiet:Nat->List Nat->Option Nat
  | w,[]=>some w
  | w,c :: cs=>if c = 40 then quiet (w + 1) cs else if c = 41 then (if w = 0 then none else quiet (w - 1) cs) else if w = 0 /\ c = 59 then none else quiet w cs
theorem YH:∀ (a b:List Nat) (w:Nat),quiet w (a ++ b) = (quiet w a).bind fun v=>quiet v b
  | [],b,w=>rfl
  | c :: a,b,w=>by
    show (if c = 40 then quiet (w + 1) (a ++ b) else if c = 41 then (if w = 0 then none else quiet (w - 1) (a ++ b)) else if w = 0 /\ c = 59 then none else quiet w (a ++ b)) = (if c = 40 then quiet (w + 1) a else if c = 41 then (if w = 0 then none else quiet (w - 1) a) else if w = 0 /\ c = 59 then none else quiet w a).bind _
    split
    · exact YH a b _
    split
    · split
      · rfl
      · exact YH a b _
    split
    · rfl
    · exact YH a b _
theorem jfo:∀ (a:List Nat) (w:Nat),(∀ c ∈ a,c ≠ 40 /\ c ≠ 41 /\ c ≠ 59)->quiet w a = some w
  | [],w,_=>rfl
  | c :: a,w,h=>by
    obtain ⟨h1,h2,h3⟩:=h c (List.mem_cons_self ..)
    show (if c = 40 then quiet (w + 1) a else if c = 41 then (if w = 0 then none else quiet (w - 1) a) else if w = 0 /\ c = 59 then none else quiet w a) = _
    rw [if_neg h1,if_neg h2,if_neg (fun z=>h3 z.2)]
    exact jfo a w fun d hd=>h d (List.mem_cons_of_mem _ hd)
theorem jbt:∀ (a:List Nat) (w v:Nat),quiet w a = some v->quiet (w + 1) a = some (v + 1)
  | [],w,v,h=>by rw [show v = w from (Option.some.inj h).symm]; rfl
  | c :: a,w,v,h=>by
    have h:(if c = 40 then quiet (w + 1) a else if c = 41 then (if w = 0 then none else quiet (w - 1) a) else if w = 0 /\ c = 59 then none else quiet w a) = some v:=h
    show (if c = 40 then quiet (w + 1 + 1) a else if c = 41 then (if w + 1 = 0 then none else quiet (w + 1 - 1) a) else if w + 1 = 0 /\ c = 59 then none else quiet (w + 1) a) = _
    by_cases h1:c = 40
    · rw [if_pos h1] at h ⊢; exact jbt a _ _ h
    rw [if_neg h1] at h ⊢
    by_cases h2:c = 41
    · rw [if_pos h2] at h ⊢
      by_cases h3:w = 0
      · rw [if_pos h3] at h; cases h
      · rw [if_neg h3] at h
        rw [if_neg (by omega)]
        have:=jbt a _ _ h
        rw [show w - 1 + 1 = w + 1 - 1 by omega] at this
        exact this
    rw [if_neg h2] at h ⊢
    rw [if_neg (fun z=>absurd z.1 (by omega))]
    by_cases h3:w = 0 /\ c = 59
    · rw [if_pos h3] at h; cases h
    · rw [if_neg h3] at h
      exact jbt a _ _ h
noncomputable def Piece (x:List Nat):Prop:=quiet 0 x = some 0
theorem jfp:∀ xs:List (List Nat),(∀ x ∈ xs,Piece x)->quiet 1 (j6 [59,32] xs) = some 1
  | [],_=>rfl
  | [x],h=>jbt x 0 0 (h x (List.mem_cons_self ..))
  | x :: y :: r,h=>by
    show quiet 1 (x ++ [59,32] ++ j6 [59,32] (y :: r)) = _
    rw [YH,YH,jbt x 0 0 (h x (List.mem_cons_self ..))]
    exact jfp (y :: r) fun z hz=>h z (List.mem_cons_of_mem _ hz)
noncomputable abbrev PSt:=List (List Nat) × Nat × Int
noncomputable def semi (l:List Nat) (i:Nat):Bool:=(l.drop i).take 2 == [59,32] && decide (i + 2 <= l.length)
noncomputable def Yh (l:List Nat) (i c:Nat) (st:PSt):PSt :=
  if c = 40 then (st.1,st.2.1,st.2.2 + 1) else if c = 41 then (st.1,st.2.1,st.2.2 - 1)
  else if st.2.2 = 0 /\ semi l i = true then (st.1 ++ [(l.drop st.2.1).take (i - st.2.1)],i + 2,st.2.2) else st
noncomputable def prun (l:List Nat):Nat->PSt
  | 0=>([],0,0)
  | i + 1=>Yh l i (l.getD i 0) (prun l i)
theorem je0 (A:List Nat) (c:Nat) (B:List Nat):(A ++ c :: B).getD A.length 0 = c:=by
  rw [List.getD_eq_getElem?_getD,List.getElem?_append_right (Nat.le_refl _),Nat.sub_self]; rfl
theorem jgD {l A B:List Nat} {c:Nat} (e:l = A ++ c :: B) (h:c ≠ 59):semi l A.length = false:=by
  subst e
  unfold semi
  rw [List.drop_left]
  cases B with
  | nil=>simp
  | cons d B=>simp [h]
theorem jfm (l:List Nat) (ps:List (List Nat)) (b:Nat):∀ (cur A B:List Nat) (w v:Nat),l = A ++ cur ++ B->quiet w cur = some v->prun l A.length = (ps,b,(w:Int))->prun l (A.length + cur.length) = (ps,b,(v:Int))
  | [],A,B,w,v,_,h,hr=>by rw [show v = w from (Option.some.inj h).symm]; exact hr
  | c :: cur,A,B,w,v,e,h,hr=>by
    have h:(if c = 40 then quiet (w + 1) cur else if c = 41 then (if w = 0 then none else quiet (w - 1) cur) else if w = 0 /\ c = 59 then none else quiet w cur) = some v:=h
    have e':l = A ++ c :: (cur ++ B):=by rw [e]; simp
    have hc:l.getD A.length 0 = c:=by rw [e']; exact je0 _ _ _
    have e2:l = (A ++ [c]) ++ cur ++ B:=by rw [e]; simp
    have len:(A ++ [c]).length = A.length + 1:=by simp
    have step:prun l (A.length + 1) = Yh l A.length c (ps,b,(w:Int)):=by
      show Yh l A.length (l.getD A.length 0) (prun l A.length) = _
      rw [hc,hr]
    have go:∀ w':Nat,quiet w' cur = some v->Yh l A.length c (ps,b,(w:Int)) = (ps,b,(w':Int))->prun l (A.length + (c :: cur).length) = (ps,b,(v:Int)):=fun w' hq hp=>by
      have:=jfm l ps b cur (A ++ [c]) B w' v e2 hq (by rw [len,step,hp])
      rw [len] at this
      rw [List.length_cons,show A.length + (cur.length + 1) = A.length + 1 + cur.length by omega]; exact this
    by_cases h1:c = 40
    · rw [if_pos h1] at h
      exact go (w + 1) h (by unfold Yh; rw [if_pos h1]; simp)
    rw [if_neg h1] at h
    by_cases h2:c = 41
    · rw [if_pos h2] at h
      by_cases h3:w = 0
      · rw [if_pos h3] at h; cases h
      · rw [if_neg h3] at h
        exact go (w - 1) h (by unfold Yh; rw [if_neg h1,if_pos h2]; simp; omega)
    rw [if_neg h2] at h
    by_cases h3:w = 0 /\ c = 59
    · rw [if_pos h3] at h; cases h
    · rw [if_neg h3] at h
      refine go w h ?_
      unfold Yh
      rw [if_neg h1,if_neg h2,if_neg]
      rintro ⟨z1,z2⟩
      have w0:w = 0:=by have:(w:Int) = 0:=z1; omega
      rw [jgD e' (fun q=>h3 ⟨w0,q⟩)] at z2
      cases z2
theorem jgz (l:List Nat):∀ (xs:List (List Nat)) (A:List Nat) (ps:List (List Nat)),xs ≠ []->(∀ x ∈ xs,Piece x)->l = A ++ j6 [59,32] xs->prun l A.length = (ps,A.length,0)->∃ b,b <= l.length /\ (prun l l.length).2.1 = b /\ (prun l l.length).1 ++ [l.drop b] = ps ++ xs
  | [],_,_,h,_,_,_=>absurd rfl h
  | [x],A,ps,_,h,e,hr=>by
    have e:l = A ++ x:=e
    have z:=jfm l ps A.length x A [] 0 0 (by rw [e,List.append_nil]) (h x (List.mem_cons_self ..)) hr
    rw [<- List.length_append,<- e] at z
    refine ⟨A.length,by rw [e]; simp,by rw [z],?_⟩
    rw [z,show l.drop A.length = x by rw [e,List.drop_left]]
  | x :: y :: r,A,ps,_,h,e,hr=>by
    have e:l = A ++ (x ++ [59,32] ++ j6 [59,32] (y :: r)):=e
    have e1:l = A ++ x ++ (59 :: 32 :: j6 [59,32] (y :: r)):=by rw [e]; simp
    have z:=jfm l ps A.length x A _ 0 0 e1 (h x (List.mem_cons_self ..)) hr
    have s1:semi l (A.length + x.length) = true:=by
      unfold semi
      rw [e1,<- List.length_append,List.drop_left]; simp; omega
    have g1:l.getD (A.length + x.length) 0 = 59:=by rw [e1,<- List.length_append]; exact je0 _ _ _
    have e2:l = (A ++ x ++ [59]) ++ (32 :: j6 [59,32] (y :: r)):=by rw [e1]; simp
    have len2:(A ++ x ++ [59]).length = A.length + x.length + 1:=by simp; omega
    have g2:l.getD (A.length + x.length + 1) 0 = 32:=by rw [e2,<- len2]; exact je0 _ _ _
    have cutx:(l.drop A.length).take (A.length + x.length - A.length) = x:=by
      rw [e1,List.append_assoc,List.drop_left,Nat.add_sub_cancel_left,List.take_left]
    have p1:prun l (A.length + x.length + 1) = (ps ++ [x],A.length + x.length + 2,0):=by
      show Yh l (A.length + x.length) (l.getD (A.length + x.length) 0) (prun l (A.length + x.length)) = _
      rw [g1,z]
      unfold Yh
      rw [if_neg (by decide),if_neg (by decide),if_pos ⟨rfl,s1⟩]
      show (ps ++ [(l.drop A.length).take (A.length + x.length - A.length)],_,_) = _
      rw [cutx]; rfl
    have p2:prun l (A.length + x.length + 2) = (ps ++ [x],A.length + x.length + 2,0):=by
      show Yh l (A.length + x.length + 1) (l.getD (A.length + x.length + 1) 0) (prun l (A.length + x.length + 1)) = _
      rw [g2,p1]
      unfold Yh
      rw [if_neg (by decide),if_neg (by decide),if_neg]
      rintro ⟨_,z2⟩
      rw [<- len2,jgD e2 (by decide)] at z2
      cases z2
    have e3:l = (A ++ x ++ [59,32]) ++ j6 [59,32] (y :: r):=by rw [e1]; simp
    have len3:(A ++ x ++ [59,32]).length = A.length + x.length + 2:=by simp; omega
    obtain ⟨b,hb,q1,q2⟩:=jgz l (y :: r) (A ++ x ++ [59,32]) (ps ++ [x]) (by simp) (fun z hz=>h z (List.mem_cons_of_mem _ hz)) e3 (by rw [len3]; exact p2)
    exact ⟨b,hb,q1,by rw [q2]; simp⟩
theorem jhW {xs:List (List Nat)} (h0:xs ≠ []) (h:∀ x ∈ xs,Piece x):(prun (j6 [59,32] xs) (j6 [59,32] xs).length).2.1 <= (j6 [59,32] xs).length /\
    (prun (j6 [59,32] xs) (j6 [59,32] xs).length).1 ++ [(j6 [59,32] xs).drop (prun (j6 [59,32] xs) (j6 [59,32] xs).length).2.1] = xs:=by
  obtain ⟨b,hb,e,q⟩:=jgz (j6 [59,32] xs) xs [] [] h0 h rfl rfl
  subst e
  exact ⟨hb,q⟩
end L2
set_option Elab.async false
set_option linter.all false
set_option maxRecDepth 100000
namespace L2
open PySem PySem.Spec PyProof.Rows PySem.W Builtin Builtin.Str
noncomputable abbrev wFor:List Nat:=[102,111,114]
noncomputable abbrev wOf:List Nat:=[111,102]
noncomputable abbrev wUp:List Nat:=[117,112]
noncomputable abbrev wTo:List Nat:=[116,111]
noncomputable abbrev jic:List Nat:=[101,97,99,104]
noncomputable abbrev jbK:List Nat:=[110,111,116,104,105,110,103]
noncomputable abbrev wAny:List Nat:=[97,110,121,40]
noncomputable abbrev wOne:List Nat:=[111,110,101,40]
theorem jgX:Str.ofString " for " = tx [32,102,111,114,32]:=rfl
theorem lit_of:Str.ofString " of " = tx [32,111,102,32]:=rfl
theorem lit_up:Str.ofString "up to " = tx [117,112,32,116,111,32]:=rfl
theorem lit_each:Str.ofString " each" = tx [32,101,97,99,104]:=rfl
theorem jhJ:Str.ofString "+" = tx [43]:=rfl
theorem jhK:Str.ofString "; " = tx [59,32]:=rfl
theorem jjJ:Str.ofString ")" = tx [41]:=rfl
noncomputable def jaM (any:Bool):List Nat:=if any = true then wAny else wOne
theorem head_tx (any:Bool):jhI any = tx (jaM any):=by cases any <;> rfl
theorem jbO (any:Bool):(jaM any).length = 4:=by cases any <;> rfl
noncomputable def numL (m:Int):List Nat:=(Str.ofString (toString m)).cps.toList
theorem zu (m:Int):Str.ofString (toString m) = tx (numL m):=jgM _
theorem je4:∀ m:Nat,1 <= m->∃ c r,(Nat.toDigits 10 m).map Char.toNat = c :: r /\ c ≠ 48:=by
  intro m
  induction m using Nat.strongRecOn with
  | _ m ih =>
    intro hm
    by_cases h:m < 10
    · rw [Nat.toDigits_of_lt_base h]
      have key:∀ k < 10,1 <= k->(Nat.digitChar k).toNat ≠ 48:=by decide
      exact ⟨_,[],rfl,key m h hm⟩
    · have hlt:m % 10 < 10:=Nat.mod_lt m (by decide)
      have t:Nat.toDigits 10 (m / 10) ++ Nat.toDigits 10 (m % 10) = Nat.toDigits 10 (10 * (m / 10) + m % 10):=Nat.toDigits_append_toDigits (by decide) (by omega) hlt
      rw [Nat.div_add_mod] at t
      obtain ⟨c,r,e,hc⟩:=ih (m / 10) (by omega) (by omega)
      rw [<- t,List.map_append,e]
      exact ⟨c,_,rfl,hc⟩
theorem jcP {m:Int} (h0:0 <= m) (h1:m < 10 ^ 10):1 <= (numL m).length /\ (numL m).length <= 10 /\ (∀ c ∈ numL m,48 <= c /\ c <= 57) /\ ((numL m).length = 1 ∨ ¬ (numL m).take 1 = [48]):=by
  have hl:(numL m).length <= 10:=by
    have:=KT.len_num h0 h1
    rw [zu,Ju] at this; exact this
  obtain ⟨n,rfl⟩:=Int.eq_ofNat_of_zero_le h0
  have e:numL (n:Nat) = (Nat.toDigits 10 n).map Char.toNat:=KIN.signs_num n
  rw [e] at hl ⊢
  refine ⟨?_,hl,?_,?_⟩
  · rw [List.length_map]
    by_cases hn:1 <= n
    · obtain ⟨c,r,e2,_⟩:=je4 n hn
      have:=congrArg List.length e2
      rw [List.length_map] at this
      rw [this]; simp
    · rw [show n = 0 by omega]; decide
  · intro c hc
    obtain ⟨d,hd,rfl⟩:=List.mem_map.mp hc
    have:=Nat.isDigit_of_mem_toDigits (by decide) (by decide) hd
    unfold Char.isDigit at this
    simp only [Bool.and_eq_true,decide_eq_true_eq] at this
    obtain ⟨a,b⟩:=this
    exact ⟨by have:(48:UInt32) <= d.val:=a; exact UInt32.le_iff_toNat_le.mp this,by have:d.val <= (57:UInt32):=b; exact UInt32.le_iff_toNat_le.mp this⟩
  · by_cases hn:1 <= n
    · obtain ⟨c,r,e2,hc⟩:=je4 n hn
      right
      rw [e2]
      intro z
      exact hc (List.cons.inj (show [c] = [48] from z)).1
    · left; rw [show n = 0 by omega]; decide
theorem jjg {l:Nat} (h:l < 10):(numL (l:Int)).length = 1:=by
  have e:numL (l:Nat) = (Nat.toDigits 10 l).map Char.toNat:=KIN.signs_num l
  rw [e,Nat.toDigits_of_lt_base h]; rfl
noncomputable def bun (b:Nat) (ks:List Nat):Nat:=ks.foldl (fun r k=>r ||| 2 ^ k) b
noncomputable def once:Nat->List Nat->Bool
  | _,[]=>true
  | b,k :: ks=>decide (k < 6) && !decide (b &&& 2 ^ k = 2 ^ k) && once (b ||| 2 ^ k) ks
noncomputable def jbd (n:List Nat):Prop:=1 <= n.length /\ n.length <= 8 /\ ∀ c ∈ n,97 <= c /\ c <= 122
noncomputable def jbN (ns:List (List Nat)) (kd:List Nat->Nat->Prop) (b:Nat) (pl:List Nat):Prop :=
  (∃ js:List Nat,js ≠ [] /\ js.length <= 6 /\ (∀ j ∈ js,j < ns.length) /\ once 0 js = true /\ bun 0 js = b /\ pl = j6 [43] (js.map fun j=>ns.getD j [])) ∨ ∃ k,kd k b /\ jbd k /\ pl = 61 :: k
noncomputable def okc (c:Nat):Prop:=43 <= c /\ c <= 122 /\ c ≠ 59
theorem zT {sep:List Nat} {c:Nat}:∀ {ps:List (List Nat)},c ∈ j6 sep ps->(∃ p ∈ ps,c ∈ p) ∨ c ∈ sep
  | [],h=>absurd h (by simp [j6])
  | [x],h=>.inl ⟨x,List.mem_cons_self ..,h⟩
  | x :: y :: r,h=>by
    have h:c ∈ x ++ sep ++ j6 sep (y :: r):=h
    rcases List.mem_append.mp h with h | h
    · rcases List.mem_append.mp h with h | h
      · exact .inl ⟨x,List.mem_cons_self ..,h⟩
      · exact .inr h
    · rcases zT h with ⟨p,hp,h⟩ | h
      · exact .inl ⟨p,List.mem_cons_of_mem _ hp,h⟩
      · exact .inr h
theorem jgp {sep:List Nat} {B:Nat}:∀ {ps:List (List Nat)},(∀ p ∈ ps,p.length <= B)->ps ≠ []->(j6 sep ps).length + sep.length <= ps.length * (B + sep.length)
  | [],_,h=>absurd rfl h
  | [x],h,_=>by
    have:=h x (List.mem_cons_self ..)
    show x.length + sep.length <= 1 * (B + sep.length)
    omega
  | x :: y :: r,h,_=>by
    have a:=h x (List.mem_cons_self ..)
    have b:=jgp (sep:=sep) (ps:=y :: r) (fun p hp=>h p (List.mem_cons_of_mem _ hp)) (by simp)
    show (x ++ sep ++ j6 sep (y :: r)).length + sep.length <= ((y :: r).length + 1) * (B + sep.length)
    rw [List.length_append,List.length_append,Nat.succ_mul]
    omega
theorem getD_mem {ns:List (List Nat)} {j:Nat} (h:j < ns.length):ns.getD j [] ∈ ns:=by
  rw [List.getD_eq_getElem?_getD,List.getElem?_eq_getElem h]; exact List.getElem_mem h
section
variable {ns:List (List Nat)} {kd:List Nat->Nat->Prop} (hn:∀ n ∈ ns,jbd n)
include hn
theorem jcY {b:Nat} {pl:List Nat} (h:jbN ns kd b pl):(∀ c ∈ pl,okc c) /\ 1 <= pl.length /\ pl.length <= 53:=by
  rcases h with ⟨js,h0,h6,hj,_,_,rfl⟩ | ⟨k,_,⟨k1,k2,k3⟩,rfl⟩
  · have hm:∀ p ∈ js.map (fun j=>ns.getD j []),jbd p:=fun p hp=>by
      obtain ⟨j,hjm,rfl⟩:=List.mem_map.mp hp
      exact hn _ (getD_mem (hj j hjm))
    refine ⟨fun c hc=>?_,?_,?_⟩
    · rcases zT hc with ⟨p,hp,hcp⟩ | hc
      · have:=(hm p hp).2.2 c hcp
        exact ⟨by omega,this.2,by omega⟩
      · rw [List.mem_singleton.mp hc]; unfold okc; omega
    · cases js with
      | nil=>exact absurd rfl h0
      | cons j r =>
        have n1:=(hm _ (List.mem_cons_self ..)).1
        cases r with
        | nil=>exact n1
        | cons j2 r =>
          show 1 <= (ns.getD j [] ++ [43] ++ j6 [43] ((j2 :: r).map fun j=>ns.getD j [])).length
          rw [List.length_append,List.length_append]
          simp only [List.length_cons,List.length_nil]
          omega
    · have:=jgp (sep:=[43]) (B:=8) (fun p hp=>(hm p hp).2.1) (fun z=>h0 (List.map_eq_nil_iff.mp z))
      rw [List.length_map] at this
      have e:js.length * (8 + [43].length) <= 6 * 9:=Nat.mul_le_mul_right 9 h6
      have e1:([43]:List Nat).length = 1:=rfl
      omega
  · refine ⟨fun c hc=>?_,by simp,by simp; omega⟩
    rcases List.mem_cons.mp hc with rfl | hc
    · unfold okc; omega
    · have:=k3 c hc
      exact ⟨by omega,this.2,by omega⟩
end
noncomputable def jem (ns:List (List Nat)) (kd:List Nat->Nat->Prop):Form->List (List Nat)->Prop
  | .none,ws=>ws = [jbK]
  | .only b m,ws=>∃ pl,jbN ns kd b pl /\ ws = [pl,wFor,numL m]
  | .some k l m,ws=>∃ pl,jbN ns kd k pl /\ ws = [numL (l:Nat),wOf,pl,wFor,numL m]
  | .most k l m,ws=>∃ pl,jbN ns kd k pl /\ ws = [wUp,wTo,numL (l:Nat),wOf,pl,wFor,numL m,jic]
noncomputable def z8 (ns:List (List Nat)) (kd:List Nat->Nat->Prop):Nat->Tr->List Nat->Prop
  | 0,_,_=>False
  | _ + 1,.leaf f,x=>Qk f /\ ∃ ws,jem ns kd f ws /\ x = j6 [32] ws
  | d + 1,.node any ts,x=>∃ xs,All2 (fun y t=>z8 ns kd d t y) xs ts /\ x = jaM any ++ j6 [59,32] xs ++ [41]
theorem zH {w:List Nat} (h:w.all fun c=>decide (43 <= c) && decide (c <= 122) && !decide (c = 59)):∀ c ∈ w,okc c:=fun c hc=>by
  have:=List.all_eq_true.mp h c hc
  simp at this
  exact ⟨this.1.1,this.1.2,this.2⟩
theorem jcU {m:Int} (h0:0 <= m) (h1:m < 10 ^ 10):∀ c ∈ numL m,okc c:=fun c hc=>by
  have:=(jcP h0 h1).2.2.1 c hc
  exact ⟨by omega,by omega,by omega⟩
theorem jid {ns:List (List Nat)} {kd:List Nat->Nat->Prop} (hn:∀ n ∈ ns,jbd n) {f:Form} {ws:List (List Nat)} (ok:Qk f) (h:jem ns kd f ws):(∀ w ∈ ws,∀ c ∈ w,okc c) /\ (j6 [32] ws).length <= 84 /\ ws ≠ []:=by
  cases f with
  | none =>
    have h:ws = [jbK]:=h
    subst h
    refine ⟨fun w hw=>?_,by decide,by simp⟩
    rw [List.mem_singleton.mp hw]; exact zH (by decide)
  | only b m =>
    obtain ⟨pl,hp,rfl⟩:=h
    obtain ⟨a1,a2,a3⟩:=jcY hn hp
    have lo:=ok.2.2.lo
    have hi:=ok.2.2.hi
    have nm:=jcP lo (by omega)
    refine ⟨fun w hw=>?_,?_,by simp⟩
    · simp only [List.mem_cons,List.not_mem_nil,or_false] at hw
      rcases hw with rfl | rfl | rfl
      · exact a1
      · exact zH (by decide)
      · exact jcU lo (by omega)
    · simp [j6]; omega
  | some k l m =>
    obtain ⟨pl,hp,rfl⟩:=h
    obtain ⟨a1,a2,a3⟩:=jcY hn hp
    have lo:=ok.2.2.2.2.lo
    have hi:=ok.2.2.2.2.hi
    have l6:=ok.2.2.2.1
    have nm:=jcP lo (by omega)
    have nl:=jjg (l:=l) (by omega)
    refine ⟨fun w hw=>?_,?_,by simp⟩
    · simp only [List.mem_cons,List.not_mem_nil,or_false] at hw
      rcases hw with rfl | rfl | rfl | rfl | rfl
      · exact jcU (by omega) (by omega)
      · exact zH (by decide)
      · exact a1
      · exact zH (by decide)
      · exact jcU lo (by omega)
    · simp [j6]; omega
  | most k l m =>
    obtain ⟨pl,hp,rfl⟩:=h
    obtain ⟨a1,a2,a3⟩:=jcY hn hp
    have lo:=ok.2.2.2.2.lo
    have hi:=ok.2.2.2.2.hi
    have l6:=ok.2.2.2.1
    have nm:=jcP lo (by omega)
    have nl:=jjg (l:=l) (by omega)
    refine ⟨fun w hw=>?_,?_,by simp⟩
    · simp only [List.mem_cons,List.not_mem_nil,or_false] at hw
      rcases hw with rfl | rfl | rfl | rfl | rfl | rfl | rfl | rfl
      · exact zH (by decide)
      · exact zH (by decide)
      · exact jcU (by omega) (by omega)
      · exact zH (by decide)
      · exact a1
      · exact zH (by decide)
      · exact jcU lo (by omega)
      · exact zH (by decide)
    · simp [j6]; omega
theorem je5 {ws:List (List Nat)} (h:∀ w ∈ ws,∀ c ∈ w,okc c):∀ c ∈ j6 [32] ws,c ≠ 40 /\ c ≠ 41 /\ c ≠ 59 /\ c < 128:=fun c hc=>by
  rcases zT hc with ⟨w,hw,hcw⟩ | hc
  · have:=h w hw c hcw
    unfold okc at this; omega
  · rw [List.mem_singleton.mp hc]; omega
theorem jiu {ws:List (List Nat)} (h:∀ w ∈ ws,∀ c ∈ w,okc c) (h0:ws ≠ []):Txt.split (tx (j6 [32] ws)) (tx [32]) = ws.map tx :=
  jh2 h0 fun w hw hc=>by have:=h w hw 32 hc; unfold okc at this; omega
theorem jcd {xs:List (List Nat)} {ts:List Tr} (h:All2 (fun y t=>y.length + 2 <= 86 * jV t) xs ts):(j6 [59,32] xs).length <= 86 * jN ts:=by
  have key:∀ (ts:List Tr) (xs:List (List Nat)),All2 (fun y t=>y.length + 2 <= 86 * jV t) xs ts->xs ≠ []->(j6 [59,32] xs).length + 2 <= 86 * jN ts:=by
    intro ts
    induction ts with
    | nil=>intro xs h h0; exact absurd (List.length_eq_zero_iff.mp h.1) h0
    | cons t ts ih =>
      intro xs h h0
      cases xs with
      | nil=>exact absurd rfl h0
      | cons x r =>
        have a:=h.2 0 x t rfl rfl
        have tl:All2 (fun y t=>y.length + 2 <= 86 * jV t) r ts:=⟨Nat.succ.inj h.1,fun i y u e1 e2=>h.2 (i + 1) y u e1 e2⟩
        show _ <= 86 * (jV t + jN ts)
        cases r with
        | nil=>show x.length + 2 <= _; omega
        | cons y r =>
          have b:=ih _ tl (by simp)
          show (x ++ [59,32] ++ j6 [59,32] (y :: r)).length + 2 <= _
          rw [List.length_append,List.length_append]
          simp only [List.length_cons,List.length_nil] at b ⊢
          omega
  cases xs with
  | nil=>exact Nat.zero_le _
  | cons x r=>have:=key ts _ h (by simp); omega
theorem yN {ns:List (List Nat)} {kd:List Nat->Nat->Prop} (hn:∀ n ∈ ns,jbd n):∀ (d:Nat) (t:Tr) (x:List Nat),z8 ns kd d t x->Piece x /\ (∀ c ∈ x,c < 128) /\ x.length + 2 <= 86 * jV t
  | 0,_,_,h=>h.elim
  | d + 1,.leaf f,x,h=>by
    obtain ⟨ok,ws,hw,rfl⟩:=h
    obtain ⟨a,b,_⟩:=jid hn ok hw
    have s:=je5 a
    refine ⟨jfo _ 0 fun c hc=>⟨(s c hc).1,(s c hc).2.1,(s c hc).2.2.1⟩,fun c hc=>(s c hc).2.2.2,?_⟩
    show _ <= 86 * 1
    omega
  | d + 1,.node any ts,x,h=>by
    obtain ⟨xs,hx,rfl⟩:=h
    have ih:∀ y ∈ xs,∃ t,z8 ns kd d t y:=fun y hy=>by
      obtain ⟨i,hi,rfl⟩:=List.getElem_of_mem hy
      exact ⟨_,hx.2 i _ _ (List.getElem?_eq_getElem hi) (List.getElem?_eq_getElem (by rw [<- hx.1]; exact hi))⟩
    have pc:∀ y ∈ xs,Piece y:=fun y hy=>by
      obtain ⟨t,ht⟩:=ih y hy
      exact (yN hn d t y ht).1
    have hh:∀ w,quiet w (jaM any) = some (w + 1):=fun w=>by cases any <;> simp [jaM,quiet]
    refine ⟨?_,fun c hc=>?_,?_⟩
    · show quiet 0 (jaM any ++ j6 [59,32] xs ++ [41]) = some 0
      rw [YH,YH,hh]
      show ((quiet 1 (j6 [59,32] xs)).bind _) = _
      rw [jfp xs pc]; rfl
    · rcases List.mem_append.mp hc with hc | hc
      · rcases List.mem_append.mp hc with hc | hc
        · have:∀ (b:Bool),∀ c ∈ jaM b,c < 128:=by decide
          exact this any c hc
        · rcases zT hc with ⟨p,hp,hcp⟩ | hc
          · obtain ⟨t,ht⟩:=ih p hp
            exact (yN hn d t p ht).2.1 c hcp
          · simp only [List.mem_cons,List.not_mem_nil,or_false] at hc; omega
      · rw [List.mem_singleton.mp hc]; omega
    · have:=jcd (xs:=xs) (ts:=ts) ⟨hx.1,fun i y t e1 e2=>(yN hn d t y (hx.2 i y t e1 e2)).2.2⟩
      rw [List.length_append,List.length_append,jbO]
      show _ <= 86 * (1 + jN ts)
      simp only [List.length_cons,List.length_nil]
      omega
theorem jfU {ns:List (List Nat)} {kd:List Nat->Nat->Prop} (hn:∀ n ∈ ns,jbd n) {d:Nat} {t:Tr} {x:List Nat} (h:z8 ns kd d t x) (few:jV t <= 24):x.length <= 2000:=by
  cases d with
  | zero=>exact h.elim
  | succ d =>
    cases t with
    | leaf f =>
      have:=(yN hn _ _ _ h).2.2
      have e:jV (.leaf f) = 1:=rfl
      rw [e] at this; omega
    | node any ts =>
      obtain ⟨xs,hx,rfl⟩:=h
      have few:1 + jN ts <= 24:=few
      have:=jcd (xs:=xs) (ts:=ts) ⟨hx.1,fun i y t e1 e2=>(yN hn d t y (hx.2 i y t e1 e2)).2.2⟩
      rw [List.length_append,List.length_append,jbO]
      simp only [List.length_cons,List.length_nil]
      omega
theorem jhU:∀ b < 64,once 0 (things b) = true /\ bun 0 (things b) = b /\ (1 <= b->things b ≠ []):=by decide +kernel
section
variable {ns:List (List Nat)} {kd:List Nat->Nat->Prop}
theorem jbs {b:Nat} (h1:1 <= b) (h2:b <= 63) (hm:ns.length <= 6) (hs:Sub b ns.length):∃ pl,qp (ns.map tx) b = tx pl /\ jbN ns kd b pl:=by
  obtain ⟨a1,a2,a3⟩:=jhU b (by omega)
  have hk:∀ j ∈ things b,j < ns.length:=jbI ns.length (by omega) b (by omega) hs
  refine ⟨_,?_,.inl ⟨things b,a3 h1,YX b,hk,a1,a2,rfl⟩⟩
  unfold qp
  rw [jhJ,<- jjd,List.map_map]
  congr 1
  refine List.map_congr_left fun j hj=>?_
  show (ns.map tx).getD j Str.empty = tx (ns.getD j [])
  rw [List.getD_eq_getElem?_getD,List.getElem?_map,List.getElem?_eq_getElem (hk j hj),List.getD_eq_getElem?_getD,List.getElem?_eq_getElem (hk j hj)]; rfl
theorem jir {f:Form} (ok:Qk f) (hm:ns.length <= 6) (hs:Sub (yc f) ns.length):∃ ws,jem ns kd f ws /\ jeW (ns.map tx) f = tx (j6 [32] ws):=by
  cases f with
  | none=>exact ⟨_,rfl,rfl⟩
  | only b m =>
    obtain ⟨pl,e,hp⟩:=jbs (kd:=kd) ok.1 ok.2.1 hm hs
    refine ⟨_,⟨pl,hp,rfl⟩,?_⟩
    show qp (ns.map tx) b ++ Str.ofString " for " ++ Str.ofString (toString m) = _
    rw [e,jgX,zu,qx,qx]
    congr 1
    simp [j6]
  | some k l m =>
    obtain ⟨pl,e,hp⟩:=jbs (kd:=kd) ok.1 ok.2.1 hm hs
    refine ⟨_,⟨pl,hp,rfl⟩,?_⟩
    show Str.ofString (toString ((l:Nat):Int)) ++ Str.ofString " of " ++ qp (ns.map tx) k ++ Str.ofString " for " ++ Str.ofString (toString m) = _
    rw [e,jgX,lit_of,zu,zu,qx,qx,qx,qx]
    congr 1
    simp [j6]
  | most k l m =>
    obtain ⟨pl,e,hp⟩:=jbs (kd:=kd) ok.1 ok.2.1 hm hs
    refine ⟨_,⟨pl,hp,rfl⟩,?_⟩
    show Str.ofString "up to " ++ Str.ofString (toString ((l:Nat):Int)) ++ Str.ofString " of " ++ qp (ns.map tx) k ++ Str.ofString " for " ++ Str.ofString (toString m) ++ Str.ofString " each" = _
    rw [e,jgX,lit_of,lit_up,lit_each,zu,zu,qx,qx,qx,qx,qx,qx]
    congr 1
    simp [j6]
theorem jdS {α β:Type} {R:α->β->Prop}:∀ (ys:List β),(∀ y ∈ ys,∃ x,R x y)->∃ xs,All2 R xs ys
  | [],_=>⟨[],All2.nil⟩
  | y :: ys,h=>by
    obtain ⟨x,hx⟩:=h y (List.mem_cons_self ..)
    obtain ⟨xs,hxs⟩:=jdS ys fun z hz=>h z (List.mem_cons_of_mem _ hz)
    exact ⟨[x] ++ xs,(All2.one hx).append hxs⟩
theorem text_canon (hm:ns.length <= 6):∀ (d:Nat) (t:Tr),j7 t <= d->okT t->Sub (Ja t) ns.length->∃ x,z8 ns kd d t x /\ qN (ns.map tx) t = tx x
  | 0,t,h,_,_=>absurd (jdk t) (by omega)
  | d + 1,.leaf f,_,ok,hs=>by
    obtain ⟨ws,h1,h2⟩:=jir (kd:=kd) (jbk.mp ok) hm hs
    exact ⟨_,⟨jbk.mp ok,ws,h1,rfl⟩,by rw [jaJ]; exact h2⟩
  | d + 1,.node any ts,h,ok,hs=>by
    have h:1 + jW ts <= d + 1:=h
    have hs:Sub (Jg ts) ns.length:=hs
    have okl:=Y4 (yq.mp ok)
    obtain ⟨xs,hx⟩:=jdS (R:=fun y t=>z8 ns kd d t y /\ qN (ns.map tx) t = tx y) ts fun t ht=>by
      have:=Qh ht
      exact text_canon hm d t (by omega) (okl t ht) (hs.mem t ht)
    refine ⟨_,⟨xs,hx.imp fun _ _ _ z=>z.1,rfl⟩,?_⟩
    have e:ts.map (qN (ns.map tx)) = xs.map tx:=by
      refine List.ext_getElem (by rw [List.length_map,List.length_map,hx.1]) fun i h1 h2=>?_
      rw [List.length_map] at h1 h2
      rw [List.getElem_map,List.getElem_map]
      exact (hx.2 i _ _ (List.getElem?_eq_getElem h2) (List.getElem?_eq_getElem h1)).2
    rw [jaK,e,jhK,jjd,head_tx,jjJ,qx,qx]
end
theorem jh3 (any:Bool) (x:List Nat):Txt.startswith (tx (jaM any ++ x ++ [41])) (tx wAny) = any /\ Txt.startswith (tx (jaM any ++ x ++ [41])) (tx wOne) = !any:=by
  rw [zV,zV]
  cases any <;> simp [jaM]
theorem jh4 {x:List Nat} (h:∀ c ∈ x,c ≠ 40):Txt.startswith (tx x) (tx wAny) = false /\ Txt.startswith (tx x) (tx wOne) = false:=by
  have key:∀ w:List Nat,40 ∈ w->Txt.startswith (tx x) (tx w) = false:=fun w hw=>by
    rw [zV,Bool.eq_false_iff]
    intro z
    have z:=beq_iff_eq.mp z
    rw [<- z] at hw
    exact h 40 (List.mem_of_mem_take hw) rfl
  exact ⟨key _ (by decide),key _ (by decide)⟩
theorem jhm {ns:List (List Nat)} {js:List Nat} (hn:∀ n ∈ ns,jbd n) (h0:js ≠ []) (hj:∀ j ∈ js,j < ns.length):Txt.startswith (tx (j6 [43] (js.map fun j=>ns.getD j []))) (tx [61]) = false:=by
  rw [zV,Bool.eq_false_iff]
  intro z
  have z:=beq_iff_eq.mp z
  have hm:61 ∈ j6 [43] (js.map fun j=>ns.getD j []):=List.mem_of_mem_take (by rw [z]; exact List.mem_cons_self ..)
  rcases zT hm with ⟨p,hp,hc⟩ | hc
  · obtain ⟨j,hjm,rfl⟩:=List.mem_map.mp hp
    have:=(hn _ (getD_mem (hj j hjm))).2.2 61 hc
    omega
  · exact absurd (List.mem_singleton.mp hc) (by decide)
theorem jhZ {ns:List (List Nat)} {js:List Nat} (hn:∀ n ∈ ns,jbd n) (h0:js ≠ []) (hj:∀ j ∈ js,j < ns.length):Txt.split (tx (j6 [43] (js.map fun j=>ns.getD j []))) (tx [43]) = (js.map fun j=>ns.getD j []).map tx :=
  jh2 (fun z=>h0 (List.map_eq_nil_iff.mp z)) fun p hp hc=>by
    obtain ⟨j,hjm,rfl⟩:=List.mem_map.mp hp
    have:=(hn _ (getD_mem (hj j hjm))).2.2 43 hc
    omega
end L2
set_option Elab.async false
set_option linter.all false
set_option maxRecDepth 100000
set_option maxHeartbeats 4000000
namespace My
open PySem PySem.Spec PyProof.Rows L2 GM
theorem lst0 {T:Type} {P:List T->Prop} {us:List T} (h:us.length = 0) (f:P []):P us:=by cases us with | nil=>exact f | cons a us=>cases h
theorem lst1 {T:Type} {P:List T->Prop} {us:List T} (h:us.length = 1) (f:∀ a,P [a]):P us:=by cases us with | nil=>cases h | cons a us=>exact lst0 (P:=fun l=>P (a :: l)) (Nat.succ.inj h) (f a)
theorem lst2 {T:Type} {P:List T->Prop} {us:List T} (h:us.length = 2) (f:∀ a b,P [a,b]):P us:=by cases us with | nil=>cases h | cons a us=>exact lst1 (P:=fun l=>P (a :: l)) (Nat.succ.inj h) (f a)
theorem lst3 {T:Type} {P:List T->Prop} {us:List T} (h:us.length = 3) (f:∀ a b c,P [a,b,c]):P us:=by cases us with | nil=>cases h | cons a us=>exact lst2 (P:=fun l=>P (a :: l)) (Nat.succ.inj h) (f a)
theorem lst4 {T:Type} {P:List T->Prop} {us:List T} (h:us.length = 4) (f:∀ a b c d,P [a,b,c,d]):P us:=by cases us with | nil=>cases h | cons a us=>exact lst3 (P:=fun l=>P (a :: l)) (Nat.succ.inj h) (f a)
theorem bnd1 {K:PySem.W.Frag} {x qual:Str} {st:Stmt} {f:Addr} {fd:FuncData} {p0:Str} (F:Fun K x qual st f fd) (h:∀ (kV doc pm:Value) (an:Option Addr) (cdv ct:Value) (a:Value),bindArgs (PySem.W.fnOf x qual (qy st) (JT st) (jt st) .none kV doc pm an cdv ct) ⟨[a],[]⟩ = pure ([p0].zip [a])):Binds K fd [p0] [] :=
  F.binds fun kV doc pm an cdv ct us hl=>lst1 (P:=fun us=>bindArgs (PySem.W.fnOf x qual (qy st) (JT st) (jt st) .none kV doc pm an cdv ct) ⟨us,[]⟩ = pure ([p0].zip us)) hl (h kV doc pm an cdv ct)
theorem bnd2 {K:PySem.W.Frag} {x qual:Str} {st:Stmt} {f:Addr} {fd:FuncData} {p0 p1:Str} (F:Fun K x qual st f fd) (h:∀ (kV doc pm:Value) (an:Option Addr) (cdv ct:Value) (a b:Value),bindArgs (PySem.W.fnOf x qual (qy st) (JT st) (jt st) .none kV doc pm an cdv ct) ⟨[a,b],[]⟩ = pure ([p0,p1].zip [a,b])):Binds K fd [p0,p1] [] :=
  F.binds fun kV doc pm an cdv ct us hl=>lst2 (P:=fun us=>bindArgs (PySem.W.fnOf x qual (qy st) (JT st) (jt st) .none kV doc pm an cdv ct) ⟨us,[]⟩ = pure ([p0,p1].zip us)) hl (h kV doc pm an cdv ct)
theorem bnd3 {K:PySem.W.Frag} {x qual:Str} {st:Stmt} {f:Addr} {fd:FuncData} {p0 p1 p2:Str} (F:Fun K x qual st f fd) (h:∀ (kV doc pm:Value) (an:Option Addr) (cdv ct:Value) (a b c:Value),bindArgs (PySem.W.fnOf x qual (qy st) (JT st) (jt st) .none kV doc pm an cdv ct) ⟨[a,b,c],[]⟩ = pure ([p0,p1,p2].zip [a,b,c])):Binds K fd [p0,p1,p2] [] :=
  F.binds fun kV doc pm an cdv ct us hl=>lst3 (P:=fun us=>bindArgs (PySem.W.fnOf x qual (qy st) (JT st) (jt st) .none kV doc pm an cdv ct) ⟨us,[]⟩ = pure ([p0,p1,p2].zip us)) hl (h kV doc pm an cdv ct)
theorem bnd4 {K:PySem.W.Frag} {x qual:Str} {st:Stmt} {f:Addr} {fd:FuncData} {p0 p1 p2 p3:Str} (F:Fun K x qual st f fd) (h:∀ (kV doc pm:Value) (an:Option Addr) (cdv ct:Value) (a b c d:Value),bindArgs (PySem.W.fnOf x qual (qy st) (JT st) (jt st) .none kV doc pm an cdv ct) ⟨[a,b,c,d],[]⟩ = pure ([p0,p1,p2,p3].zip [a,b,c,d])):Binds K fd [p0,p1,p2,p3] [] :=
  F.binds fun kV doc pm an cdv ct us hl=>lst4 (P:=fun us=>bindArgs (PySem.W.fnOf x qual (qy st) (JT st) (jt st) .none kV doc pm an cdv ct) ⟨us,[]⟩ = pure ([p0,p1,p2,p3].zip us)) hl (h kV doc pm an cdv ct)
noncomputable def top (i:Nat):Stmt:=PySem.Challenge.pw_gavelhall_k36_whole_there_and_back.main.body.getD i (.Pass ⟨0,0,0,0⟩)
noncomputable abbrev jaD:Stmt:=top 8
noncomputable abbrev ZL:Stmt:=top 9
noncomputable abbrev ZK:Stmt:=top 11
noncomputable abbrev Y9:Stmt:=top 12
noncomputable abbrev jby:Stmt:=top 13
noncomputable abbrev jdC:Stmt:=top 14
noncomputable abbrev zM:Stmt:=top 15
noncomputable abbrev YL:Stmt:=top 24
noncomputable abbrev Yr:Stmt:=top 25
noncomputable abbrev YK:Stmt:=top 26
noncomputable abbrev Zj:Stmt:=top 27
noncomputable abbrev QJ:Stmt:=top 28
noncomputable abbrev QL:Stmt:=top 29
noncomputable abbrev qD:Stmt:=top 30
noncomputable abbrev Yv:Stmt:=top 31
noncomputable abbrev Yq:Stmt:=top 32
noncomputable abbrev Ys:Stmt:=top 33
noncomputable abbrev yG:Stmt:=top 34
noncomputable abbrev QK:Stmt:=top 35
noncomputable abbrev jaE:Stmt:=top 37
noncomputable abbrev ZM:Stmt:=top 38
noncomputable abbrev zK:Stmt:=top 39
noncomputable abbrev yt:Stmt:=top 40
noncomputable abbrev jcy:Stmt:=top 41
noncomputable abbrev yK:Stmt:=top 42
noncomputable abbrev zL:Stmt:=top 43
noncomputable abbrev Yu:Stmt:=top 44
noncomputable abbrev zy:Stmt:=top 45
noncomputable abbrev Yt:Stmt:=top 46
noncomputable abbrev Zz:Stmt:=top 48
noncomputable abbrev jfq:Stmt:=top 51
noncomputable abbrev jfv:Stmt:=top 52
noncomputable abbrev jbT:Stmt:=top 53
noncomputable abbrev jbS:Stmt:=top 54
noncomputable abbrev jcw:Stmt:=top 55
noncomputable abbrev jfu:Stmt:=top 56
noncomputable abbrev jbv:Stmt:=top 57
noncomputable abbrev jab:Stmt:=top 58
noncomputable abbrev jbU:Stmt:=top 59
noncomputable abbrev jbx:Stmt:=top 60
noncomputable abbrev jfs:Stmt:=top 61
noncomputable abbrev jc0:Stmt:=top 62
noncomputable abbrev jdA:Stmt:=top 63
noncomputable abbrev jcx:Stmt:=top 64
noncomputable abbrev YJ:Stmt:=top 65
noncomputable abbrev jac:Stmt:=top 66
noncomputable abbrev jaa:Stmt:=top 67
noncomputable abbrev jaC:Stmt:=top 68
noncomputable abbrev jfr:Stmt:=top 69
noncomputable abbrev jbw:Stmt:=top 70
noncomputable abbrev jdz:Stmt:=top 71
noncomputable abbrev jdB:Stmt:=top 72
noncomputable abbrev jft:Stmt:=top 73
noncomputable abbrev jb7:Stmt:=top 74
noncomputable abbrev Yk:Stmt:=(Jm (top 17)).getD 0 (.Pass ⟨0,0,0,0⟩)
noncomputable abbrev Y6:Stmt:=(Jm (top 17)).getD 1 (.Pass ⟨0,0,0,0⟩)
noncomputable abbrev Y7:Stmt:=(Jm (top 17)).getD 2 (.Pass ⟨0,0,0,0⟩)
noncomputable abbrev Yj:Stmt:=(Jm (top 17)).getD 3 (.Pass ⟨0,0,0,0⟩)
noncomputable abbrev Y8:Stmt:=(Jm (top 17)).getD 4 (.Pass ⟨0,0,0,0⟩)
noncomputable abbrev Yl:Stmt:=(Jm (top 18)).getD 0 (.Pass ⟨0,0,0,0⟩)
noncomputable abbrev Qd:Stmt:=(Jm (top 18)).getD 1 (.Pass ⟨0,0,0,0⟩)
noncomputable abbrev yE:Stmt:=(Jm (top 18)).getD 2 (.Pass ⟨0,0,0,0⟩)
noncomputable abbrev Ym:Stmt:=(Jm (top 18)).getD 3 (.Pass ⟨0,0,0,0⟩)
noncomputable abbrev yf:Stmt:=(Jm (top 19)).getD 0 (.Pass ⟨0,0,0,0⟩)
noncomputable abbrev qI:Stmt:=(Jm (top 19)).getD 1 (.Pass ⟨0,0,0,0⟩)
noncomputable abbrev Qo:Stmt:=(Jm (top 19)).getD 2 (.Pass ⟨0,0,0,0⟩)
noncomputable abbrev Q9:Stmt:=(Jm (top 19)).getD 3 (.Pass ⟨0,0,0,0⟩)
noncomputable abbrev Yo:Stmt:=(Jm (top 20)).getD 0 (.Pass ⟨0,0,0,0⟩)
noncomputable abbrev Qe:Stmt:=(Jm (top 20)).getD 1 (.Pass ⟨0,0,0,0⟩)
noncomputable abbrev yF:Stmt:=(Jm (top 20)).getD 2 (.Pass ⟨0,0,0,0⟩)
noncomputable abbrev Yp:Stmt:=(Jm (top 20)).getD 3 (.Pass ⟨0,0,0,0⟩)
noncomputable abbrev QH:Stmt:=(Jm (top 21)).getD 0 (.Pass ⟨0,0,0,0⟩)
noncomputable abbrev Qm:Stmt:=(Jm (top 21)).getD 1 (.Pass ⟨0,0,0,0⟩)
noncomputable abbrev Qn:Stmt:=(Jm (top 21)).getD 2 (.Pass ⟨0,0,0,0⟩)
noncomputable abbrev qY:Stmt:=(Jm (top 21)).getD 3 (.Pass ⟨0,0,0,0⟩)
noncomputable abbrev Q7:Stmt:=(Jm (top 22)).getD 0 (.Pass ⟨0,0,0,0⟩)
noncomputable abbrev yC:Stmt:=(Jm (top 22)).getD 1 (.Pass ⟨0,0,0,0⟩)
noncomputable abbrev Q8:Stmt:=(Jm (top 23)).getD 0 (.Pass ⟨0,0,0,0⟩)
noncomputable abbrev yD:Stmt:=(Jm (top 23)).getD 1 (.Pass ⟨0,0,0,0⟩)
noncomputable abbrev yJ:Stmt:=(Jm (top 49)).getD 0 (.Pass ⟨0,0,0,0⟩)
noncomputable abbrev jfw:Stmt:=(Jm (top 49)).getD 1 (.Pass ⟨0,0,0,0⟩)
noncomputable abbrev zx:Stmt:=(Jm (top 49)).getD 2 (.Pass ⟨0,0,0,0⟩)
noncomputable abbrev yg:Stmt:=(Jm (top 49)).getD 3 (.Pass ⟨0,0,0,0⟩)
noncomputable abbrev Yn:Stmt:=(Jm (top 49)).getD 4 (.Pass ⟨0,0,0,0⟩)
theorem jf3:jH ["thing"] ["thing"] (jt jaD):=⟨rfl,rfl,rfl,by decide +kernel,rfl,by decide +kernel,by decide +kernel⟩
theorem jfF:jH ["thing", "least", "most"] ["thing", "least", "most"] (jt ZL):=⟨rfl,rfl,rfl,by decide +kernel,rfl,by decide +kernel,by decide +kernel⟩
theorem Yw:jH ["numbers", "bundle", "number"] ["numbers"] (jt ZK):=⟨rfl,rfl,rfl,by decide +kernel,rfl,by decide +kernel,by decide +kernel⟩
theorem jfH:jH ["bundle"] ["bundle"] (jt Y9):=⟨rfl,rfl,rfl,by decide +kernel,rfl,by decide +kernel,by decide +kernel⟩
theorem jhg:jH ["bundle"] ["bundle"] (jt jby):=⟨rfl,rfl,rfl,by decide +kernel,rfl,by decide +kernel,by decide +kernel⟩
theorem jiM:jH ["one", "other"] ["one", "other"] (jt jdC):=⟨rfl,rfl,rfl,by decide +kernel,rfl,by decide +kernel,by decide +kernel⟩
theorem za:jH ["bundle", "parts", "number"] ["bundle"] (jt zM):=⟨rfl,rfl,rfl,by decide +kernel,rfl,by decide +kernel,by decide +kernel⟩
theorem jc2:jH ["bundle"] ["bundle"] (jt YL):=⟨rfl,rfl,rfl,by decide +kernel,rfl,by decide +kernel,by decide +kernel⟩
theorem jcE:jH ["number"] ["number"] (jt Yr):=⟨rfl,rfl,rfl,by decide +kernel,rfl,by decide +kernel,by decide +kernel⟩
theorem jc1:jH ["amount"] ["amount"] (jt YK):=⟨rfl,rfl,rfl,by decide +kernel,rfl,by decide +kernel,by decide +kernel⟩
theorem jaW:jH ["bids", "bid"] ["bids"] (jt Zj):=⟨rfl,rfl,rfl,by decide +kernel,rfl,by decide +kernel,by decide +kernel⟩
theorem jed:jH ["bids"] ["bids"] (jt QJ):=⟨rfl,rfl,rfl,by decide +kernel,rfl,by decide +kernel,by decide +kernel⟩
theorem jej:jH ["bids"] ["bids"] (jt QL):=⟨rfl,rfl,rfl,by decide +kernel,rfl,by decide +kernel,by decide +kernel⟩
theorem jaG:jH ["many"] ["many"] (jt qD):=⟨rfl,rfl,rfl,by decide +kernel,rfl,by decide +kernel,by decide +kernel⟩
theorem jei:jH ["one", "other"] ["one", "other"] (jt Yv):=⟨rfl,rfl,rfl,by decide +kernel,rfl,by decide +kernel,by decide +kernel⟩
theorem jec:jH ["one", "other", "bundle"] ["one", "other", "bundle"] (jt Yq):=⟨rfl,rfl,rfl,by decide +kernel,rfl,by decide +kernel,by decide +kernel⟩
theorem jee:jH ["one", "other"] ["one", "other"] (jt Ys):=⟨rfl,rfl,rfl,by decide +kernel,rfl,by decide +kernel,by decide +kernel⟩
theorem jdL:jH ["bundle", "names"] ["bundle", "names"] (jt yG):=⟨rfl,rfl,rfl,by decide +kernel,rfl,by decide +kernel,by decide +kernel⟩
theorem jeg:jH ["bids", "names"] ["bids", "names"] (jt QK):=⟨rfl,rfl,rfl,by decide +kernel,rfl,by decide +kernel,by decide +kernel⟩
theorem jf4:jH ["text", "stock"] ["text", "stock"] (jt jaE):=⟨rfl,rfl,rfl,by decide +kernel,rfl,by decide +kernel,by decide +kernel⟩
theorem jfG:jH ["bid", "stock"] ["bid", "stock"] (jt ZM):=⟨rfl,rfl,rfl,by decide +kernel,rfl,by decide +kernel,by decide +kernel⟩
theorem jb8:jH ["text", "stock", "level"] ["text", "stock", "level"] (jt zK):=⟨rfl,rfl,rfl,by decide +kernel,rfl,by decide +kernel,by decide +kernel⟩
theorem jfE:jH ["inner", "stock", "level"] ["inner", "stock", "level"] (jt yt):=⟨rfl,rfl,rfl,by decide +kernel,rfl,by decide +kernel,by decide +kernel⟩
theorem qL:jH ["inner", "pieces", "begin", "within", "place", "sign"] ["inner"] (jt jcy):=⟨rfl,rfl,rfl,by decide +kernel,rfl,by decide +kernel,by decide +kernel⟩
theorem jb4:jH ["words", "stock"] ["words", "stock"] (jt yK):=⟨rfl,rfl,rfl,by decide +kernel,rfl,by decide +kernel,by decide +kernel⟩
theorem jf2:jH ["words", "form"] ["words", "form"] (jt zL):=⟨rfl,rfl,rfl,by decide +kernel,rfl,by decide +kernel,by decide +kernel⟩
theorem jeh:jH ["place", "stock"] ["place", "stock"] (jt Yu):=⟨rfl,rfl,rfl,by decide +kernel,rfl,by decide +kernel,by decide +kernel⟩
theorem jdK:jH ["word"] ["word"] (jt zy):=⟨rfl,rfl,rfl,by decide +kernel,rfl,by decide +kernel,by decide +kernel⟩
theorem jef:jH ["word"] ["word"] (jt Yt):=⟨rfl,rfl,rfl,by decide +kernel,rfl,by decide +kernel,by decide +kernel⟩
theorem jhf:jH ["thing"] ["thing"] (jt Zz):=⟨rfl,rfl,rfl,by decide +kernel,rfl,by decide +kernel,by decide +kernel⟩
theorem jj3:jH ["_law_script", "_law_k"] ["_law_script", "_law_k"] (jt jfq):=⟨rfl,rfl,rfl,by decide +kernel,rfl,by decide +kernel,by decide +kernel⟩
theorem YM:jH ["_law_cell_here", "_law_size_here", "_law_letters", "_law_word_here", "_law_k", "_law_at"] ["_law_cell_here", "_law_size_here"] (jt jfv):=⟨rfl,rfl,rfl,by decide +kernel,rfl,by decide +kernel,by decide +kernel⟩
theorem J0:jH ["_law_script", "_law_many", "_law_way", "_law_cell_here", "_law_base", "_law_found", "_law_some", "_law_size_here", "_law_at", "_law_k", "_law_letter"] ["_law_script", "_law_many"] (jt jbT):=⟨rfl,rfl,rfl,by decide +kernel,rfl,by decide +kernel,by decide +kernel⟩
theorem jfz:jH ["_law_script", "_law_names_here", "_law_pool"] ["_law_script", "_law_names_here"] (jt jbS):=⟨rfl,rfl,rfl,by decide +kernel,rfl,by decide +kernel,by decide +kernel⟩
theorem jdY:jH ["_law_cell_here", "_law_way"] ["_law_cell_here"] (jt jcw):=⟨rfl,rfl,rfl,by decide +kernel,rfl,by decide +kernel,by decide +kernel⟩
theorem jgB:jH ["_law_cell_here", "_law_other", "_law_last", "_law_word_here"] ["_law_cell_here", "_law_other", "_law_last"] (jt jfu):=⟨rfl,rfl,rfl,by decide +kernel,rfl,by decide +kernel,by decide +kernel⟩
theorem J6:jH ["_law_forms", "_law_cell_here", "_law_number", "_law_found", "_law_row", "_law_k", "_law_way"] ["_law_forms", "_law_cell_here"] (jt jbv):=⟨rfl,rfl,rfl,by decide +kernel,rfl,by decide +kernel,by decide +kernel⟩
theorem jgC:jH ["_law_form_here"] ["_law_form_here"] (jt jab):=⟨rfl,rfl,rfl,by decide +kernel,rfl,by decide +kernel,by decide +kernel⟩
theorem jiK:jH ["_law_bundle", "_law_names_here"] ["_law_bundle", "_law_names_here"] (jt jbU):=⟨rfl,rfl,rfl,by decide +kernel,rfl,by decide +kernel,by decide +kernel⟩
theorem jdE:jH ["_law_form_here", "_law_names_here", "_law_place_here"] ["_law_form_here", "_law_names_here"] (jt jbx):=⟨rfl,rfl,rfl,by decide +kernel,rfl,by decide +kernel,by decide +kernel⟩
theorem jad:jH ["_law_script", "_law_last", "_law_cell_here", "_law_forms", "_law_k"] ["_law_script", "_law_last"] (jt jfs):=⟨rfl,rfl,rfl,by decide +kernel,rfl,by decide +kernel,by decide +kernel⟩
theorem jj4:jH ["_law_bundle"] ["_law_bundle"] (jt jc0):=⟨rfl,rfl,rfl,by decide +kernel,rfl,by decide +kernel,by decide +kernel⟩
theorem jfy:jH ["_law_form_here", "_law_bundle", "_law_there"] ["_law_form_here", "_law_bundle"] (jt jdA):=⟨rfl,rfl,rfl,by decide +kernel,rfl,by decide +kernel,by decide +kernel⟩
theorem yS:jH ["_law_one", "_law_other", "_law_found", "_law_bundle", "_law_best", "_law_part"] ["_law_one", "_law_other"] (jt jcx):=⟨rfl,rfl,rfl,by decide +kernel,rfl,by decide +kernel,by decide +kernel⟩
theorem QM:jH ["_law_form_here", "_law_things", "_law_found", "_law_part", "_law_table_here"] ["_law_form_here", "_law_things"] (jt YJ):=⟨rfl,rfl,rfl,by decide +kernel,rfl,by decide +kernel,by decide +kernel⟩
theorem jfA:jH ["_law_form_here"] ["_law_form_here"] (jt jac):=⟨rfl,rfl,rfl,by decide +kernel,rfl,by decide +kernel,by decide +kernel⟩
theorem jfx:jH ["_law_form_here"] ["_law_form_here"] (jt jaa):=⟨rfl,rfl,rfl,by decide +kernel,rfl,by decide +kernel,by decide +kernel⟩
theorem zm:jH ["_law_form_here", "_law_found", "_law_part"] ["_law_form_here"] (jt jaC):=⟨rfl,rfl,rfl,by decide +kernel,rfl,by decide +kernel,by decide +kernel⟩
theorem jdD:jH ["_law_script", "_law_last", "_law_forms", "_law_k"] ["_law_script", "_law_last"] (jt jfr):=⟨rfl,rfl,rfl,by decide +kernel,rfl,by decide +kernel,by decide +kernel⟩
theorem jaF:jH ["_law_script", "_law_forms", "_law_k"] ["_law_script"] (jt jbw):=⟨rfl,rfl,rfl,by decide +kernel,rfl,by decide +kernel,by decide +kernel⟩
theorem Zk:jH ["_law_script", "_law_base", "_law_at", "_law_found", "_law_k"] ["_law_script"] (jt jdz):=⟨rfl,rfl,rfl,by decide +kernel,rfl,by decide +kernel,by decide +kernel⟩
theorem jiL:jH ["_law_found"] ["_law_found"] (jt jdB):=⟨rfl,rfl,rfl,by decide +kernel,rfl,by decide +kernel,by decide +kernel⟩
theorem yR:jH ["_law_bid", "_law_form_here", "_law_names_here", "_law_things", "_law_told", "_law_found", "_law_due", "_law_worth", "_law_other"] ["_law_bid", "_law_form_here", "_law_names_here", "_law_things"] (jt jft):=⟨rfl,rfl,rfl,by decide +kernel,rfl,by decide +kernel,by decide +kernel⟩
theorem YT:jH ["_law_script", "_law_way", "_law_names_here", "_law_stock", "_law_last", "_law_form_here", "_law_bid", "_law_text_here", "_law_back", "_law_things"] ["_law_script"] (jt jb7):=⟨rfl,rfl,rfl,by decide +kernel,rfl,by decide +kernel,by decide +kernel⟩
theorem jeb:jH ["self", "many"] ["self", "many"] (jt Yk):=⟨rfl,rfl,rfl,by decide +kernel,rfl,by decide +kernel,by decide +kernel⟩
theorem jfB:jH ["self"] ["self"] (jt Y6):=⟨rfl,rfl,rfl,by decide +kernel,rfl,by decide +kernel,by decide +kernel⟩
theorem jfC:jH ["self"] ["self"] (jt Y7):=⟨rfl,rfl,rfl,by decide +kernel,rfl,by decide +kernel,by decide +kernel⟩
theorem jea:jH ["self"] ["self"] (jt Yj):=⟨rfl,rfl,rfl,by decide +kernel,rfl,by decide +kernel,by decide +kernel⟩
theorem jfD:jH ["self", "names"] ["self", "names"] (jt Y8):=⟨rfl,rfl,rfl,by decide +kernel,rfl,by decide +kernel,by decide +kernel⟩
theorem jcz:jH ["self", "bundle", "amount"] ["self", "bundle", "amount"] (jt Yl):=⟨rfl,rfl,rfl,by decide +kernel,rfl,by decide +kernel,by decide +kernel⟩
theorem jdG:jH ["self", "many"] ["self", "many"] (jt Qd):=⟨rfl,rfl,rfl,by decide +kernel,rfl,by decide +kernel,by decide +kernel⟩
theorem jdF:jH ["self"] ["self"] (jt yE):=⟨rfl,rfl,rfl,by decide +kernel,rfl,by decide +kernel,by decide +kernel⟩
theorem zA:jH ["self", "names", "place", "amount"] ["self", "names"] (jt Ym):=⟨rfl,rfl,rfl,by decide +kernel,rfl,by decide +kernel,by decide +kernel⟩
theorem jbz:jH ["self", "kind", "least", "amount"] ["self", "kind", "least", "amount"] (jt yf):=⟨rfl,rfl,rfl,by decide +kernel,rfl,by decide +kernel,by decide +kernel⟩
theorem jcB:jH ["self", "many"] ["self", "many"] (jt qI):=⟨rfl,rfl,rfl,by decide +kernel,rfl,by decide +kernel,by decide +kernel⟩
theorem jcA:jH ["self"] ["self"] (jt Qo):=⟨rfl,rfl,rfl,by decide +kernel,rfl,by decide +kernel,by decide +kernel⟩
theorem Qp:jH ["self", "names", "place", "least", "amount"] ["self", "names"] (jt Q9):=⟨rfl,rfl,rfl,by decide +kernel,rfl,by decide +kernel,by decide +kernel⟩
theorem jcD:jH ["self", "kind", "most", "each"] ["self", "kind", "most", "each"] (jt Yo):=⟨rfl,rfl,rfl,by decide +kernel,rfl,by decide +kernel,by decide +kernel⟩
theorem jdJ:jH ["self", "many"] ["self", "many"] (jt Qe):=⟨rfl,rfl,rfl,by decide +kernel,rfl,by decide +kernel,by decide +kernel⟩
theorem jdI:jH ["self"] ["self"] (jt yF):=⟨rfl,rfl,rfl,by decide +kernel,rfl,by decide +kernel,by decide +kernel⟩
theorem yH:jH ["self", "names", "place", "most", "each"] ["self", "names"] (jt Yp):=⟨rfl,rfl,rfl,by decide +kernel,rfl,by decide +kernel,by decide +kernel⟩
theorem ja7:jH ["self", "bids"] ["self", "bids"] (jt QH):=⟨rfl,rfl,rfl,by decide +kernel,rfl,by decide +kernel,by decide +kernel⟩
theorem Zm:jH ["self"] ["self"] (jt Qm):=⟨rfl,rfl,rfl,by decide +kernel,rfl,by decide +kernel,by decide +kernel⟩
theorem Zn:jH ["self"] ["self"] (jt Qn):=⟨rfl,rfl,rfl,by decide +kernel,rfl,by decide +kernel,by decide +kernel⟩
theorem J1:jH ["self", "bundle", "bid"] ["self"] (jt qY):=⟨rfl,rfl,rfl,by decide +kernel,rfl,by decide +kernel,by decide +kernel⟩
theorem qJ:jH ["self", "many", "best", "bid"] ["self", "many"] (jt Q7):=⟨rfl,rfl,rfl,by decide +kernel,rfl,by decide +kernel,by decide +kernel⟩
theorem YQ:jH ["self", "names", "inner"] ["self", "names"] (jt yC):=⟨rfl,rfl,rfl,by decide +kernel,rfl,by decide +kernel,by decide +kernel⟩
theorem qK:jH ["self", "many", "best", "bid"] ["self", "many"] (jt Q8):=⟨rfl,rfl,rfl,by decide +kernel,rfl,by decide +kernel,by decide +kernel⟩
theorem YS:jH ["self", "names", "inner"] ["self", "names"] (jt yD):=⟨rfl,rfl,rfl,by decide +kernel,rfl,by decide +kernel,by decide +kernel⟩
theorem J2:jH ["self", "rows", "number", "row", "name", "kind"] ["self", "rows"] (jt yJ):=⟨rfl,rfl,rfl,by decide +kernel,rfl,by decide +kernel,by decide +kernel⟩
theorem jdH:jH ["self"] ["self"] (jt zx):=⟨rfl,rfl,rfl,by decide +kernel,rfl,by decide +kernel,by decide +kernel⟩
theorem jbA:jH ["self", "name"] ["self", "name"] (jt yg):=⟨rfl,rfl,rfl,by decide +kernel,rfl,by decide +kernel,by decide +kernel⟩
theorem jcC:jH ["self", "kind"] ["self", "kind"] (jt Yn):=⟨rfl,rfl,rfl,by decide +kernel,rfl,by decide +kernel,by decide +kernel⟩
noncomputable abbrev nv (k:Nat):V:=.int (k:Int)
noncomputable def Zr (_K:PySem.W.Frag):Sp:=fun vs H Q _=>∃ a b:Nat,vs = [.int a,.int b] /\ Q (.bl (decide (a &&& b = b))) H
noncomputable def Yx (_K:PySem.W.Frag):Sp:=fun vs H Q _=>∃ b:Nat,vs = [.int b] /\ b < 64 /\ ∀ l H',Same H H'->H l = none->H' l = some (.lst ((things b).map nv))->Q (.ref l) H'
noncomputable def jca (K:PySem.W.Frag):Sp:=fun vs H Q _=>∃ v n,vs = [v] /\ jeD K H v n /\ Q (.bl (decide (n = Nm.int))) H
noncomputable def QR (K:PySem.W.Frag):Sp:=fun vs H Q _=>∃ v lo hi,vs = [v,.int lo,.int hi] /\ ((∃ n,jeD K H v n /\ n ≠ .int /\ Q (.bl false) H) ∨ (∃ i,v = .int i /\ Q (.bl (decide (lo <= i) && decide (i <= hi))) H))
noncomputable def Qs (_K:PySem.W.Frag):Sp:=fun vs H Q _=>∃ i:Int,vs = [.int i] /\ 1 <= i /\ i <= 63 /\ Q .non H
noncomputable def yM (_K:PySem.W.Frag):Sp:=fun vs H Q _=>∃ i:Int,vs = [.int i] /\ 1 <= i /\ i <= 6 /\ Q .non H
noncomputable def Qq (_K:PySem.W.Frag):Sp:=fun vs H Q _=>∃ i:Int,vs = [.int i] /\ 0 <= i /\ i <= 10 ^ 9 /\ Q .non H
theorem pow6 {n:Nat} (h:n <= 6):2 ^ n <= 64 /\ 0 < 2 ^ n:=⟨(Nat.pow_le_pow_right (n:=2) (by decide) h:2 ^ n <= 2 ^ 6),Nat.two_pow_pos _⟩
theorem rng6 {n:Nat} (h:n <= 6):-(2 ^ 62) <= ((2 ^ n:Nat):Int) /\ ((2 ^ n:Nat):Int) < 2 ^ 62:=by
  have h1:=(pow6 h).1
  have h2:((2 ^ n:Nat):Int) <= 64:=by exact_mod_cast h1
  exact ⟨Int.le_trans (by decide) (Int.natCast_nonneg (2 ^ n)),by omega⟩
noncomputable def JR (ns:List Int) (k:Nat):Int:=if k < ns.length then ns.getD k 0 % 10 ^ 60 else if ns = [] then 7919 * (k:Int) + 5 else (ns.getD (k % ns.length) 0 % 1000003 + 613 * (k:Int)) * (48271 + 2 * (k:Int)) % 2147483647
theorem jgS (ns:List Int) (k:Nat):0 <= JR ns k:=by
  unfold JR
  split
  · exact Int.emod_nonneg _ (by decide)
  · split
    · omega
    · exact Int.emod_nonneg _ (by decide)
noncomputable def yU (K:PySem.W.Frag):Sp:=fun vs H Q _=>∃ (a:Addr) (ns:List Int) (k:Nat),vs = [.ref a,.int k] /\ SqL K H a (ns.map V.int) /\ k <= 1000 /\ ∀ H',Same H H'->Q (.int (JR ns k)) H'
noncomputable def ql (c:Int):Int:=if c % 6 = 0 then 0 else if c % 6 = 1 then 10 ^ 9 else if c % 6 < 4 then 1 + c / 6 % 12 else c / 6 % (10 ^ 9 + 1)
theorem jd2 (c:Int):0 <= ql c:=by
  unfold ql
  split
  · omega
  · split
    · decide
    · split
      · omega
      · exact Int.emod_nonneg _ (by decide)
theorem jhs (c:Int):ql c <= 10 ^ 9:=by
  unfold ql
  split
  · decide
  · split
    · exact Int.le_refl _
    · split
      · omega
      · have:=Int.emod_lt_of_pos (c / 6) (show (0:Int) < 10 ^ 9 + 1 by decide)
        omega
noncomputable def jd0 (_K:PySem.W.Frag):Sp:=fun vs H Q _=>∃ c,vs = [.int c] /\ Q (.int (ql c)) H
theorem put1 (f:Str) (y:V):(putF f y []).length < 1000:=by
  have h:=zg f y []
  rw [List.length_nil] at h; omega
theorem put2 (f g:Str) (y z:V):(putF g z (putF f y [])).length < 1000:=by
  have h:=zg f y []
  have h2:=zg g z (putF f y [])
  rw [List.length_nil] at h; omega
noncomputable abbrev jeY (b:Nat) (m:Int):List (Str × V):=[("bundle",nv b),("amount",.int m)]
noncomputable abbrev jeZ (k l:Nat) (m:Int):List (Str × V):=[("kind",nv k),("least",nv l),("amount",.int m)]
noncomputable abbrev jeX (k c:Nat) (m:Int):List (Str × V):=[("kind",nv k),("most",nv c),("each",.int m)]
theorem jf9 {x k:Nat} (h:k <= 63):x &&& k < 64:=Nat.lt_of_le_of_lt Nat.and_le_right (by omega)
theorem Jr {nos:List Str} {f:Str} (i:Nat) (h:nos[i]? = some f):f ∈ nos:=List.mem_of_getElem? h
noncomputable def qu (_K:PySem.W.Frag) (c:Addr):Sp:=fun vs H Q _=>∃ (a dx:Addr) (b:Nat) (m:Int),vs = [.ref a,nv b,.int m] /\ 1 <= b /\ b <= 63 /\ jex m /\ H a = some (.ins c dx []) /\ Q .non (upd H a (.ins c dx (jeY b m)))
noncomputable def JV (_K:PySem.W.Frag) (c:Addr):Sp:=fun vs H Q _=>∃ (a dx:Addr) (k l:Nat) (m:Int),vs = [.ref a,nv k,nv l,.int m] /\ 1 <= k /\ k <= 63 /\ 1 <= l /\ l <= 6 /\ jex m /\ H a = some (.ins c dx []) /\ Q .non (upd H a (.ins c dx (jeZ k l m)))
noncomputable def qw (_K:PySem.W.Frag) (c:Addr):Sp:=fun vs H Q _=>∃ (a dx:Addr) (k l:Nat) (m:Int),vs = [.ref a,nv k,nv l,.int m] /\ 1 <= k /\ k <= 63 /\ 1 <= l /\ l <= 6 /\ jex m /\ H a = some (.ins c dx []) /\ Q .non (upd H a (.ins c dx (jeX k l m)))
noncomputable def IsBid (jr jj jc ji:Addr) (H:Hp) (a:Addr):Form->Prop
  | .none=>∃ dx,H a = some (.ins jr dx [])
  | .only b m=>∃ dx,H a = some (.ins jj dx (jeY b m))
  | .some k l m=>∃ dx,H a = some (.ins jc dx (jeZ k l m))
  | .most k c m=>∃ dx,H a = some (.ins ji dx (jeX k c m))
noncomputable def word:Form->Str
  | .none => "none"
  | .only _ _ => "only"
  | .some _ _ _ => "some"
  | .most _ _ _ => "most"
noncomputable def Fits:Form->Nat->Nat->Int->Prop
  | .none,_,_,_=>True
  | .only b m,k,_,z=>b = k /\ m = z
  | .some b c m,k,l,z=>b = k /\ c = l /\ m = z
  | .most b c m,k,l,z=>b = k /\ c = l /\ m = z
noncomputable def jeB (H:Hp) (p:Addr) (f:Form):Prop:=∃ (k l:Nat) (z:Int),H p = some (.tup [.str (word f),nv k,nv l,.int z]) /\ k <= 63 /\ Fits f k l z
theorem jeB.same {H H':Hp} {p:Addr} {f:Form} (S:Same H H') (h:jeB H p f):jeB H' p f:=let ⟨k,l,z,e,r⟩:=h; ⟨k,l,z,S _ _ e,r⟩
noncomputable abbrev jhE (l:Addr):List (Str × V):=[("bids",.ref l)]
noncomputable def qe (any:Bool):Str:=if any = true then "any" else "one"
noncomputable def IsTr (jr jj jc ji jd je:Addr) (A:Addr->Prop) (H:Hp):Nat->Addr->Tr->Prop
  | 0,_,_=>False
  | _ + 1,a,.leaf f=>Qk f /\ IsBid jr jj jc ji H a f
  | d + 1,a,.node any ts=>∃ (dx l:Addr) (bs:List Addr),H a = some (.ins (if any = true then jd else je) dx (jhE l)) /\ A l /\ H l = some (.lst (bs.map V.ref)) /\ All2 (IsTr jr jj jc ji jd je A H d) bs ts
noncomputable def FT (A:Addr->Prop) (H:Hp):Nat->Addr->Tr->Prop
  | 0,_,_=>False
  | _ + 1,p,.leaf f=>Qk f /\ jeB H p f
  | d + 1,p,.node any ts=>∃ (l:Addr) (ps:List Addr),H p = some (.tup [.str (qe any),.ref l]) /\ A l /\ H l = some (.lst (ps.map V.ref)) /\ All2 (FT A H d) ps ts
section
variable {c1 c2 c3 c4 c5 c6:Addr} {A B:Addr->Prop} {H H':Hp}
theorem IsTr.move (hI:∀ a C dx fs,H a = some (.ins C dx fs)->H' a = some (.ins C dx fs)) (hL:∀ l zs,A l->H l = some (.lst zs)->B l /\ H' l = some (.lst zs)) :
    ∀ (d:Nat) {a:Addr} {t:Tr},IsTr c1 c2 c3 c4 c5 c6 A H d a t->IsTr c1 c2 c3 c4 c5 c6 B H' d a t
  | 0,_,_,h=>h
  | _ + 1,a,.leaf f,h=>⟨h.1,by cases f <;> obtain ⟨dx,e⟩:=h.2 <;> exact ⟨dx,hI _ _ _ _ e⟩⟩
  | d + 1,a,.node any ts,h=>by
    obtain ⟨dx,l,bs,e1,e2,e3,e4⟩:=h
    exact ⟨dx,l,bs,hI _ _ _ _ e1,(hL l _ e2 e3).1,(hL l _ e2 e3).2,e4.imp fun x y _ z=>IsTr.move hI hL d z⟩
theorem IsTr.same {d:Nat} {a:Addr} {t:Tr} (S:Same H H') (h:IsTr c1 c2 c3 c4 c5 c6 A H d a t):IsTr c1 c2 c3 c4 c5 c6 A H' d a t:=IsTr.move (fun a C dx fs e=>S _ _ e) (fun l zs hA e=>⟨hA,S _ _ e⟩) d h
theorem IsTr.put {d:Nat} {a m:Addr} {t:Tr} {zs:List V} {o:HO} (h:IsTr c1 c2 c3 c4 c5 c6 A H d a t) (hm:H m = some (.lst zs)) (hA:¬ A m):IsTr c1 c2 c3 c4 c5 c6 A (upd H m o) d a t :=
  IsTr.move (fun a C dx fs e=>by rw [jM (fun q=>by rw [q,hm] at e; cases e)]; exact e) (fun l zs hl e=>⟨hl,by rw [jM (fun q=>by subst q; exact hA hl)]; exact e⟩) d h
theorem IsTr.imp {d:Nat} {a:Addr} {t:Tr} (h:IsTr c1 c2 c3 c4 c5 c6 A H d a t) (f:∀ l zs,A l->H l = some (.lst zs)->B l):IsTr c1 c2 c3 c4 c5 c6 B H d a t:=IsTr.move (fun a C dx fs e=>e) (fun l zs hA e=>⟨f l zs hA e,e⟩) d h
theorem IsTr.to:∀ (d e:Nat) {a:Addr} {t:Tr},IsTr c1 c2 c3 c4 c5 c6 A H d a t->j7 t <= e->IsTr c1 c2 c3 c4 c5 c6 A H e a t
  | 0,_,_,_,h,_=>h.elim
  | d + 1,0,a,t,h,le=>by have:=jdk t; omega
  | d + 1,e + 1,a,.leaf f,h,le=>h
  | d + 1,e + 1,a,.node any ts,h,le=>by
    obtain ⟨dx,l,bs,e1,e2,e3,e4⟩:=h
    have le':1 + jW ts <= e + 1:=le
    exact ⟨dx,l,bs,e1,e2,e3,e4.imp fun x y hy z=>IsTr.to d e z (by have:=Qh hy; omega)⟩
theorem FT.move (hI:∀ a xs,H a = some (.tup xs)->H' a = some (.tup xs)) (hL:∀ l zs,A l->H l = some (.lst zs)->B l /\ H' l = some (.lst zs)) :
    ∀ (d:Nat) {a:Addr} {t:Tr},FT A H d a t->FT B H' d a t
  | 0,_,_,h=>h
  | _ + 1,a,.leaf f,h=>⟨h.1,by obtain ⟨k,l,z,e,r⟩:=h.2; exact ⟨k,l,z,hI _ _ e,r⟩⟩
  | d + 1,a,.node any ts,h=>by
    obtain ⟨l,bs,e1,e2,e3,e4⟩:=h
    exact ⟨l,bs,hI _ _ e1,(hL l _ e2 e3).1,(hL l _ e2 e3).2,e4.imp fun x y _ z=>FT.move hI hL d z⟩
theorem FT.same {d:Nat} {a:Addr} {t:Tr} (S:Same H H') (h:FT A H d a t):FT A H' d a t:=FT.move (fun a xs e=>S _ _ e) (fun l zs hA e=>⟨hA,S _ _ e⟩) d h
theorem FT.put {d:Nat} {a m:Addr} {t:Tr} {zs:List V} {o:HO} (h:FT A H d a t) (hm:H m = some (.lst zs)) (hA:¬ A m):FT A (upd H m o) d a t :=
  FT.move (fun a xs e=>by rw [jM (fun q=>by rw [q,hm] at e; cases e)]; exact e) (fun l zs hl e=>⟨hl,by rw [jM (fun q=>by subst q; exact hA hl)]; exact e⟩) d h
theorem FT.imp {d:Nat} {a:Addr} {t:Tr} (h:FT A H d a t) (f:∀ l zs,A l->H l = some (.lst zs)->B l):FT B H d a t:=FT.move (fun a xs e=>e) (fun l zs hA e=>⟨f l zs hA e,e⟩) d h
theorem FT.to:∀ (d e:Nat) {a:Addr} {t:Tr},FT A H d a t->j7 t <= e->FT A H e a t
  | 0,_,_,_,h,_=>h.elim
  | d + 1,0,a,t,h,le=>by have:=jdk t; omega
  | d + 1,e + 1,a,.leaf f,h,le=>h
  | d + 1,e + 1,a,.node any ts,h,le=>by
    obtain ⟨l,bs,e1,e2,e3,e4⟩:=h
    have le':1 + jW ts <= e + 1:=le
    exact ⟨l,bs,e1,e2,e3,e4.imp fun x y hy z=>FT.to d e z (by have:=Qh hy; omega)⟩
end
noncomputable def sp1:Sp:=fun vs H Q _=>∃ a:Addr,vs = [.ref a] /\ Q (.int 1) H
noncomputable def jdZ (val:Tr->Nat) (jr jj jc ji jb jd je jf:Addr) (d:Nat):Sp:=fun vs H Q _=>∃ (a:Addr) (any:Bool) (ts:List Tr) (A:Addr->Prop),vs = [.ref a] /\ IsTr jr jj jc ji jd je A H d a (.node any ts) /\ jN ts <= 100 /\ ∀ H',Same H H'->Q (nv (val (.node any ts))) H'
noncomputable def jdM (val:List Tr->Nat) (jr jj jc ji jb jd je jf:Addr) (d:Nat):Sp:=fun vs H Q _=>∃ (l:Addr) (bs:List Addr) (ts:List Tr) (A:Addr->Prop),vs = [.ref l] /\ H l = some (.lst (bs.map V.ref)) /\ All2 (IsTr jr jj jc ji jd je A H d) bs ts /\ jN ts <= 100 /\ ∀ H',Same H H'->Q (nv (1 + val ts)) H'
noncomputable def T1 (val:Tr->Nat) (jr jj jc ji jb jd je jf:Addr) (d:Nat):Addr->Sp->Prop:=fun C sp=>((C = jr ∨ C = jj ∨ C = jc ∨ C = ji) /\ sp = sp1) ∨ ((C = jd ∨ C = je) /\ sp = jdZ val jr jj jc ji jb jd je jf d)
noncomputable def T_depth (_K:PySem.W.Frag) (jr jj jc ji jb jd je jf:Addr):Addr->Sp->Prop:=T1 j7 jr jj jc ji jb jd je jf 5
noncomputable def T_tally (_K:PySem.W.Frag) (jr jj jc ji jb jd je jf:Addr):Addr->Sp->Prop:=T1 jV jr jj jc ji jb jd je jf 5
noncomputable def jfP (_K:PySem.W.Frag) (_c:Addr):Sp:=sp1
noncomputable def jfQ (_K:PySem.W.Frag) (_c:Addr):Sp:=sp1
noncomputable def jek (_K:PySem.W.Frag) (jr jj jc ji jb jd je jf:Addr):Sp:=jdM jW jr jj jc ji jb jd je jf 4
noncomputable def jel (_K:PySem.W.Frag) (jr jj jc ji jb jd je jf:Addr):Sp:=jdM jN jr jj jc ji jb jd je jf 4
noncomputable def ja3 (_K:PySem.W.Frag) (jr jj jc ji jb jd je jf:Addr):Sp:=fun vs H Q _=>∃ (l:Addr) (bs:List Addr) (ts:List Tr) (A:Addr->Prop) (d:Nat),vs = [.ref l] /\ H l = some (.lst (bs.map V.ref)) /\ All2 (IsTr jr jj jc ji jd je A H d) bs ts /\ jW ts <= 3 /\ jN ts <= 23 /\ ∀ H',Same H H'->Q .non H'
noncomputable def j9 (_K:PySem.W.Frag) (c jr jj jc ji jb jd je jf:Addr):Sp:=fun vs H Q _=>∃ (a dx l:Addr) (bs:List Addr) (ts:List Tr) (A:Addr->Prop) (d:Nat),vs = [.ref a,.ref l] /\ H a = some (.ins c dx []) /\ (c = jd ∨ c = je) /\ H l = some (.lst (bs.map V.ref)) /\ All2 (IsTr jr jj jc ji jd je A H d) bs ts /\ jW ts <= 3 /\ jN ts <= 23 /\ ∀ H1 lb,Same H H1->H1 lb = none->Q .non (upd (upd H1 lb (.lst (bs.map V.ref))) a (.ins c dx (jhE lb)))
noncomputable def jhi (jr jj jc ji jb jd je jf:Addr) (d:Nat):Sp:=fun vs H Q _=>∃ (p:Addr) (t:Tr) (A:Addr->Prop),vs = [.ref p] /\ FT A H d p t /\ j7 t <= 4 /\ jV t <= 24 /\ ∀ a H',Same H H'->IsTr jr jj jc ji jd je (fun l=>H l = none) H' d a t->Q (.ref a) H'
noncomputable def jj6 (_K:PySem.W.Frag) (jr jj jc ji jb jd je jf:Addr):Sp:=jhi jr jj jc ji jb jd je jf 4
noncomputable def zO (_K:PySem.W.Frag):Sp:=fun vs H Q _=>∃ b:Nat,vs = [.int b] /\ b < 64 /\ ∀ H',Same H H'->Q (nv (things b).length) H'
noncomputable def JP (_K:PySem.W.Frag):Sp:=fun vs H Q _=>∃ n:Nat,vs = [nv n] /\ n <= 6 /\ ∀ l H',Same H H'->H l = none->H' l = some (.lst (((List.range (2 ^ n)).map fun _=>(0:Int)).map V.int))->Q (.ref l) H'
noncomputable def jfO (K:PySem.W.Frag):Sp:=fun vs H Q _=>∃ v n,vs = [v] /\ jeD K H v n /\ Q (.bl (decide (n = Nm.int))) H
noncomputable def Tells (f:Form) (n:Nat) (H:Hp) (Q:VK):Prop:=∀ l H',Same H H'->H l = Option.none->H' l = Option.some (.lst ((jew f n).map V.int))->Q (.ref l) H'
noncomputable def jaZ (_K:PySem.W.Frag) (c:Addr):Sp:=fun vs H Q _=>∃ (a dx:Addr) (n:Nat),vs = [.ref a,nv n] /\ n <= 6 /\ H a = some (.ins c dx []) /\ Tells .none n H Q
noncomputable def jaf (_K:PySem.W.Frag) (c:Addr):Sp:=fun vs H Q _=>∃ (a dx:Addr) (n b:Nat) (m:Int),vs = [.ref a,nv n] /\ n <= 6 /\ b <= 63 /\ H a = some (.ins c dx (jeY b m)) /\ Tells (.only b m) n H Q
noncomputable def Zq (_K:PySem.W.Frag) (c:Addr):Sp:=fun vs H Q _=>∃ (a dx:Addr) (n k l:Nat) (m:Int),vs = [.ref a,nv n] /\ n <= 6 /\ k <= 63 /\ H a = some (.ins c dx (jeZ k l m)) /\ Tells (.some k l m) n H Q
noncomputable def jah (_K:PySem.W.Frag) (c:Addr):Sp:=fun vs H Q _=>∃ (a dx:Addr) (n k l:Nat) (m:Int),vs = [.ref a,nv n] /\ n <= 6 /\ k <= 63 /\ H a = some (.ins c dx (jeX k l m)) /\ Tells (.most k l m) n H Q
noncomputable def jgG (_K:PySem.W.Frag):Sp:=fun vs H Q _=>∃ b:Nat,vs = [nv b] /\ b < 64 /\ ∀ H',Same H H'->Q (nv (things b).length) H'
noncomputable def jcF (_K:PySem.W.Frag):Sp:=fun vs H Q _=>∃ (p:Addr) (f:Form) (x:Nat),vs = [.ref p,nv x] /\ Qk f /\ jeB H p f /\ x < 64 /\ ∀ H',Same H H'->Q (.int (Q0 f x)) H'
noncomputable def yz (ks:List Nat):List Nat:=ks.foldl (fun ps k=>ps ++ ps.map (· ||| 2 ^ k)) [0]
noncomputable def partsOf (b:Nat):List Nat:=yz (things b)
theorem jg7 (ks:List Nat) (k:Nat):yz (ks ++ [k]) = yz ks ++ (yz ks).map (· ||| 2 ^ k):=by
  unfold yz; rw [List.foldl_append]; rfl
theorem jhX (ks:List Nat):(yz ks).length = 2 ^ ks.length:=by
  unfold yz
  have key:∀ (ks ps:List Nat),(ks.foldl (fun ps k=>ps ++ ps.map (· ||| 2 ^ k)) ps).length = ps.length * 2 ^ ks.length:=by
    intro ks
    induction ks with
    | nil=>intro ps; simp
    | cons k ks ih =>
      intro ps
      rw [List.foldl_cons,ih,List.length_append,List.length_map,List.length_cons,Nat.pow_succ,<- Nat.two_mul,Nat.mul_comm 2,Nat.mul_assoc,Nat.mul_comm 2]
  rw [key]; simp
noncomputable def jcb (_K:PySem.W.Frag):Sp:=fun vs H Q _=>∃ b:Nat,vs = [.int b] /\ b < 64 /\ ∀ l H',Same H H'->H l = none->H' l = some (.lst ((partsOf b).map nv))->Q (.ref l) H'
noncomputable def jbD (K:PySem.W.Frag):Sp:=fun vs H Q _=>∃ (p:Addr) (ks:List Nat),vs = [.ref p] /\ SqL K H p (ks.map nv) /\ once 0 ks = true /\ Q (nv (bun 0 ks)) H
noncomputable def jc3 (_K:PySem.W.Frag):Sp:=fun vs H Q _=>∃ (l:Addr) (ps:List Addr) (ts:List Tr) (A:Addr->Prop) (d:Nat) (c:Int),vs = [.ref l,.int c] /\ H l = some (.lst (ps.map V.ref)) /\ All2 (FT A H d) ps ts /\ ts.length <= 100 /\ ∀ l2 H' qs us,Same H H'->H' l2 = some (.lst (qs.map V.ref))->All2 (FT (fun _=>True) H' (d + 1)) qs us->jW us <= jW ts + 1->us.length <= ts.length->jN us <= jN ts + ts.length->(∃ x,Jg us ||| x = Jg ts)->Q (.ref l2) H'
section
variable {P:Program} {w:World} {K:PySem.W.Frag} {mg:Str->Option Value} {base:Heap}
variable {jr jj jc ji jb jd je jf:Addr}
theorem jiH {f:Addr} {fd:FuncData} (F:Fun K "holds" "holds" jdC f fd) (jF:mg "holds" = some (.ref f)):jE P w K mg base 1 "holds" ["one", "other"] [] (Zr K):=by
  refine F.jT jF (bnd2 F fun _ _ _ _ _ _ _ _=>rfl) jiM (fun vs H Q E h=>?_) (fun cdv A outer s H vs Q E hr h=>?_)
  · obtain ⟨a,b,rfl,_⟩:=h; rfl
  obtain ⟨a,b,rfl,q⟩:=h
  refine ⟨_,(R.jn (R.jG (R.Y5 JN (R.jD jbP (R.pv 0) (R.pv 1)) (R.pv 1) (jZ _)))),?_⟩
  refine ⟨_,rfl,_,rfl,a,b,rfl,rfl,_,rfl,rfl,?_⟩
  rw [jav]; exact q
theorem jfd {f:Addr} {fd:FuncData} (F:Fun K "things_in" "things_in" Y9 f fd) (jF:mg "things_in" = some (.ref f)) (jQ:mg "range" = none)
    (qF:jE P w K mg base 1 "holds" ["one", "other"] [] (Zr K)):jE P w K mg base 2 "things_in" ["bundle"] [] (Yx K):=by
  refine F.jT jF (bnd1 F fun _ _ _ _ _ _ _=>rfl) jfH (fun vs H Q E h=>?_) (fun cdv A outer s H vs Q E hr h=>?_)
  · obtain ⟨b,rfl,_⟩:=h; rfl
  obtain ⟨b,rfl,hb,q⟩:=h
  refine ⟨_,(R.jn (R.jG (R.Jj (jt Y9) ["bundle"] ["number"] ["bundle"] [0] rfl rfl rfl ⟨s.heap.objs.size + 1,rfl⟩ rfl rfl (by decide +kernel) (R.Ji rfl jQ (R.pa_c (R.jg8 (R.pv 0)) R.jh)) (fun C s2 H2 fp=>(R.jP (i:=0) (show List.Nodup (["number", "bundle"]:List Str) from by decide +kernel) rfl (Or.inl rfl))) (fun C s2 H2 fp=>(R.jha (R.Jt (R.jw qF hr (by first | decide | omega) rfl (R.pa_c (R.pv 1) (R.pa_c (R.jD yx R.jg (R.pv 0)) R.jh)))))) (fun C s2 H2 fp=>(R.pv 0))))),?_⟩
  have b6:=bits64 hb
  refine ⟨_,rfl,_,rfl,_,rfl,by omega,by omega,fun l hl=>?_⟩
  rw [Int.toNat_natCast]
  refine JD (fun k=>decide (b &&& 2 ^ k = 2 ^ k)) nv (by omega) hl ?_ ?_ ?_
  · intro k H1 hk s1 C hC
    rw [Int.zero_add]
    exact ⟨_,rfl,_,rfl,k,rfl,rfl,by omega,b,2 ^ k,rfl,_,rfl,hC _ (Same.refl _)⟩
  · intro k H1 hk _ s1 C hC
    rw [Int.zero_add]
    exact ⟨_,rfl,hC _ (Same.refl _)⟩
  · intro H1 s1 e1
    rw [jhu,jh9 b hb] at e1
    exact q l H1 s1 hl e1
theorem jbY:∀ n:Nm,(isN n .int = true->(!isN n .bl) = decide (n = .int)) /\ (¬ isN n .int = true->false = decide (n = .int)):=by intro n; cases n <;> decide
theorem jfZ {f:Addr} {fd:FuncData} (F:Fun K "is_whole" "is_whole" jaD f fd) (jF:mg "is_whole" = some (.ref f)) (jY:mg "isinstance" = none) (Z3:mg "int" = none) (jdp:mg "bool" = none):jE P w K mg base 1 "is_whole" ["thing"] [] (jca K):=by
  refine F.jT jF (bnd1 F fun _ _ _ _ _ _ _=>rfl) jf3 (fun vs H Q E h=>?_) (fun cdv A outer s H vs Q E hr h=>?_)
  · obtain ⟨v,n,rfl,_⟩:=h; rfl
  obtain ⟨v,n,rfl,hk,q⟩:=h
  refine ⟨_,(R.jn (R.jG (R.jdy (R.Zf .int rfl jY rfl Z3 (R.pv 0)) (R.jbr (R.jfi (R.Zf .bl rfl jY rfl jdp (R.pv 0))))))),?_⟩
  refine ⟨_,rfl,v,n,rfl,hk,_,rfl,?_⟩
  refine ite2 (fun c=>?_) (fun c=>?_)
  · refine ⟨_,rfl,v,n,rfl,hk,_,rfl,?_⟩
    rw [(jbY n).1 c]; exact q
  · show Q (.bl false) H
    rw [(jbY n).2 c]; exact q
theorem jfb {f:Addr} {fd:FuncData} (F:Fun K "is_within" "is_within" ZL f fd) (jF:mg "is_within" = some (.ref f))
    (jan:jE P w K mg base 1 "is_whole" ["thing"] [] (jca K)):jE P w K mg base 2 "is_within" ["thing", "least", "most"] [] (QR K):=by
  refine F.jT jF (bnd3 F fun _ _ _ _ _ _ _ _ _=>rfl) jfF (fun vs H Q E h=>?_) (fun cdv A outer s H vs Q E hr h=>?_)
  · obtain ⟨v,lo,hi,rfl,_⟩:=h; rfl
  obtain ⟨v,lo,hi,rfl,h⟩:=h
  refine ⟨_,(R.jn (R.jG (R.jdy (R.jw jan hr (by first | decide | omega) rfl (R.pa_c (R.pv 0) R.jh)) (R.jbr (R.jbq jgw jgw (R.pv 1) (R.pv 0) (R.pv 2)))))),?_⟩
  rcases h with ⟨n,hk,hn,q⟩ | ⟨i,rfl,q⟩
  · refine ⟨_,rfl,v,n,rfl,hk,_,rfl,?_⟩
    rw [decide_eq_false hn]
    exact iteF q
  · refine ⟨_,rfl,_,.int,rfl,TyOf.int _,_,rfl,iteT ?_⟩
    refine ⟨_,rfl,_,rfl,_,_,rfl,rfl,_,rfl,?_⟩
    refine ite2 (fun c=>?_) (fun c=>?_)
    · refine ⟨_,rfl,_,_,rfl,rfl,?_⟩
      rw [c,Bool.true_and] at q; exact q
    · rw [Bool.eq_false_iff.mpr c,Bool.false_and] at q; exact q
theorem within {lo i hi:Int} (h1:lo <= i) (h2:i <= hi):(decide (lo <= i) && decide (i <= hi)) = true:=by rw [decide_eq_true h1,decide_eq_true h2]; rfl
theorem jcT {f:Addr} {fd:FuncData} (F:Fun K "check_bundle" "check_bundle" YL f fd) (jF:mg "check_bundle" = some (.ref f))
    (Jv:jE P w K mg base 2 "is_within" ["thing", "least", "most"] [] (QR K)):jE P w K mg base 3 "check_bundle" ["bundle"] [] (Qs K):=by
  refine F.jT jF (bnd1 F fun _ _ _ _ _ _ _=>rfl) jc2 (fun vs H Q E h=>?_) (fun cdv A outer s H vs Q E hr h=>?_)
  · obtain ⟨i,rfl,_⟩:=h; rfl
  obtain ⟨i,rfl,h1,h2,q⟩:=h
  refine ⟨_,(R.jn (R.j8 (R.JZ (R.Jt (R.jw Jv hr (by first | decide | omega) rfl (R.pa_c (R.pv 0) (R.pa_c R.jg (R.pa_c R.jg R.jh)))))) (R.jn R.JB) R.jL)),?_⟩
  refine ⟨_,rfl,_,1,63,rfl,.inr ⟨_,rfl,_,rfl,?_⟩⟩
  rw [within h1 h2]
  exact iteF q
theorem jcr {f:Addr} {fd:FuncData} (F:Fun K "check_so_many" "check_so_many" Yr f fd) (jF:mg "check_so_many" = some (.ref f))
    (Jv:jE P w K mg base 2 "is_within" ["thing", "least", "most"] [] (QR K)):jE P w K mg base 3 "check_so_many" ["number"] [] (yM K):=by
  refine F.jT jF (bnd1 F fun _ _ _ _ _ _ _=>rfl) jcE (fun vs H Q E h=>?_) (fun cdv A outer s H vs Q E hr h=>?_)
  · obtain ⟨i,rfl,_⟩:=h; rfl
  obtain ⟨i,rfl,h1,h2,q⟩:=h
  refine ⟨_,(R.jn (R.j8 (R.JZ (R.Jt (R.jw Jv hr (by first | decide | omega) rfl (R.pa_c (R.pv 0) (R.pa_c R.jg (R.pa_c R.jg R.jh)))))) (R.jn R.JB) R.jL)),?_⟩
  refine ⟨_,rfl,_,1,6,rfl,.inr ⟨_,rfl,_,rfl,?_⟩⟩
  rw [within h1 h2]
  exact iteF q
theorem jcS {f:Addr} {fd:FuncData} (F:Fun K "check_amount" "check_amount" YK f fd) (jF:mg "check_amount" = some (.ref f))
    (Jv:jE P w K mg base 2 "is_within" ["thing", "least", "most"] [] (QR K)):jE P w K mg base 3 "check_amount" ["amount"] [] (Qq K):=by
  refine F.jT jF (bnd1 F fun _ _ _ _ _ _ _=>rfl) jc1 (fun vs H Q E h=>?_) (fun cdv A outer s H vs Q E hr h=>?_)
  · obtain ⟨i,rfl,_⟩:=h; rfl
  obtain ⟨i,rfl,h1,h2,q⟩:=h
  refine ⟨_,(R.jn (R.j8 (R.JZ (R.Jt (R.jw Jv hr (by first | decide | omega) rfl (R.pa_c (R.pv 0) (R.pa_c R.jg (R.pa_c (R.jD jfe R.jg R.jg) R.jh)))))) (R.jn R.JB) R.jL)),?_⟩
  refine ⟨_,rfl,_,_,rfl,rfl,⟨by decide,by decide,by decide⟩,_,0,10 ^ 9,rfl,.inr ⟨_,rfl,_,rfl,?_⟩⟩
  rw [within h1 h2]
  exact iteF q
theorem jcm {f:Addr} {fd:FuncData} (F:Fun K "__init__" "Only.__init__" Yl f fd)
    (Jx:jE P w K mg base 3 "check_bundle" ["bundle"] [] (Qs K))
    (Jw:jE P w K mg base 3 "check_amount" ["amount"] [] (Qq K))
    (jK:Own K mg "Bid" jr [])
    (jC:Own K mg "Only" jj ["bundle", "amount"])
    (jq:Own K mg "SoMany" jc ["kind", "least", "amount"])
    (jB:Own K mg "UpTo" ji ["kind", "most", "each"])
    (ju:Own K mg "Several" jb ["bids"])
    (jy:Own K mg "AnyOf" jd ["bids"])
    (jz:Own K mg "OneOf" je ["bids"])
    (jx:Own K mg "Stock" jf ["numbers", "kinds"]):FnOk P w K mg base CX0 4 f fd ["self", "bundle", "amount"] (qu K jj):=by
  refine F.okQ jcz (fun vs H Q E h=>?_) (fun cdv A outer s H vs Q E hr h=>?_)
  · obtain ⟨a,dx,b,m,rfl,_⟩:=h; rfl
  obtain ⟨a,dx,b,m,rfl,b1,b2,hm,e,q⟩:=h
  refine ⟨_,(R.jk (R.JQ (R.jw Jx hr (by first | decide | omega) rfl (R.pa_c (R.pv 1) R.jh)))
    (R.jk (R.JQ (R.jw Jw hr (by first | decide | omega) rfl (R.pa_c (R.pv 2) R.jh)))
    (R.jk (R.YG (R.pv 0) (R.pv 1))
    (R.jn (R.YG (R.pv 0) (R.pv 2)))))),?_⟩
  refine ⟨_,rfl,(b:Int),rfl,by omega,by omega,?_⟩
  refine ⟨_,rfl,m,rfl,hm.lo,hm.hi,?_⟩
  refine ⟨_,rfl,_,rfl,a,jj,dx,[],rfl,e,jC.cls,jC.no _ (Jr 0 rfl),by decide,?_⟩
  refine ⟨_,rfl,_,rfl,a,jj,dx,_,rfl,jm,jC.cls,jC.no _ (Jr 1 rfl),put1 _ _,?_⟩
  rw [jc8]
  exact q
theorem jbo {f:Addr} {fd:FuncData} (F:Fun K "__init__" "SoMany.__init__" yf f fd)
    (Jx:jE P w K mg base 3 "check_bundle" ["bundle"] [] (Qs K))
    (JW:jE P w K mg base 3 "check_so_many" ["number"] [] (yM K))
    (Jw:jE P w K mg base 3 "check_amount" ["amount"] [] (Qq K))
    (jK:Own K mg "Bid" jr [])
    (jC:Own K mg "Only" jj ["bundle", "amount"])
    (jq:Own K mg "SoMany" jc ["kind", "least", "amount"])
    (jB:Own K mg "UpTo" ji ["kind", "most", "each"])
    (ju:Own K mg "Several" jb ["bids"])
    (jy:Own K mg "AnyOf" jd ["bids"])
    (jz:Own K mg "OneOf" je ["bids"])
    (jx:Own K mg "Stock" jf ["numbers", "kinds"]):FnOk P w K mg base CX0 4 f fd ["self", "kind", "least", "amount"] (JV K jc):=by
  refine F.okQ jbz (fun vs H Q E h=>?_) (fun cdv A outer s H vs Q E hr h=>?_)
  · obtain ⟨a,dx,k,l,m,rfl,_⟩:=h; rfl
  obtain ⟨a,dx,k,l,m,rfl,k1,k2,l1,l2,hm,e,q⟩:=h
  refine ⟨_,(R.jk (R.JQ (R.jw Jx hr (by first | decide | omega) rfl (R.pa_c (R.pv 1) R.jh)))
    (R.jk (R.JQ (R.jw JW hr (by first | decide | omega) rfl (R.pa_c (R.pv 2) R.jh)))
    (R.jk (R.JQ (R.jw Jw hr (by first | decide | omega) rfl (R.pa_c (R.pv 3) R.jh)))
    (R.jk (R.YG (R.pv 0) (R.pv 1))
    (R.jk (R.YG (R.pv 0) (R.pv 2))
    (R.jn (R.YG (R.pv 0) (R.pv 3)))))))),?_⟩
  refine ⟨_,rfl,(k:Int),rfl,by omega,by omega,?_⟩
  refine ⟨_,rfl,(l:Int),rfl,by omega,by omega,?_⟩
  refine ⟨_,rfl,m,rfl,hm.lo,hm.hi,?_⟩
  refine ⟨_,rfl,_,rfl,a,jc,dx,[],rfl,e,jq.cls,jq.no _ (Jr 0 rfl),by decide,?_⟩
  refine ⟨_,rfl,_,rfl,a,jc,dx,_,rfl,jm,jq.cls,jq.no _ (Jr 1 rfl),put1 _ _,?_⟩
  refine ⟨_,rfl,_,rfl,a,jc,dx,_,rfl,jm,jq.cls,jq.no _ (Jr 2 rfl),put2 _ _ _ _,?_⟩
  rw [jc8,jc8]
  exact q
theorem jcq {f:Addr} {fd:FuncData} (F:Fun K "__init__" "UpTo.__init__" Yo f fd)
    (Jx:jE P w K mg base 3 "check_bundle" ["bundle"] [] (Qs K))
    (JW:jE P w K mg base 3 "check_so_many" ["number"] [] (yM K))
    (Jw:jE P w K mg base 3 "check_amount" ["amount"] [] (Qq K))
    (jK:Own K mg "Bid" jr [])
    (jC:Own K mg "Only" jj ["bundle", "amount"])
    (jq:Own K mg "SoMany" jc ["kind", "least", "amount"])
    (jB:Own K mg "UpTo" ji ["kind", "most", "each"])
    (ju:Own K mg "Several" jb ["bids"])
    (jy:Own K mg "AnyOf" jd ["bids"])
    (jz:Own K mg "OneOf" je ["bids"])
    (jx:Own K mg "Stock" jf ["numbers", "kinds"]):FnOk P w K mg base CX0 4 f fd ["self", "kind", "most", "each"] (qw K ji):=by
  refine F.okQ jcD (fun vs H Q E h=>?_) (fun cdv A outer s H vs Q E hr h=>?_)
  · obtain ⟨a,dx,k,l,m,rfl,_⟩:=h; rfl
  obtain ⟨a,dx,k,l,m,rfl,k1,k2,l1,l2,hm,e,q⟩:=h
  refine ⟨_,(R.jk (R.JQ (R.jw Jx hr (by first | decide | omega) rfl (R.pa_c (R.pv 1) R.jh)))
    (R.jk (R.JQ (R.jw JW hr (by first | decide | omega) rfl (R.pa_c (R.pv 2) R.jh)))
    (R.jk (R.JQ (R.jw Jw hr (by first | decide | omega) rfl (R.pa_c (R.pv 3) R.jh)))
    (R.jk (R.YG (R.pv 0) (R.pv 1))
    (R.jk (R.YG (R.pv 0) (R.pv 2))
    (R.jn (R.YG (R.pv 0) (R.pv 3)))))))),?_⟩
  refine ⟨_,rfl,(k:Int),rfl,by omega,by omega,?_⟩
  refine ⟨_,rfl,(l:Int),rfl,by omega,by omega,?_⟩
  refine ⟨_,rfl,m,rfl,hm.lo,hm.hi,?_⟩
  refine ⟨_,rfl,_,rfl,a,ji,dx,[],rfl,e,jB.cls,jB.no _ (Jr 0 rfl),by decide,?_⟩
  refine ⟨_,rfl,_,rfl,a,ji,dx,_,rfl,jm,jB.cls,jB.no _ (Jr 1 rfl),put1 _ _,?_⟩
  refine ⟨_,rfl,_,rfl,a,ji,dx,_,rfl,jm,jB.cls,jB.no _ (Jr 2 rfl),put2 _ _ _ _,?_⟩
  rw [jc8,jc8]
  exact q
theorem jjP {f:Addr} {fd:FuncData} (F:Fun K "_law_cell" "_law_cell" jfq f fd) (jF:mg "_law_cell" = some (.ref f)) (Jl:mg "len" = none):jE P w K mg base 1 "_law_cell" ["_law_script", "_law_k"] [] (yU K):=by
  refine F.jT jF (bnd2 F fun _ _ _ _ _ _ _ _=>rfl) jj3 (fun vs H Q E h=>?_) (fun cdv A outer s H vs Q E hr h=>?_)
  · obtain ⟨a,ns,k,rfl,_⟩:=h; rfl
  obtain ⟨a,ns,k,rfl,hS,hk,q⟩:=h
  have hl:(ns.map V.int).length = ns.length:=List.length_map _
  refine ⟨_,(R.jk (R.j8 (R.jR op_lt (R.pv 1) (R.JM Jf rfl Jl PySem.boot_len (R.pa_c (R.pv 0) R.jh)) (jZ _)) (R.jn (R.jG (R.jD Jk (R.jX (R.ixL K) (R.pv 0) (R.pv 1) (fun _ _=>rfl)) (R.jD jfe R.jg R.jg)))) R.jL)
    (R.jk (R.j8 (R.jR (op_eqI hr.units0) (R.pv 0) (R.Jz R.jh) (jZ _)) (R.jn (R.jG (R.jD Jy (R.jD qz R.jg (R.pv 1)) R.jg))) R.jL)
    (R.jn (R.jG (R.jD Jk (R.jD qz (R.jD Jy (R.jD Jk (R.jX (R.ixL K) (R.pv 0) (R.jD (opE Jk) (R.pv 1) (R.JM Jf rfl Jl PySem.boot_len (R.pa_c (R.pv 0) R.jh))) (fun _ _=>rfl)) R.jg) (R.jD qz R.jg (R.pv 1))) (R.jD Jy R.jg (R.jD qz R.jg (R.pv 1)))) R.jg))))),?_⟩
  refine ⟨_,rfl,_,rfl,a,_,rfl,.inl hS,_,_,rfl,rfl,_,rfl,?_⟩
  refine ite2 (fun c=>?_) (fun c=>?_)
  · have c':(k:Int) < (((ns.map V.int).length:Nat):Int):=of_decide_eq_true c
    have c2:k < ns.length:=by omega
    have q':Q (.int (ns.getD k 0 % 10 ^ 60)) H:=by
      have z:=q H (Same.refl _)
      unfold JR at z; rw [if_pos c2] at z; exact z
    refine ⟨_,rfl,_,rfl,a,_,_,V.int (ns.getD k 0),rfl,rfl,hS,jdf (by rw [List.getElem?_map,List.getElem?_eq_getElem c2,List.getD_eq_getElem?_getD,List.getElem?_eq_getElem c2]; rfl),?_⟩
    refine ⟨_,_,rfl,rfl,⟨by decide,by decide,by decide⟩,_,_,rfl,rfl,?_,q'⟩
    show (0:Int) < 10 ^ 60
    decide
  · have c':¬ (k:Int) < (((ns.map V.int).length:Nat):Int):=of_decide_eq_false (Bool.eq_false_iff.mpr c)
    have c2:¬ k < ns.length:=by omega
    refine ⟨_,rfl,(by show 0 <= sizeLine; decide),fun p hp=>?_⟩
    have s1:=jA hp (.lst [])
    have hS1:=s1.seq hS
    refine ⟨a,p,ns,[],rfl,rfl,hS1,SqL.of jm,_,rfl,?_⟩
    have q':=q _ s1
    unfold JR at q'
    rw [if_neg c2] at q'
    by_cases e:ns = []
    · rw [if_pos e] at q'
      show (if (decide (ns = []):Bool) = true then _ else _)
      rw [decide_eq_true e]
      exact iteT ⟨_,rfl,_,_,rfl,rfl,jcl (by decide),_,_,rfl,rfl,q'⟩
    · rw [if_neg e] at q'
      show (if (decide (ns = []):Bool) = true then _ else _)
      rw [decide_eq_false e]
      refine iteF ?_
      have hpos:0 < ns.length:=List.length_pos_iff.mpr e
      have hlt:k % ns.length < ns.length:=Nat.mod_lt _ hpos
      refine ⟨_,rfl,_,rfl,_,rfl,a,_,rfl,.inl hS1,_,_,nv (k % ns.length),rfl,rfl,(by show (0:Int) < _; omega),?_,a,_,_,V.int (ns.getD (k % ns.length) 0),rfl,rfl,hS1,jdf (by rw [List.getElem?_map,List.getElem?_eq_getElem hlt,List.getD_eq_getElem?_getD,List.getElem?_eq_getElem hlt]; rfl),?_⟩
      · show V.int ((k:Int) % (((ns.map V.int).length:Nat):Int)) = V.int ((k % ns.length:Nat):Int)
        rw [hl]; rfl
      refine ⟨_,_,rfl,rfl,(by show (0:Int) < 1000003; decide),_,rfl,_,_,rfl,rfl,jcl (by decide),_,_,rfl,rfl,_,rfl,_,_,rfl,rfl,jcl (by decide),_,_,rfl,rfl,_,_,rfl,rfl,Js (by omega),_,_,rfl,rfl,(by show (0:Int) < 2147483647; decide),q'⟩
theorem jhQ {f:Addr} {fd:FuncData} (F:Fun K "_law_amount" "_law_amount" jcw f fd) (jF:mg "_law_amount" = some (.ref f)):jE P w K mg base 1 "_law_amount" ["_law_cell_here"] [] (jd0 K):=by
  refine F.jT jF (bnd1 F fun _ _ _ _ _ _ _=>rfl) jdY (fun vs H Q E h=>?_) (fun cdv A outer s H vs Q E hr h=>?_)
  · obtain ⟨c,rfl,_⟩:=h; rfl
  obtain ⟨c,rfl,q⟩:=h
  refine ⟨_,(R.jk (R.jO (i:=1) jdY.nd rfl (Or.inl rfl) (R.jD Jk (R.pv 0) R.jg))
    (R.jk (R.j8 (R.jR JN (R.pv 1) R.jg (jZ _)) (R.jn (R.jG R.jg)) R.jL)
    (R.jk (R.j8 (R.jR JN (R.pv 1) R.jg (jZ _)) (R.jn (R.jG (R.jD jfe R.jg R.jg))) R.jL)
    (R.jk (R.j8 (R.jR op_lt (R.pv 1) R.jg (jZ _)) (R.jn (R.jG (R.jD Jy R.jg (R.jD Jk (R.jD Ql (R.pv 0) R.jg) R.jg)))) R.jL)
    (R.jn (R.jG (R.jD Jk (R.jD Ql (R.pv 0) R.jg) (R.jD Jy (R.jD jfe R.jg R.jg) R.jg)))))))),?_⟩
  refine ⟨_,rfl,_,_,rfl,rfl,(by show (0:Int) < 6; decide),?_⟩
  unfold ql at q
  refine ⟨_,rfl,rfl,_,rfl,?_⟩
  refine ite2 (fun e=>?_) (fun e=>?_)
  · have e':c % 6 = 0:=V.int.inj (of_decide_eq_true e)
    rw [if_pos e'] at q; exact q
  have e':¬ c % 6 = 0:=fun z=>e (decide_eq_true (congrArg V.int z))
  rw [if_neg e'] at q
  refine ⟨_,rfl,rfl,_,rfl,?_⟩
  refine ite2 (fun d=>?_) (fun d=>?_)
  · have d':c % 6 = 1:=V.int.inj (of_decide_eq_true d)
    rw [if_pos d'] at q
    exact ⟨_,_,rfl,rfl,⟨by decide,by decide,by decide⟩,q⟩
  have d':¬ c % 6 = 1:=fun z=>d (decide_eq_true (congrArg V.int z))
  rw [if_neg d'] at q
  refine ⟨_,rfl,_,_,rfl,rfl,_,rfl,?_⟩
  refine ite2 (fun g=>?_) (fun g=>?_)
  · have g':c % 6 < 4:=of_decide_eq_true g
    rw [if_pos g'] at q
    exact ⟨_,rfl,_,_,rfl,rfl,⟨by decide,by decide⟩,_,_,rfl,rfl,(by show (0:Int) < 12; decide),_,_,rfl,rfl,q⟩
  · have g':¬ c % 6 < 4:=of_decide_eq_false (Bool.eq_false_iff.mpr g)
    rw [if_neg g'] at q
    refine ⟨_,rfl,_,_,rfl,rfl,⟨by decide,by decide⟩,?_⟩
    exact ⟨_,_,rfl,rfl,⟨by decide,by decide,by decide⟩,_,_,rfl,rfl,_,_,rfl,rfl,(by show (0:Int) < 10 ^ 9 + 1; decide),q⟩
theorem qO (c:Int) (m:Nat) (hm:0 < m):∃ b:Nat,c % (m:Int) = (b:Int) /\ b < m:=by
  have a1:=Int.emod_nonneg c (show (m:Int) ≠ 0 by omega)
  have a2:=Int.emod_lt_of_pos c (show (0:Int) < (m:Int) by omega)
  exact ⟨(c % (m:Int)).toNat,by omega,by omega⟩
theorem jbl {f:Addr} {fd:FuncData} (F:Fun K "depth" "Bid.depth" Y6 f fd)
    (jK:Own K mg "Bid" jr [])
    (jC:Own K mg "Only" jj ["bundle", "amount"])
    (jq:Own K mg "SoMany" jc ["kind", "least", "amount"])
    (jB:Own K mg "UpTo" ji ["kind", "most", "each"])
    (ju:Own K mg "Several" jb ["bids"])
    (jy:Own K mg "AnyOf" jd ["bids"])
    (jz:Own K mg "OneOf" je ["bids"])
    (jx:Own K mg "Stock" jf ["numbers", "kinds"]):FnOk P w K mg base CX0 1 f fd ["self"] (jfP K jr):=by
  refine F.okQ jfB (fun vs H Q E h=>?_) (fun cdv A outer s H vs Q E hr h=>?_)
  · obtain ⟨a,rfl,_⟩:=h; rfl
  obtain ⟨a,rfl,q⟩:=h
  refine ⟨_,(R.jn (R.jG R.jg)),?_⟩
  exact q
theorem jbm {f:Addr} {fd:FuncData} (F:Fun K "tally" "Bid.tally" Y7 f fd)
    (jK:Own K mg "Bid" jr [])
    (jC:Own K mg "Only" jj ["bundle", "amount"])
    (jq:Own K mg "SoMany" jc ["kind", "least", "amount"])
    (jB:Own K mg "UpTo" ji ["kind", "most", "each"])
    (ju:Own K mg "Several" jb ["bids"])
    (jy:Own K mg "AnyOf" jd ["bids"])
    (jz:Own K mg "OneOf" je ["bids"])
    (jx:Own K mg "Stock" jf ["numbers", "kinds"]):FnOk P w K mg base CX0 1 f fd ["self"] (jfQ K jr):=by
  refine F.okQ jfC (fun vs H Q E h=>?_) (fun cdv A outer s H vs Q E hr h=>?_)
  · obtain ⟨a,rfl,_⟩:=h; rfl
  obtain ⟨a,rfl,q⟩:=h
  refine ⟨_,(R.jn (R.jG R.jg)),?_⟩
  exact q
theorem jga (K:PySem.W.Frag) {jr jj jc ji jb jd je jf:Addr} {A:Addr->Prop} {H:Hp} {d:Nat} {b:Addr} {t:Tr} (hb:IsTr jr jj jc ji jd je A H d b t) (few:jV t <= 100) :
    ∃ (C dx:Addr) (fs:List (Str × V)) (sp:Sp),H b = some (.ins C dx fs) /\ fs.lookup ("depth" : Str) = none /\ T1 j7 jr jj jc ji jb jd je jf d C sp /\ ∀ Q:VK,(∀ H',Same H H'->Q (nv (j7 t)) H')->sp [.ref b] H Q E0:=by
  cases d with
  | zero=>exact hb.elim
  | succ d =>
    cases t with
    | leaf f =>
      obtain ⟨_,hb⟩:=hb
      cases f <;> obtain ⟨dx,e⟩:=hb
      · exact ⟨_,dx,_,_,e,rfl,.inl ⟨.inl rfl,rfl⟩,fun Q q=>⟨b,rfl,q H (Same.refl H)⟩⟩
      · exact ⟨_,dx,_,_,e,rfl,.inl ⟨.inr (.inl rfl),rfl⟩,fun Q q=>⟨b,rfl,q H (Same.refl H)⟩⟩
      · exact ⟨_,dx,_,_,e,rfl,.inl ⟨.inr (.inr (.inl rfl)),rfl⟩,fun Q q=>⟨b,rfl,q H (Same.refl H)⟩⟩
      · exact ⟨_,dx,_,_,e,rfl,.inl ⟨.inr (.inr (.inr rfl)),rfl⟩,fun Q q=>⟨b,rfl,q H (Same.refl H)⟩⟩
    | node any ts =>
      have hb':=hb
      obtain ⟨dx,l,bs,e1,e2,e3,e4⟩:=hb
      have few2:jN ts <= 100:=by have:1 + jN ts <= 100:=few; omega
      refine ⟨_,dx,_,_,e1,rfl,.inr ⟨?_,rfl⟩,fun Q q=>⟨b,any,ts,A,rfl,hb',few2,q⟩⟩
      cases any
      · exact .inr rfl
      · exact .inl rfl
theorem jgb (K:PySem.W.Frag) {jr jj jc ji jb jd je jf:Addr} {A:Addr->Prop} {H:Hp} {d:Nat} {b:Addr} {t:Tr} (hb:IsTr jr jj jc ji jd je A H d b t) (few:jV t <= 100) :
    ∃ (C dx:Addr) (fs:List (Str × V)) (sp:Sp),H b = some (.ins C dx fs) /\ fs.lookup ("tally" : Str) = none /\ T1 jV jr jj jc ji jb jd je jf d C sp /\ ∀ Q:VK,(∀ H',Same H H'->Q (nv (jV t)) H')->sp [.ref b] H Q E0:=by
  cases d with
  | zero=>exact hb.elim
  | succ d =>
    cases t with
    | leaf f =>
      obtain ⟨_,hb⟩:=hb
      cases f <;> obtain ⟨dx,e⟩:=hb
      · exact ⟨_,dx,_,_,e,rfl,.inl ⟨.inl rfl,rfl⟩,fun Q q=>⟨b,rfl,q H (Same.refl H)⟩⟩
      · exact ⟨_,dx,_,_,e,rfl,.inl ⟨.inr (.inl rfl),rfl⟩,fun Q q=>⟨b,rfl,q H (Same.refl H)⟩⟩
      · exact ⟨_,dx,_,_,e,rfl,.inl ⟨.inr (.inr (.inl rfl)),rfl⟩,fun Q q=>⟨b,rfl,q H (Same.refl H)⟩⟩
      · exact ⟨_,dx,_,_,e,rfl,.inl ⟨.inr (.inr (.inr rfl)),rfl⟩,fun Q q=>⟨b,rfl,q H (Same.refl H)⟩⟩
    | node any ts =>
      have hb':=hb
      obtain ⟨dx,l,bs,e1,e2,e3,e4⟩:=hb
      have few2:jN ts <= 100:=by have:1 + jN ts <= 100:=few; omega
      refine ⟨_,dx,_,_,e1,rfl,.inr ⟨?_,rfl⟩,fun Q q=>⟨b,any,ts,A,rfl,hb',few2,q⟩⟩
      cases any
      · exact .inr rfl
      · exact .inl rfl
theorem jeS {ts:List Tr} {m:Int} (hm:jeC (ts.map fun t=>((j7 t:Nat):Int)) m):m = ((jW ts:Nat):Int):=by
  rw [jil]
  exact jgL (fun z hz=>by obtain ⟨t,_,rfl⟩:=List.mem_map.mp hz; exact Int.natCast_nonneg _) hm
theorem own2
    (jK:Own K mg "Bid" jr [])
    (jC:Own K mg "Only" jj ["bundle", "amount"])
    (jq:Own K mg "SoMany" jc ["kind", "least", "amount"])
    (jB:Own K mg "UpTo" ji ["kind", "most", "each"])
    (ju:Own K mg "Several" jb ["bids"])
    (jy:Own K mg "AnyOf" jd ["bids"])
    (jz:Own K mg "OneOf" je ["bids"])
    (jx:Own K mg "Stock" jf ["numbers", "kinds"]) (any:Bool):Cls K (if any = true then jd else je) /\ jaq K (if any = true then jd else je) "bids" := by
  cases any
  · exact ⟨jz.cls,jz.no _ (Jr 0 rfl)⟩
  · exact ⟨jy.cls,jy.no _ (Jr 0 rfl)⟩
theorem jaS (d:Nat) {f:Addr} {fd:FuncData} (F:Fun K "depth_over" "depth_over" QJ f fd) (jF:mg "depth_over" = some (.ref f)) (QB:mg "max" = none)
    (jK:Own K mg "Bid" jr [])
    (jC:Own K mg "Only" jj ["bundle", "amount"])
    (jq:Own K mg "SoMany" jc ["kind", "least", "amount"])
    (jB:Own K mg "UpTo" ji ["kind", "most", "each"])
    (ju:Own K mg "Several" jb ["bids"])
    (jy:Own K mg "AnyOf" jd ["bids"])
    (jz:Own K mg "OneOf" je ["bids"])
    (jx:Own K mg "Stock" jf ["numbers", "kinds"])
    (jbf:∀ C sp,T1 j7 jr jj jc ji jb jd je jf d C sp->∃ ps,J9 P w K mg base (2 * d + 1) C "depth" ps sp):jE P w K mg base (2 * d + 2) "depth_over" ["bids"] [] (jdM jW jr jj jc ji jb jd je jf d):=by
  refine F.jT jF (bnd1 F fun _ _ _ _ _ _ _=>rfl) jed (fun vs H Q E h=>?_) (fun cdv A outer s H vs Q E hr h=>?_)
  · obtain ⟨l,bs,ts,A,rfl,_⟩:=h; rfl
  obtain ⟨l,bs,ts,A,rfl,hl,hB,few,q⟩:=h
  have tl:=yd ts
  refine ⟨_,(R.jn (R.jG (R.jD (opE0 Jy) R.jg (R.jet K rfl rfl QB (R.Jj (jt QJ) ["bids"] ["bid"] [] [] rfl rfl rfl ⟨s.heap.objs.size + 1,rfl⟩ rfl rfl (by decide +kernel) (R.JF (R.pv 0)) (fun C s2 H2 fp=>(R.jP (i:=0) (show List.Nodup (["bid"]:List Str) from by decide +kernel) rfl (Or.inl rfl))) (fun C s2 H2 fp=>R.JK) (fun C s2 H2 fp=>(R.Q6 (R.pv 0) jbf hr (by first | decide | omega)))) R.jg)))),?_⟩
  refine ⟨_,rfl,l,rfl,⟨_,SqL.of hl⟩,fun l2 h2=>?_⟩
  refine qQ (xs:=bs.map V.ref) (fun k H'=>Same H H' /\ H' l2 = some (.lst (((ts.take k).map fun t=>((j7 t:Nat):Int)).map V.int))) ⟨jA h2 _,jm⟩ (fun k H' _ ⟨s,_⟩=>SqL.of (s _ _ hl)) ?_ ?_
  · rintro k v H1 hv ⟨s1,e1⟩ K1 K0 k1 k0
    obtain ⟨b,t,rfl,hb,ht,ib⟩:=hB.at hv
    have mt:=qG (List.mem_of_getElem? ht)
    obtain ⟨C,dx,ff,sp,g1,g2,g3,g4⟩:=jga K (jb:=jb) (ib.same s1) (by omega)
    refine ⟨_,rfl,b,C,dx,ff,sp,rfl,g1,g2,g3,g4 _ fun H3 s3=>k1 _ _ _ (s3 _ _ e1) ?_ ⟨(s1.trans s3).upd h2 _,?_⟩⟩
    · rw [List.length_map,List.length_map,List.length_take]; exact Je (by omega)
    · rw [jm,List.take_succ,ht,List.map_append,List.map_append]; rfl
  · rintro H1 ⟨s1,e1⟩
    rw [List.length_map,hB.1,List.take_length] at e1
    refine ⟨l2,_,0,rfl,rfl,SqL.of e1,fun e0=>⟨_,_,nv (1 + jW ts),rfl,rfl,?_,q H1 s1⟩,fun m hm=>⟨_,_,nv (1 + jW ts),rfl,rfl,?_,q H1 s1⟩⟩
    · have:ts = []:=List.map_eq_nil_iff.mp e0
      subst this; rfl
    · rw [jeS hm]; show V.int (1 + ((jW ts:Nat):Int)) = V.int ((1 + jW ts:Nat):Int)
      congr 1
theorem jcn (d:Nat) {f:Addr} {fd:FuncData} (F:Fun K "depth" "Several.depth" Qm f fd) (Qu:jE P w K mg base (2 * d + 2) "depth_over" ["bids"] [] (jdM jW jr jj jc ji jb jd je jf d))
    (jK:Own K mg "Bid" jr [])
    (jC:Own K mg "Only" jj ["bundle", "amount"])
    (jq:Own K mg "SoMany" jc ["kind", "least", "amount"])
    (jB:Own K mg "UpTo" ji ["kind", "most", "each"])
    (ju:Own K mg "Several" jb ["bids"])
    (jy:Own K mg "AnyOf" jd ["bids"])
    (jz:Own K mg "OneOf" je ["bids"])
    (jx:Own K mg "Stock" jf ["numbers", "kinds"]) :
    FnOk P w K mg base CX0 (2 * d + 3) f fd ["self"] (jdZ j7 jr jj jc ji jb jd je jf (d + 1)):=by
  refine F.okQ Zm (fun vs H Q E h=>?_) (fun cdv A outer s H vs Q E hr h=>?_)
  · obtain ⟨a,any,ts,A,rfl,_⟩:=h; rfl
  obtain ⟨a,any,ts,A,rfl,hT,few,q⟩:=h
  obtain ⟨dx,l,bs,e1,e2,e3,e4⟩:=hT
  obtain ⟨hc,hn⟩:=own2 jK jC jq jB ju jy jz jx any
  refine ⟨_,(R.jn (R.jG (R.jw Qu hr (by first | decide | omega) rfl (R.pa_c (R.Jo K (R.pv 0)) R.jh)))),?_⟩
  exact ⟨_,rfl,a,_,dx,_,.ref l,rfl,e1,hc,hn,rfl,l,bs,ts,A,rfl,e3,e4,few,q⟩
theorem jgi {fB fS fO:Addr} {dB dS dO:FuncData} (FB:Fun K "depth" "Bid.depth" Y6 fB dB) (FS:Fun K "depth" "Several.depth" Qm fS dS) (FO:Fun K "depth_over" "depth_over" QJ fO dO) (gO:mg "depth_over" = some (.ref fO)) (QB:mg "max" = none)
    (jK:Own K mg "Bid" jr [])
    (jC:Own K mg "Only" jj ["bundle", "amount"])
    (jq:Own K mg "SoMany" jc ["kind", "least", "amount"])
    (jB:Own K mg "UpTo" ji ["kind", "most", "each"])
    (ju:Own K mg "Several" jb ["bids"])
    (jy:Own K mg "AnyOf" jd ["bids"])
    (jz:Own K mg "OneOf" je ["bids"])
    (jx:Own K mg "Stock" jf ["numbers", "kinds"])
    (M1:Meth K jr "depth" fB) (M2:Meth K jj "depth" fB) (M3:Meth K jc "depth" fB) (M4:Meth K ji "depth" fB) (M5:Meth K jd "depth" fS) (M6:Meth K je "depth" fS) :
    ∀ d,∀ C sp,T1 j7 jr jj jc ji jb jd je jf d C sp->∃ ps,J9 P w K mg base (2 * d + 1) C "depth" ps sp:=by
  have leaf:=jbl (P:=P) (w:=w) (base:=base) (mg:=mg) FB jK jC jq jB ju jy jz jx
  have bB:Binds K dB ["self"] []:=bnd1 FB fun _ _ _ _ _ _ _=>rfl
  have bS:Binds K dS ["self"] []:=bnd1 FS fun _ _ _ _ _ _ _=>rfl
  have put:∀ d,FnOk P w K mg base CX0 (2 * d + 1) fS dS ["self"] (jdZ j7 jr jj jc ji jb jd je jf d)->∀ C sp,T1 j7 jr jj jc ji jb jd je jf d C sp->∃ ps,J9 P w K mg base (2 * d + 1) C "depth" ps sp:=by
    intro d hS C sp hT
    have lf:FnOk P w K mg base CX0 (2 * d + 1) fB dB ["self"] sp1:=leaf.mono (by omega)
    rcases hT with ⟨hC,rfl⟩ | ⟨hC,rfl⟩
    · rcases hC with rfl | rfl | rfl | rfl
      · exact ⟨_,fB,dB,lf,bB,M1,jK.cls⟩
      · exact ⟨_,fB,dB,lf,bB,M2,jC.cls⟩
      · exact ⟨_,fB,dB,lf,bB,M3,jq.cls⟩
      · exact ⟨_,fB,dB,lf,bB,M4,jB.cls⟩
    · rcases hC with rfl | rfl
      · exact ⟨_,fS,dS,hS,bS,M5,jy.cls⟩
      · exact ⟨_,fS,dS,hS,bS,M6,jz.cls⟩
  intro d
  induction d with
  | zero =>
    refine put 0 (FS.okQ Zm (fun vs H Q E h=>?_) (fun cdv A outer s H vs Q E hr h=>?_))
    · obtain ⟨a,any,ts,A,rfl,_⟩:=h; rfl
    · obtain ⟨a,any,ts,A,rfl,hT,_⟩:=h; exact hT.elim
  | succ d ih=>exact put (d + 1) (jcn d FS (jaS d FO gO QB jK jC jq jB ju jy jz jx ih) jK jC jq jB ju jy jz jx)
theorem jaU (d:Nat) {f:Addr} {fd:FuncData} (F:Fun K "tally_over" "tally_over" QL f fd) (jF:mg "tally_over" = some (.ref f)) (Zc:mg "sum" = none)
    (jK:Own K mg "Bid" jr [])
    (jC:Own K mg "Only" jj ["bundle", "amount"])
    (jq:Own K mg "SoMany" jc ["kind", "least", "amount"])
    (jB:Own K mg "UpTo" ji ["kind", "most", "each"])
    (ju:Own K mg "Several" jb ["bids"])
    (jy:Own K mg "AnyOf" jd ["bids"])
    (jz:Own K mg "OneOf" je ["bids"])
    (jx:Own K mg "Stock" jf ["numbers", "kinds"])
    (jbg:∀ C sp,T1 jV jr jj jc ji jb jd je jf d C sp->∃ ps,J9 P w K mg base (2 * d + 1) C "tally" ps sp):jE P w K mg base (2 * d + 2) "tally_over" ["bids"] [] (jdM jN jr jj jc ji jb jd je jf d):=by
  refine F.jT jF (bnd1 F fun _ _ _ _ _ _ _=>rfl) jej (fun vs H Q E h=>?_) (fun cdv A outer s H vs Q E hr h=>?_)
  · obtain ⟨l,bs,ts,A,rfl,_⟩:=h; rfl
  obtain ⟨l,bs,ts,A,rfl,hl,hB,few,q⟩:=h
  have tl:=yd ts
  refine ⟨_,(R.jn (R.jG (R.jD (opE0 Jy) R.jg (R.JM (jdi rfl) rfl Zc (boot_sum) (R.pa_c (R.Jj (jt QL) ["bids"] ["bid"] [] [] rfl rfl rfl ⟨s.heap.objs.size + 1,rfl⟩ rfl rfl (by decide +kernel) (R.JF (R.pv 0)) (fun C s2 H2 fp=>(R.jP (i:=0) (show List.Nodup (["bid"]:List Str) from by decide +kernel) rfl (Or.inl rfl))) (fun C s2 H2 fp=>R.JK) (fun C s2 H2 fp=>(R.Q6 (R.pv 0) jbg hr (by first | decide | omega)))) R.jh))))),?_⟩
  refine ⟨_,rfl,l,rfl,⟨_,SqL.of hl⟩,fun l2 h2=>?_⟩
  refine qQ (xs:=bs.map V.ref) (fun k H'=>Same H H' /\ H' l2 = some (.lst (((ts.take k).map fun t=>((jV t:Nat):Int)).map V.int))) ⟨jA h2 _,jm⟩ (fun k H' _ ⟨s,_⟩=>SqL.of (s _ _ hl)) ?_ ?_
  · rintro k v H1 hv ⟨s1,e1⟩ K1 K0 k1 k0
    obtain ⟨b,t,rfl,hb,ht,ib⟩:=hB.at hv
    have mt:=qG (List.mem_of_getElem? ht)
    obtain ⟨C,dx,ff,sp,g1,g2,g3,g4⟩:=jgb K (jb:=jb) (ib.same s1) (by omega)
    refine ⟨_,rfl,b,C,dx,ff,sp,rfl,g1,g2,g3,g4 _ fun H3 s3=>k1 _ _ _ (s3 _ _ e1) ?_ ⟨(s1.trans s3).upd h2 _,?_⟩⟩
    · rw [List.length_map,List.length_map,List.length_take]; exact Je (by omega)
    · rw [jm,List.take_succ,ht,List.map_append,List.map_append]; rfl
  · rintro H1 ⟨s1,e1⟩
    rw [List.length_map,hB.1,List.take_length] at e1
    refine ⟨l2,_,rfl,SqL.of e1,_,_,nv (1 + jN ts),rfl,rfl,?_,q H1 s1⟩
    rw [<- jcH]; show V.int (1 + ((jN ts:Nat):Int)) = V.int ((1 + jN ts:Nat):Int)
    congr 1
theorem jco (d:Nat) {f:Addr} {fd:FuncData} (F:Fun K "tally" "Several.tally" Qn f fd) (Qz:jE P w K mg base (2 * d + 2) "tally_over" ["bids"] [] (jdM jN jr jj jc ji jb jd je jf d))
    (jK:Own K mg "Bid" jr [])
    (jC:Own K mg "Only" jj ["bundle", "amount"])
    (jq:Own K mg "SoMany" jc ["kind", "least", "amount"])
    (jB:Own K mg "UpTo" ji ["kind", "most", "each"])
    (ju:Own K mg "Several" jb ["bids"])
    (jy:Own K mg "AnyOf" jd ["bids"])
    (jz:Own K mg "OneOf" je ["bids"])
    (jx:Own K mg "Stock" jf ["numbers", "kinds"]) :
    FnOk P w K mg base CX0 (2 * d + 3) f fd ["self"] (jdZ jV jr jj jc ji jb jd je jf (d + 1)):=by
  refine F.okQ Zn (fun vs H Q E h=>?_) (fun cdv A outer s H vs Q E hr h=>?_)
  · obtain ⟨a,any,ts,A,rfl,_⟩:=h; rfl
  obtain ⟨a,any,ts,A,rfl,hT,few,q⟩:=h
  obtain ⟨dx,l,bs,e1,e2,e3,e4⟩:=hT
  obtain ⟨hc,hn⟩:=own2 jK jC jq jB ju jy jz jx any
  refine ⟨_,(R.jn (R.jG (R.jw Qz hr (by first | decide | omega) rfl (R.pa_c (R.Jo K (R.pv 0)) R.jh)))),?_⟩
  exact ⟨_,rfl,a,_,dx,_,.ref l,rfl,e1,hc,hn,rfl,l,bs,ts,A,rfl,e3,e4,few,q⟩
theorem jgj {fB fS fO:Addr} {dB dS dO:FuncData} (FB:Fun K "tally" "Bid.tally" Y7 fB dB) (FS:Fun K "tally" "Several.tally" Qn fS dS) (FO:Fun K "tally_over" "tally_over" QL fO dO) (gO:mg "tally_over" = some (.ref fO)) (Zc:mg "sum" = none)
    (jK:Own K mg "Bid" jr [])
    (jC:Own K mg "Only" jj ["bundle", "amount"])
    (jq:Own K mg "SoMany" jc ["kind", "least", "amount"])
    (jB:Own K mg "UpTo" ji ["kind", "most", "each"])
    (ju:Own K mg "Several" jb ["bids"])
    (jy:Own K mg "AnyOf" jd ["bids"])
    (jz:Own K mg "OneOf" je ["bids"])
    (jx:Own K mg "Stock" jf ["numbers", "kinds"])
    (M1:Meth K jr "tally" fB) (M2:Meth K jj "tally" fB) (M3:Meth K jc "tally" fB) (M4:Meth K ji "tally" fB) (M5:Meth K jd "tally" fS) (M6:Meth K je "tally" fS) :
    ∀ d,∀ C sp,T1 jV jr jj jc ji jb jd je jf d C sp->∃ ps,J9 P w K mg base (2 * d + 1) C "tally" ps sp:=by
  have leaf:=jbm (P:=P) (w:=w) (base:=base) (mg:=mg) FB jK jC jq jB ju jy jz jx
  have bB:Binds K dB ["self"] []:=bnd1 FB fun _ _ _ _ _ _ _=>rfl
  have bS:Binds K dS ["self"] []:=bnd1 FS fun _ _ _ _ _ _ _=>rfl
  have put:∀ d,FnOk P w K mg base CX0 (2 * d + 1) fS dS ["self"] (jdZ jV jr jj jc ji jb jd je jf d)->∀ C sp,T1 jV jr jj jc ji jb jd je jf d C sp->∃ ps,J9 P w K mg base (2 * d + 1) C "tally" ps sp:=by
    intro d hS C sp hT
    have lf:FnOk P w K mg base CX0 (2 * d + 1) fB dB ["self"] sp1:=leaf.mono (by omega)
    rcases hT with ⟨hC,rfl⟩ | ⟨hC,rfl⟩
    · rcases hC with rfl | rfl | rfl | rfl
      · exact ⟨_,fB,dB,lf,bB,M1,jK.cls⟩
      · exact ⟨_,fB,dB,lf,bB,M2,jC.cls⟩
      · exact ⟨_,fB,dB,lf,bB,M3,jq.cls⟩
      · exact ⟨_,fB,dB,lf,bB,M4,jB.cls⟩
    · rcases hC with rfl | rfl
      · exact ⟨_,fS,dS,hS,bS,M5,jy.cls⟩
      · exact ⟨_,fS,dS,hS,bS,M6,jz.cls⟩
  intro d
  induction d with
  | zero =>
    refine put 0 (FS.okQ Zn (fun vs H Q E h=>?_) (fun cdv A outer s H vs Q E hr h=>?_))
    · obtain ⟨a,any,ts,A,rfl,_⟩:=h; rfl
    · obtain ⟨a,any,ts,A,rfl,hT,_⟩:=h; exact hT.elim
  | succ d ih=>exact put (d + 1) (jco d FS (jaU d FO gO Zc jK jC jq jB ju jy jz jx ih) jK jC jq jB ju jy jz jx)
theorem jd5 {f:Addr} {fd:FuncData} (F:Fun K "check_bids" "check_bids" Zj f fd) (jF:mg "check_bids" = some (.ref f)) (jY:mg "isinstance" = none) (ye:mg "list" = none)
    (Qu:jE P w K mg base 10 "depth_over" ["bids"] [] (jek K jr jj jc ji jb jd je jf))
    (Qz:jE P w K mg base 10 "tally_over" ["bids"] [] (jel K jr jj jc ji jb jd je jf))
    (jK:Own K mg "Bid" jr [])
    (jC:Own K mg "Only" jj ["bundle", "amount"])
    (jq:Own K mg "SoMany" jc ["kind", "least", "amount"])
    (jB:Own K mg "UpTo" ji ["kind", "most", "each"])
    (ju:Own K mg "Several" jb ["bids"])
    (jy:Own K mg "AnyOf" jd ["bids"])
    (jz:Own K mg "OneOf" je ["bids"])
    (jx:Own K mg "Stock" jf ["numbers", "kinds"])
    (yP:PySem.W.kitOne K (.ref jr) (.ref jr) = some true)
    (Q4:PySem.W.kitOne K (.ref jj) (.ref jr) = some true)
    (qR:PySem.W.kitOne K (.ref jc) (.ref jr) = some true)
    (Q5:PySem.W.kitOne K (.ref ji) (.ref jr) = some true)
    (yw:PySem.W.kitOne K (.ref jb) (.ref jr) = some true)
    (Qi:PySem.W.kitOne K (.ref jd) (.ref jr) = some true)
    (Qj:PySem.W.kitOne K (.ref je) (.ref jr) = some true)
    (Y0:PySem.W.kitOne K (.ref jf) (.ref jr) = some false):jE P w K mg base 11 "check_bids" ["bids"] [] (ja3 K jr jj jc ji jb jd je jf):=by
  have isB:∀ {H:Hp} {b:Addr} {d:Nat} {A:Addr->Prop} {t:Tr},IsTr jr jj jc ji jd je A H d b t->∃ t,TyOf K H (.ref b) t /\ PySem.W.kitOne K t (.ref jr) = some true:=fun {H b d A t} hb=>by
    cases d with
    | zero=>exact hb.elim
    | succ d =>
      cases t with
      | leaf f =>
        obtain ⟨_,hb⟩:=hb
        cases f <;> obtain ⟨dx,e⟩:=hb
        · exact ⟨_,jK.ty e,yP⟩
        · exact ⟨_,jC.ty e,Q4⟩
        · exact ⟨_,jq.ty e,qR⟩
        · exact ⟨_,jB.ty e,Q5⟩
      | node any ts =>
        obtain ⟨dx,l,bs,e,_⟩:=hb
        cases any
        · exact ⟨_,jz.ty e,Qj⟩
        · exact ⟨_,jy.ty e,Qi⟩
  refine F.jT jF (bnd1 F fun _ _ _ _ _ _ _=>rfl) jaW (fun vs H Q E h=>?_) (fun cdv A outer s H vs Q E hr h=>?_)
  · obtain ⟨l,bs,ts,A,d,rfl,_⟩:=h; rfl
  obtain ⟨l,bs,ts,A,d,rfl,hl,hB,hd,hy,q⟩:=h
  refine ⟨_,(R.jk (R.j8 (R.JZ (R.Jt (R.Zf .lst rfl jY rfl ye (R.pv 0)))) (R.jn R.JB) R.jL)
    (R.jk (R.J4 PassesOwn.never rfl (R.JF (R.pv 0)) (R.jP (i:=1) jaW.nd rfl (Or.inl rfl)) (R.jn (R.j8 (R.JZ (R.Jt (R.jhY rfl jY rfl jK.at_ (R.pv 1)))) (R.jn R.JB) R.jL)))
    (R.jk (R.j8 (R.jR jdW (R.jw Qu hr (by first | decide | omega) rfl (R.pa_c (R.pv 0) R.jh)) R.jg (jZ _)) (R.jn R.JB) R.jL)
    (R.jn (R.j8 (R.jR jdW (R.jw Qz hr (by first | decide | omega) rfl (R.pa_c (R.pv 0) R.jh)) R.jg (jZ _)) (R.jn R.JB) R.jL))))),?_⟩
  refine ⟨_,rfl,_,.lst,rfl,TyOf.lst hl,_,rfl,iteF ?_⟩
  refine ⟨_,rfl,l,rfl,⟨_,SqL.of hl⟩,?_⟩
  refine Yd (xs:=bs.map V.ref) (fun i σ H'=>H' = H /\ ∃ y,σ = [some (.ref l),y]) ?_ ?_ ?_ ?_
  · exact ⟨rfl,_,rfl⟩
  · rintro i σ H' _ ⟨rfl,_⟩; exact SqL.of hl
  · rintro i v σ H' hv ⟨rfl,y,rfl⟩
    obtain ⟨b,t,rfl,hb,ht,ib⟩:=hB.at hv
    obtain ⟨t,ht,hk⟩:=isB ib
    exact ⟨_,rfl,_,t,true,rfl,ht,hk,_,rfl,iteF ⟨rfl,_,rfl⟩⟩
  · rintro σ H' ⟨rfl,y,rfl⟩
    have hB4:All2 (IsTr jr jj jc ji jd je A H' 4) bs ts:=hB.imp fun x y hy z=>IsTr.to d 4 z (by have:=Qh hy; omega)
    refine ⟨_,rfl,l,bs,ts,A,rfl,hl,hB4,by omega,fun H1 s1=>⟨_,_,rfl,rfl,_,rfl,?_⟩⟩
    rw [decide_eq_false (show ¬ (4:Int) < ((1 + jW ts:Nat):Int) by omega)]
    refine iteF ?_
    refine ⟨_,rfl,l,bs,ts,A,rfl,s1 _ _ hl,hB4.imp fun x y _ z=>z.same s1,by omega,fun H2 s2=>⟨_,_,rfl,rfl,_,rfl,?_⟩⟩
    rw [decide_eq_false (show ¬ (24:Int) < ((1 + jN ts:Nat):Int) by omega)]
    exact iteF (q _ (s1.trans s2))
theorem ja6 (c:Addr) {f:Addr} {fd:FuncData} (F:Fun K "__init__" "Several.__init__" QH f fd) (ye:mg "list" = none)
    (zZ:jE P w K mg base 11 "check_bids" ["bids"] [] (ja3 K jr jj jc ji jb jd je jf))
    (jK:Own K mg "Bid" jr [])
    (jC:Own K mg "Only" jj ["bundle", "amount"])
    (jq:Own K mg "SoMany" jc ["kind", "least", "amount"])
    (jB:Own K mg "UpTo" ji ["kind", "most", "each"])
    (ju:Own K mg "Several" jb ["bids"])
    (jy:Own K mg "AnyOf" jd ["bids"])
    (jz:Own K mg "OneOf" je ["bids"])
    (jx:Own K mg "Stock" jf ["numbers", "kinds"]):FnOk P w K mg base CX0 12 f fd ["self", "bids"] (j9 K c jr jj jc ji jb jd je jf):=by
  refine F.okQ ja7 (fun vs H Q E h=>?_) (fun cdv A outer s H vs Q E hr h=>?_)
  · obtain ⟨a,dx,l,bs,ts,A,d,rfl,_⟩:=h; rfl
  obtain ⟨a,dx,l,bs,ts,A,d,rfl,ha,hc,hl,hB,hd,hy,q⟩:=h
  refine ⟨_,(R.jk (R.JQ (R.jw zZ hr (by first | decide | omega) rfl (R.pa_c (R.pv 1) R.jh)))
    (R.jn (R.YG (R.pv 0) (R.YD jcK rfl ye (boot_list) (R.pa_c (R.pv 1) R.jh))))),?_⟩
  obtain ⟨o1,o2⟩:Cls K c /\ jaq K c "bids" := by
    rcases hc with rfl | rfl
    · exact ⟨jy.cls,jy.no _ (Jr 0 rfl)⟩
    · exact ⟨jz.cls,jz.no _ (Jr 0 rfl)⟩
  refine ⟨_,rfl,l,bs,ts,A,d,rfl,hl,hB,hd,hy,fun H1 s1=>?_⟩
  refine ⟨_,rfl,l,_,rfl,.inl (SqL.of (s1 _ _ hl)),fun lb hb=>?_⟩
  have hab:a ≠ lb:=jU (s1 _ _ ha) hb
  exact ⟨_,rfl,a,c,dx,[],rfl,by rw [jM hab]; exact s1 _ _ ha,o1,o2,by decide,q H1 lb s1 hb⟩
theorem zR {H:Hp} {x dx:Addr} {o u:HO} (nx:H x = none) (nd:H dx = none):Same H (upd (upd (upd H dx (.own x)) x o) x u):=(((Same.refl H).upd nd _).upd nx _).upd nx _
theorem jeq {jr jj jc ji jb jd je:Addr} {A:Addr->Prop} {H H1:Hp} {x dx lb c:Addr} {bs:List Addr} {ts:List Tr} {d:Nat} {any:Bool} (nx:H x = none) (nd:H dx = none) (s1:Same (upd (upd H dx (.own x)) x (.ins c dx [])) H1) (hb:H1 lb = none) (hB:All2 (IsTr jr jj jc ji jd je A H d) bs ts) (hc:c = if any = true then jd else je) :
    Same H (upd (upd H1 lb (.lst (bs.map V.ref))) x (.ins c dx (jhE lb))) /\ H lb = none /\ IsTr jr jj jc ji jd je (fun l=>A l ∨ l = lb) (upd (upd H1 lb (.lst (bs.map V.ref))) x (.ins c dx (jhE lb))) (d + 1) x (.node any ts):=by
  have sH:Same H H1:=(((Same.refl H).upd nd _).upd nx _).trans s1
  have hlb:=sH.free hb
  have S:Same H (upd (upd H1 lb (.lst (bs.map V.ref))) x (.ins c dx (jhE lb))):=(sH.upd hlb _).upd nx _
  have ne:lb ≠ x:=fun z=>by
    have e:=s1 _ _ (jm (H:=upd H dx (.own x)) (a:=x) (o:=.ins c dx []))
    rw [<- z,hb] at e; cases e
  subst hc
  exact ⟨S,hlb,dx,lb,bs,jm,.inr rfl,by rw [jM ne]; exact jm,hB.imp fun y t _ z=>(z.same S).imp fun l zs h _=>.inl h⟩
theorem jjU (d:Nat) {f:Addr} {fd:FuncData} (F:Fun K "_law_made" "_law_made" jab f fd) (jF:mg "_law_made" = some (.ref f))
    (jK:Own K mg "Bid" jr [])
    (jC:Own K mg "Only" jj ["bundle", "amount"])
    (jq:Own K mg "SoMany" jc ["kind", "least", "amount"])
    (jB:Own K mg "UpTo" ji ["kind", "most", "each"])
    (ju:Own K mg "Several" jb ["bids"])
    (jy:Own K mg "AnyOf" jd ["bids"])
    (jz:Own K mg "OneOf" je ["bids"])
    (jx:Own K mg "Stock" jf ["numbers", "kinds"])
    (jbc:jeF K mg "Bid" jr)
    (yo:Qc P w K mg base 12 "AnyOf" jd ["self", "bids"] (j9 K jd jr jj jc ji jb jd je jf))
    (yp:Qc P w K mg base 12 "OneOf" je ["self", "bids"] (j9 K je jr jj jc ji jb jd je jf))
    (Zu:Qc P w K mg base 4 "Only" jj ["self", "bundle", "amount"] (qu K jj))
    (yO:Qc P w K mg base 4 "SoMany" jc ["self", "kind", "least", "amount"] (JV K jc))
    (Zv:Qc P w K mg base 4 "UpTo" ji ["self", "kind", "most", "each"] (qw K ji)) (ZV:jE P w K mg base (14 + d) "_law_made" ["_law_form_here"] [] (jhi jr jj jc ji jb jd je jf d)):jE P w K mg base (14 + d + 1) "_law_made" ["_law_form_here"] [] (jhi jr jj jc ji jb jd je jf (d + 1)):=by
  refine F.jT jF (bnd1 F fun _ _ _ _ _ _ _=>rfl) jgC (fun vs H Q E h=>?_) (fun cdv A outer s H vs Q E hr h=>?_)
  · obtain ⟨p,t,A,rfl,_⟩:=h; rfl
  obtain ⟨p,t,A,rfl,hF,hd,hy,q⟩:=h
  refine ⟨_,(R.jk (R.j8 (R.jR JN (R.jX Jq (R.pv 0) R.jg (fun _ _=>rfl)) R.jJ (jZ _)) (R.jn (R.jG (R.QD yo hr (by first | decide | omega) rfl (R.pa_c (R.Jj (jt jab) ["_law_form_here"] ["_law_part"] [] [] rfl rfl rfl ⟨s.heap.objs.size + 1,rfl⟩ rfl rfl (by decide +kernel) (R.JF (R.jX Jq (R.pv 0) R.jg (fun _ _=>rfl))) (fun C s2 H2 fp=>(R.jP (i:=0) (show List.Nodup (["_law_part"]:List Str) from by decide +kernel) rfl (Or.inl rfl))) (fun C s2 H2 fp=>R.JK) (fun C s2 H2 fp=>(R.jw ZV hr (by first | decide | omega) rfl (R.pa_c (R.pv 0) R.jh)))) R.jh)))) R.jL)
    (R.jk (R.j8 (R.jR JN (R.jX Jq (R.pv 0) R.jg (fun _ _=>rfl)) R.jJ (jZ _)) (R.jn (R.jG (R.QD yp hr (by first | decide | omega) rfl (R.pa_c (R.Jj (jt jab) ["_law_form_here"] ["_law_part"] [] [] rfl rfl rfl ⟨s.heap.objs.size + 1,rfl⟩ rfl rfl (by decide +kernel) (R.JF (R.jX Jq (R.pv 0) R.jg (fun _ _=>rfl))) (fun C s2 H2 fp=>(R.jP (i:=0) (show List.Nodup (["_law_part"]:List Str) from by decide +kernel) rfl (Or.inl rfl))) (fun C s2 H2 fp=>R.JK) (fun C s2 H2 fp=>(R.jw ZV hr (by first | decide | omega) rfl (R.pa_c (R.pv 0) R.jh)))) R.jh)))) R.jL)
    (R.jk (R.j8 (R.jR JN (R.jX Jq (R.pv 0) R.jg (fun _ _=>rfl)) R.jJ (jZ _)) (R.jn (R.jG (R.QD Zu hr (by first | decide | omega) rfl (R.pa_c (R.jX Jq (R.pv 0) R.jg (fun _ _=>rfl)) (R.pa_c (R.jX Jq (R.pv 0) R.jg (fun _ _=>rfl)) R.jh))))) R.jL)
    (R.jk (R.j8 (R.jR JN (R.jX Jq (R.pv 0) R.jg (fun _ _=>rfl)) R.jJ (jZ _)) (R.jn (R.jG (R.QD yO hr (by first | decide | omega) rfl (R.pa_c (R.jX Jq (R.pv 0) R.jg (fun _ _=>rfl)) (R.pa_c (R.jX Jq (R.pv 0) R.jg (fun _ _=>rfl)) (R.pa_c (R.jX Jq (R.pv 0) R.jg (fun _ _=>rfl)) R.jh)))))) R.jL)
    (R.jk (R.j8 (R.jR JN (R.jX Jq (R.pv 0) R.jg (fun _ _=>rfl)) R.jJ (jZ _)) (R.jn (R.jG (R.QD Zv hr (by first | decide | omega) rfl (R.pa_c (R.jX Jq (R.pv 0) R.jg (fun _ _=>rfl)) (R.pa_c (R.jX Jq (R.pv 0) R.jg (fun _ _=>rfl)) (R.pa_c (R.jX Jq (R.pv 0) R.jg (fun _ _=>rfl)) R.jh)))))) R.jL)
    (R.jn (R.jG (R.jg9 jbc rfl)))))))),?_⟩
  cases t with
  | leaf f =>
    obtain ⟨okf,k0,l0,z0,hp,h63,fit⟩:=hF
    have ok:=okf
    cases f with
    | none =>
      refine ⟨_,rfl,p,_,_,_,rfl,rfl,SqT.of hp,rfl,rfl,_,rfl,iteF ?_⟩
      refine ⟨_,rfl,p,_,_,_,rfl,rfl,SqT.of hp,rfl,rfl,_,rfl,iteF ?_⟩
      refine ⟨_,rfl,p,_,_,_,rfl,rfl,SqT.of hp,rfl,rfl,_,rfl,iteF ?_⟩
      refine ⟨_,rfl,p,_,_,_,rfl,rfl,SqT.of hp,rfl,rfl,_,rfl,iteF ?_⟩
      refine ⟨_,rfl,p,_,_,_,rfl,rfl,SqT.of hp,rfl,rfl,_,rfl,iteF ?_⟩
      exact fun x dx nx nd _=>q x _ (((Same.refl H).upd nd _).upd nx _) ⟨okf,dx,jm⟩
    | only b m =>
      obtain ⟨rfl,rfl⟩:=fit
      refine ⟨_,rfl,p,_,_,_,rfl,rfl,SqT.of hp,rfl,rfl,_,rfl,iteF ?_⟩
      refine ⟨_,rfl,p,_,_,_,rfl,rfl,SqT.of hp,rfl,rfl,_,rfl,iteF ?_⟩
      refine ⟨_,rfl,p,_,_,_,rfl,rfl,SqT.of hp,rfl,rfl,_,rfl,iteT ?_⟩
      obtain ⟨b1,b2,hm⟩:=ok
      refine ⟨_,rfl,p,_,_,_,rfl,rfl,SqT.of hp,rfl,_,rfl,p,_,_,_,rfl,rfl,SqT.of hp,rfl,fun x dx nx nd _=>?_⟩
      exact ⟨x,dx,b,m,rfl,b1,b2,hm,jm,rfl,q x _ (zR nx nd) ⟨okf,dx,jm⟩⟩
    | some k l m =>
      obtain ⟨rfl,rfl,rfl⟩:=fit
      refine ⟨_,rfl,p,_,_,_,rfl,rfl,SqT.of hp,rfl,rfl,_,rfl,iteF ?_⟩
      refine ⟨_,rfl,p,_,_,_,rfl,rfl,SqT.of hp,rfl,rfl,_,rfl,iteF ?_⟩
      refine ⟨_,rfl,p,_,_,_,rfl,rfl,SqT.of hp,rfl,rfl,_,rfl,iteF ?_⟩
      refine ⟨_,rfl,p,_,_,_,rfl,rfl,SqT.of hp,rfl,rfl,_,rfl,iteT ?_⟩
      obtain ⟨k1,k2,l1,l2,hm⟩:=ok
      refine ⟨_,rfl,p,_,_,_,rfl,rfl,SqT.of hp,rfl,_,rfl,p,_,_,_,rfl,rfl,SqT.of hp,rfl,_,rfl,p,_,_,_,rfl,rfl,SqT.of hp,rfl,fun x dx nx nd _=>?_⟩
      exact ⟨x,dx,k,l,m,rfl,k1,k2,l1,l2,hm,jm,rfl,q x _ (zR nx nd) ⟨okf,dx,jm⟩⟩
    | most k l m =>
      obtain ⟨rfl,rfl,rfl⟩:=fit
      refine ⟨_,rfl,p,_,_,_,rfl,rfl,SqT.of hp,rfl,rfl,_,rfl,iteF ?_⟩
      refine ⟨_,rfl,p,_,_,_,rfl,rfl,SqT.of hp,rfl,rfl,_,rfl,iteF ?_⟩
      refine ⟨_,rfl,p,_,_,_,rfl,rfl,SqT.of hp,rfl,rfl,_,rfl,iteF ?_⟩
      refine ⟨_,rfl,p,_,_,_,rfl,rfl,SqT.of hp,rfl,rfl,_,rfl,iteF ?_⟩
      refine ⟨_,rfl,p,_,_,_,rfl,rfl,SqT.of hp,rfl,rfl,_,rfl,iteT ?_⟩
      obtain ⟨k1,k2,l1,l2,hm⟩:=ok
      refine ⟨_,rfl,p,_,_,_,rfl,rfl,SqT.of hp,rfl,_,rfl,p,_,_,_,rfl,rfl,SqT.of hp,rfl,_,rfl,p,_,_,_,rfl,rfl,SqT.of hp,rfl,fun x dx nx nd _=>?_⟩
      exact ⟨x,dx,k,l,m,rfl,k1,k2,l1,l2,hm,jm,rfl,q x _ (zR nx nd) ⟨okf,dx,jm⟩⟩
  | node any ts =>
    obtain ⟨l,ps,hp,hA,hl,hPs⟩:=hF
    have hd':1 + jW ts <= 4:=hd
    have hy':1 + jN ts <= 24:=hy
    have tl:=yd ts
    cases any
    · refine ⟨_,rfl,p,_,_,_,rfl,rfl,SqT.of hp,rfl,rfl,_,rfl,iteF ?_⟩
      refine ⟨_,rfl,p,_,_,_,rfl,rfl,SqT.of hp,rfl,rfl,_,rfl,iteT ?_⟩
      refine ⟨_,rfl,p,_,_,_,rfl,rfl,SqT.of hp,rfl,l,rfl,⟨_,SqL.of hl⟩,fun l2 h2=>?_⟩
      refine qQ (xs:=ps.map V.ref) (fun k H'=>Same H H' /\ ∃ bs:List Addr,H' l2 = some (.lst (bs.map V.ref)) /\ All2 (IsTr jr jj jc ji jd je (fun x=>H x = none /\ x ≠ l2) H' d) bs (ts.take k)) ⟨jA h2 _,[],jm,All2.nil⟩ (fun k H' _ ⟨s',_⟩=>SqL.of (s' _ _ hl)) ?_ ?_
      · rintro k v H1 hv ⟨s1,bs,e1,hB⟩ K1 K0 k1 k0
        obtain ⟨b,t,rfl,hb,ht,ib⟩:=hPs.at hv
        have mt:=qG (List.mem_of_getElem? ht)
        have md:=Qh (List.mem_of_getElem? ht)
        refine ⟨_,rfl,b,t,A,rfl,ib.same s1,by omega,by omega,fun a H3 s3 it=>k1 _ _ _ (s3 _ _ e1) ?_ ⟨(s1.trans s3).upd h2 _,bs ++ [a],by rw [jm,List.map_append]; rfl,?_⟩⟩
        · rw [List.length_map,hB.1,List.length_take]; exact Je (by omega)
        · rw [List.take_succ,ht]
          have n2:¬ (H l2 = none /\ l2 ≠ l2):=fun z=>z.2 rfl
          exact (hB.imp fun x y _ z=>(z.same s3).put (s3 _ _ e1) n2).snoc ((it.imp fun x zs hx _=>⟨s1.free hx,fun z=>by rw [z,e1] at hx; cases hx⟩).put (s3 _ _ e1) n2)
      · rintro H1 ⟨s1,bs,e1,hB⟩
        rw [List.length_map,hPs.1,List.take_length] at hB
        refine fun x dx nx nd _=>?_
        have sx:Same H1 (upd (upd H1 dx (.own x)) x (.ins je dx [])):=((Same.refl H1).upd nd _).upd nx _
        refine ⟨x,dx,l2,bs,ts,_,d,rfl,jm,.inr rfl,sx _ _ e1,hB.imp fun _ _ _ z=>z.same sx,by omega,by omega,fun H3 lb s3 h3=>⟨rfl,?_⟩⟩
        obtain ⟨S3,nb,it⟩:=jeq (jb:=jb) (any:=false) nx nd s3 h3 hB rfl
        exact q x _ (s1.trans S3) (it.imp fun y zs hy _=>hy.elim (fun z=>z.1) (fun z=>by rw [z]; exact s1.free nb))
    · refine ⟨_,rfl,p,_,_,_,rfl,rfl,SqT.of hp,rfl,rfl,_,rfl,iteT ?_⟩
      refine ⟨_,rfl,p,_,_,_,rfl,rfl,SqT.of hp,rfl,l,rfl,⟨_,SqL.of hl⟩,fun l2 h2=>?_⟩
      refine qQ (xs:=ps.map V.ref) (fun k H'=>Same H H' /\ ∃ bs:List Addr,H' l2 = some (.lst (bs.map V.ref)) /\ All2 (IsTr jr jj jc ji jd je (fun x=>H x = none /\ x ≠ l2) H' d) bs (ts.take k)) ⟨jA h2 _,[],jm,All2.nil⟩ (fun k H' _ ⟨s',_⟩=>SqL.of (s' _ _ hl)) ?_ ?_
      · rintro k v H1 hv ⟨s1,bs,e1,hB⟩ K1 K0 k1 k0
        obtain ⟨b,t,rfl,hb,ht,ib⟩:=hPs.at hv
        have mt:=qG (List.mem_of_getElem? ht)
        have md:=Qh (List.mem_of_getElem? ht)
        refine ⟨_,rfl,b,t,A,rfl,ib.same s1,by omega,by omega,fun a H3 s3 it=>k1 _ _ _ (s3 _ _ e1) ?_ ⟨(s1.trans s3).upd h2 _,bs ++ [a],by rw [jm,List.map_append]; rfl,?_⟩⟩
        · rw [List.length_map,hB.1,List.length_take]; exact Je (by omega)
        · rw [List.take_succ,ht]
          have n2:¬ (H l2 = none /\ l2 ≠ l2):=fun z=>z.2 rfl
          exact (hB.imp fun x y _ z=>(z.same s3).put (s3 _ _ e1) n2).snoc ((it.imp fun x zs hx _=>⟨s1.free hx,fun z=>by rw [z,e1] at hx; cases hx⟩).put (s3 _ _ e1) n2)
      · rintro H1 ⟨s1,bs,e1,hB⟩
        rw [List.length_map,hPs.1,List.take_length] at hB
        refine fun x dx nx nd _=>?_
        have sx:Same H1 (upd (upd H1 dx (.own x)) x (.ins jd dx [])):=((Same.refl H1).upd nd _).upd nx _
        refine ⟨x,dx,l2,bs,ts,_,d,rfl,jm,.inl rfl,sx _ _ e1,hB.imp fun _ _ _ z=>z.same sx,by omega,by omega,fun H3 lb s3 h3=>⟨rfl,?_⟩⟩
        obtain ⟨S3,nb,it⟩:=jeq (jb:=jb) (any:=true) nx nd s3 h3 hB rfl
        exact q x _ (s1.trans S3) (it.imp fun y zs hy _=>hy.elim (fun z=>z.1) (fun z=>by rw [z]; exact s1.free nb))
theorem jin {f:Addr} {fd:FuncData} (F:Fun K "_law_made" "_law_made" jab f fd) (jF:mg "_law_made" = some (.ref f))
    (jK:Own K mg "Bid" jr [])
    (jC:Own K mg "Only" jj ["bundle", "amount"])
    (jq:Own K mg "SoMany" jc ["kind", "least", "amount"])
    (jB:Own K mg "UpTo" ji ["kind", "most", "each"])
    (ju:Own K mg "Several" jb ["bids"])
    (jy:Own K mg "AnyOf" jd ["bids"])
    (jz:Own K mg "OneOf" je ["bids"])
    (jx:Own K mg "Stock" jf ["numbers", "kinds"])
    (jbc:jeF K mg "Bid" jr)
    (yo:Qc P w K mg base 12 "AnyOf" jd ["self", "bids"] (j9 K jd jr jj jc ji jb jd je jf))
    (yp:Qc P w K mg base 12 "OneOf" je ["self", "bids"] (j9 K je jr jj jc ji jb jd je jf))
    (Zu:Qc P w K mg base 4 "Only" jj ["self", "bundle", "amount"] (qu K jj))
    (yO:Qc P w K mg base 4 "SoMany" jc ["self", "kind", "least", "amount"] (JV K jc))
    (Zv:Qc P w K mg base 4 "UpTo" ji ["self", "kind", "most", "each"] (qw K ji)):∀ d,jE P w K mg base (14 + d) "_law_made" ["_law_form_here"] [] (jhi jr jj jc ji jb jd je jf d):=by
  intro d
  induction d with
  | zero =>
    refine F.jT jF (bnd1 F fun _ _ _ _ _ _ _=>rfl) jgC (fun vs H Q E h=>?_) (fun cdv A outer s H vs Q E hr h=>?_)
    · obtain ⟨p,t,A,rfl,_⟩:=h; rfl
    · obtain ⟨p,t,A,rfl,hT,_⟩:=h; exact hT.elim
  | succ d ih=>exact jjU d F jF jK jC jq jB ju jy jz jx jbc yo yp Zu yO Zv ih
theorem jg3 {f:Addr} {fd:FuncData} (F:Fun K "size_of" "size_of" jby f fd) (jF:mg "size_of" = some (.ref f)) (Jl:mg "len" = none)
    (JS:jE P w K mg base 2 "things_in" ["bundle"] [] (Yx K)):jE P w K mg base 3 "size_of" ["bundle"] [] (zO K):=by
  refine F.jT jF (bnd1 F fun _ _ _ _ _ _ _=>rfl) jhg (fun vs H Q E h=>?_) (fun cdv A outer s H vs Q E hr h=>?_)
  · obtain ⟨b,rfl,_⟩:=h; rfl
  obtain ⟨b,rfl,hb,q⟩:=h
  refine ⟨_,(R.jn (R.jG (R.JM Jf rfl Jl PySem.boot_len (R.pa_c (R.jw JS hr (by first | decide | omega) rfl (R.pa_c (R.pv 0) R.jh)) R.jh)))),?_⟩
  refine ⟨_,rfl,b,rfl,hb,fun l H1 s1 _ e1=>⟨l,_,rfl,.inl (SqL.of e1),?_⟩⟩
  rw [List.length_map]
  exact q _ s1
theorem jf0 {f:Addr} {fd:FuncData} (F:Fun K "parts_of" "parts_of" zM f fd) (jF:mg "parts_of" = some (.ref f))
    (JS:jE P w K mg base 2 "things_in" ["bundle"] [] (Yx K)):jE P w K mg base 3 "parts_of" ["bundle"] [] (jcb K):=by
  refine F.jT jF (bnd1 F fun _ _ _ _ _ _ _=>rfl) za (fun vs H Q E h=>?_) (fun cdv A outer s H vs Q E hr h=>?_)
  · obtain ⟨b,rfl,_⟩:=h; rfl
  obtain ⟨b,rfl,hb,q⟩:=h
  refine ⟨_,(R.jk (R.jO (i:=1) za.nd rfl (Or.inl rfl) (R.Jz (R.pa_c R.jg R.jh)))
    (R.jk (R.J4 PassesOwn.never rfl (R.JF (R.jw JS hr (by first | decide | omega) rfl (R.pa_c (R.pv 0) R.jh))) (R.jP (i:=2) za.nd rfl (Or.inr rfl)) (R.jn (R.jO (i:=1) za.nd rfl (Or.inl rfl) (R.jD op_cat (R.pv 1) (R.Jj (jt zM) ["bundle", "parts", "number"] ["part"] ["number"] [2] rfl rfl rfl ⟨s.heap.objs.size + 1,rfl⟩ rfl rfl (by decide +kernel) (R.JF (R.pv 1)) (fun C s2 H2 fp=>(R.jP (i:=0) (show List.Nodup (["part", "number"]:List Str) from by decide +kernel) rfl (Or.inl rfl))) (fun C s2 H2 fp=>R.JK) (fun C s2 H2 fp=>(R.jD jdx (R.pv 0) (R.jD yx R.jg (R.pv 1)))))))))
    (R.jn (R.jG (R.pv 1))))),?_⟩
  refine ⟨(by show 1 <= sizeLine; decide),fun l0 hl0=>?_⟩
  have s0:=jA hl0 (.lst [V.int 0])
  refine ⟨_,rfl,b,rfl,hb,fun lt H1 s1 hlt e1=>⟨lt,rfl,⟨_,SqL.of e1⟩,?_⟩⟩
  have h6:=YX b
  refine Yd (xs:=(things b).map nv) (fun i σ H'=>Same H1 H' /\ Same H H' /\ ∃ l x,H l = none /\ H' l = some (.lst ((yz ((things b).take i)).map nv)) /\ σ = [some (.int b),some (.ref l),x]) ?_ ?_ ?_ ?_
  · exact ⟨Same.refl _,s0.trans s1,l0,none,hl0,s1 _ _ jm,rfl⟩
  · rintro i σ H' _ ⟨s',_⟩
    exact SqL.of (s' _ _ e1)
  · rintro i x σ H' hx ⟨s',sH,l,x0,hl,el,rfl⟩
    rw [List.getElem?_map] at hx
    obtain ⟨k,hk,rfl⟩:=Option.map_eq_some_iff.mp hx
    have hi:i < (things b).length:=(List.getElem?_eq_some_iff.mp hk).1
    have k6:k < 6:=(jiU.mp (List.mem_of_getElem? hk)).1
    have hlen:(yz ((things b).take i)).length <= 32:=by
      rw [jhX,List.length_take,Nat.min_eq_left (by omega)]
      exact Nat.pow_le_pow_right (by decide) (by omega:i <= 5)
    refine ⟨_,rfl,_,rfl,l,rfl,⟨_,SqL.of el⟩,fun l2 h2=>?_⟩
    refine zG nv (yz ((things b).take i)) (fun _=>true) (fun p=>nv (p ||| 2 ^ k)) (SqL.of el) (by omega) h2 ?_ ?_ ?_
    · intro x hx H2 s2 C hC; exact hC _ (Same.refl _)
    · intro x hx _ H2 s2 C hC
      exact ⟨_,rfl,_,rfl,k,rfl,rfl,by omega,x,2 ^ k,rfl,rfl,hC _ (Same.refl _)⟩
    · intro H2 s2 e2
      rw [List.filter_eq_self.mpr (fun _ _=>rfl)] at e2
      refine ⟨l,l2,_,_,rfl,rfl,s2 _ _ el,e2,?_,fun p hp=>?_⟩
      · rw [List.length_map,List.length_map]; exact Nat.le_of_lt (Je (by omega))
      have s3:=jA hp (.lst ((yz ((things b).take i)).map nv ++ (yz ((things b).take i)).map fun p=>nv (p ||| 2 ^ k)))
      refine ⟨(s'.trans s2).trans s3,(sH.trans s2).trans s3,p,some (nv k),(sH.trans s2).free hp,?_,rfl⟩
      rw [jm,List.take_succ,hk,show (some k).toList = [k] from rfl,jg7,List.map_append,List.map_map]; rfl
  · rintro σ H' ⟨s',sH,l,x,hl,el,rfl⟩
    rw [List.length_map,List.take_length] at el
    exact ⟨_,rfl,q l H' sH hl el⟩
theorem jay {f:Addr} {fd:FuncData} (F:Fun K "worths_of_nothing" "worths_of_nothing" qD f fd) (jF:mg "worths_of_nothing" = some (.ref f)) (jQ:mg "range" = none):jE P w K mg base 1 "worths_of_nothing" ["many"] [] (JP K):=by
  refine F.jT jF (bnd1 F fun _ _ _ _ _ _ _=>rfl) jaG (fun vs H Q E h=>?_) (fun cdv A outer s H vs Q E hr h=>?_)
  · obtain ⟨n,rfl,_⟩:=h; rfl
  obtain ⟨n,rfl,hn,q⟩:=h
  refine ⟨_,(R.jn (R.jG (R.Jj (jt qD) ["many"] ["bundle"] [] [] rfl rfl rfl ⟨s.heap.objs.size + 1,rfl⟩ rfl rfl (by decide +kernel) (R.Ji rfl jQ (R.pa_c (R.jD yx R.jg (R.pv 0)) R.jh)) (fun C s2 H2 fp=>(R.jP (i:=0) (show List.Nodup (["bundle"]:List Str) from by decide +kernel) rfl (Or.inl rfl))) (fun C s2 H2 fp=>R.JK) (fun C s2 H2 fp=>R.jg)))),?_⟩
  have f:=(pow6 hn).1
  refine ⟨_,rfl,n,rfl,rfl,by omega,_,rfl,(rng6 hn).1,(rng6 hn).2,fun l hl=>?_⟩
  rw [Int.toNat_natCast]
  refine JD (n:=2 ^ n) (fun _=>true) (fun _=>V.int 0) (by omega) hl ?_ ?_ ?_
  · intro k H1 hk s1 C hC; exact hC _ (Same.refl _)
  · intro k H1 hk _ s1 C hC; exact hC _ (Same.refl _)
  · intro H1 s1 e1
    refine q l H1 s1 hl ?_
    rw [e1,List.filter_eq_self.mpr (fun _ _=>rfl),List.map_map]; rfl
theorem jaP {f:Addr} {fd:FuncData} (F:Fun K "worths" "Bid.worths" Yk f fd)
    (j0:jE P w K mg base 1 "worths_of_nothing" ["many"] [] (JP K))
    (jK:Own K mg "Bid" jr [])
    (jC:Own K mg "Only" jj ["bundle", "amount"])
    (jq:Own K mg "SoMany" jc ["kind", "least", "amount"])
    (jB:Own K mg "UpTo" ji ["kind", "most", "each"])
    (ju:Own K mg "Several" jb ["bids"])
    (jy:Own K mg "AnyOf" jd ["bids"])
    (jz:Own K mg "OneOf" je ["bids"])
    (jx:Own K mg "Stock" jf ["numbers", "kinds"]):FnOk P w K mg base CX0 2 f fd ["self", "many"] (jaZ K jr):=by
  refine F.okQ jeb (fun vs H Q E h=>?_) (fun cdv A outer s H vs Q E hr h=>?_)
  · obtain ⟨a,dx,n,rfl,_⟩:=h; rfl
  obtain ⟨a,dx,n,rfl,hn,e,q⟩:=h
  refine ⟨_,(R.jn (R.jG (R.jw j0 hr (by first | decide | omega) rfl (R.pa_c (R.pv 1) R.jh)))),?_⟩
  exact ⟨_,rfl,n,rfl,hn,fun l H' s' hl e'=>q l H' s' hl e'⟩
theorem Z7 {f:Addr} {fd:FuncData} (F:Fun K "worths" "Only.worths" Qd f fd) (jQ:mg "range" = none)
    (qF:jE P w K mg base 1 "holds" ["one", "other"] [] (Zr K))
    (jK:Own K mg "Bid" jr [])
    (jC:Own K mg "Only" jj ["bundle", "amount"])
    (jq:Own K mg "SoMany" jc ["kind", "least", "amount"])
    (jB:Own K mg "UpTo" ji ["kind", "most", "each"])
    (ju:Own K mg "Several" jb ["bids"])
    (jy:Own K mg "AnyOf" jd ["bids"])
    (jz:Own K mg "OneOf" je ["bids"])
    (jx:Own K mg "Stock" jf ["numbers", "kinds"]):FnOk P w K mg base CX0 2 f fd ["self", "many"] (jaf K jj):=by
  refine F.okQ jdG (fun vs H Q E h=>?_) (fun cdv A outer s H vs Q E hr h=>?_)
  · obtain ⟨a,dx,n,b,m,rfl,_⟩:=h; rfl
  obtain ⟨a,dx,n,b,m,rfl,hn,hb,e,q⟩:=h
  refine ⟨_,(R.jn (R.jG (R.Jj (jt Qd) ["self", "many"] ["bundle"] ["self"] [0] rfl rfl rfl ⟨s.heap.objs.size + 1,rfl⟩ rfl rfl (by decide +kernel) (R.Ji rfl jQ (R.pa_c (R.jD yx R.jg (R.pv 1)) R.jh)) (fun C s2 H2 fp=>(R.jP (i:=0) (show List.Nodup (["bundle", "self"]:List Str) from by decide +kernel) rfl (Or.inl rfl))) (fun C s2 H2 fp=>R.JK) (fun C s2 H2 fp=>(R.jcW (R.Jt (R.jw qF hr (by first | decide | omega) rfl (R.pa_c (R.pv 0) (R.pa_c (R.Jo K (R.pv 1)) R.jh)))) (R.Jo K (R.pv 1)) R.jg))))),?_⟩
  have f:=(pow6 hn).1
  refine ⟨_,rfl,n,rfl,rfl,by omega,_,rfl,(rng6 hn).1,(rng6 hn).2,fun l0 hl=>?_⟩
  rw [Int.toNat_natCast]
  refine JD (n:=2 ^ n) (fun _=>true) (fun x=>V.int (Q0 (.only b m) x)) (by omega) hl ?_ ?_ ?_
  · intro x H1 hx s1 C hC; exact hC _ (Same.refl _)
  · intro x H1 hx _ s1 C hC
    rw [Int.zero_add]
    have e1:=s1 _ _ e
    refine ⟨_,rfl,_,rfl,a,jj,dx,_,nv b,rfl,e1,jC.cls,jC.no _ (Jr 0 rfl),rfl,x,b,rfl,_,rfl,?_⟩
    by_cases hc:x &&& b = b
    · rw [decide_eq_true hc]
      refine iteT ⟨_,rfl,a,jj,dx,_,.int m,rfl,e1,jC.cls,jC.no _ (Jr 1 rfl),rfl,?_⟩
      have z:=hC _ (Same.refl H1)
      rw [show Q0 (.only b m) x = m from if_pos hc] at z
      exact z
    · rw [decide_eq_false hc]
      refine iteF ?_
      have z:=hC _ (Same.refl H1)
      rw [show Q0 (.only b m) x = 0 from if_neg hc] at z
      exact z
  · intro H1 s1 e1
    refine q l0 H1 s1 hl ?_
    rw [e1,List.filter_eq_self.mpr (fun _ _=>rfl)]
    unfold jew
    rw [List.map_map]; rfl
theorem Ze {f:Addr} {fd:FuncData} (F:Fun K "worths" "SoMany.worths" qI f fd) (jQ:mg "range" = none)
    (J8:jE P w K mg base 3 "size_of" ["bundle"] [] (zO K))
    (jK:Own K mg "Bid" jr [])
    (jC:Own K mg "Only" jj ["bundle", "amount"])
    (jq:Own K mg "SoMany" jc ["kind", "least", "amount"])
    (jB:Own K mg "UpTo" ji ["kind", "most", "each"])
    (ju:Own K mg "Several" jb ["bids"])
    (jy:Own K mg "AnyOf" jd ["bids"])
    (jz:Own K mg "OneOf" je ["bids"])
    (jx:Own K mg "Stock" jf ["numbers", "kinds"]):FnOk P w K mg base CX0 4 f fd ["self", "many"] (Zq K jc):=by
  refine F.okQ jcB (fun vs H Q E h=>?_) (fun cdv A outer s H vs Q E hr h=>?_)
  · obtain ⟨a,dx,n,k,l,m,rfl,_⟩:=h; rfl
  obtain ⟨a,dx,n,k,l,m,rfl,hn,hk,e,q⟩:=h
  refine ⟨_,(R.jn (R.jG (R.Jj (jt qI) ["self", "many"] ["bundle"] ["self"] [0] rfl rfl rfl ⟨s.heap.objs.size + 1,rfl⟩ rfl rfl (by decide +kernel) (R.Ji rfl jQ (R.pa_c (R.jD yx R.jg (R.pv 1)) R.jh)) (fun C s2 H2 fp=>(R.jP (i:=0) (show List.Nodup (["bundle", "self"]:List Str) from by decide +kernel) rfl (Or.inl rfl))) (fun C s2 H2 fp=>R.JK) (fun C s2 H2 fp=>(R.jcW (R.jR op_ge (R.jw J8 hr (by first | decide | omega) rfl (R.pa_c (R.jD jbP (R.pv 0) (R.Jo K (R.pv 1))) R.jh)) (R.Jo K (R.pv 1)) (jZ _)) (R.Jo K (R.pv 1)) R.jg))))),?_⟩
  have f:=(pow6 hn).1
  refine ⟨_,rfl,n,rfl,rfl,by omega,_,rfl,(rng6 hn).1,(rng6 hn).2,fun l0 hl=>?_⟩
  rw [Int.toNat_natCast]
  refine JD (n:=2 ^ n) (fun _=>true) (fun x=>V.int (Q0 (.some k l m) x)) (by omega) hl ?_ ?_ ?_
  · intro x H1 hx s1 C hC; exact hC _ (Same.refl _)
  · intro x H1 hx _ s1 C hC
    rw [Int.zero_add]
    have e1:=s1 _ _ e
    refine ⟨_,rfl,_,rfl,a,jc,dx,_,nv k,rfl,e1,jq.cls,jq.no _ (Jr 0 rfl),rfl,x,k,rfl,rfl,x &&& k,rfl,jf9 hk,fun H2 s2=>?_⟩
    have e2:=s2 _ _ e1
    refine ⟨_,rfl,a,jc,dx,_,nv l,rfl,e2,jq.cls,jq.no _ (Jr 1 rfl),rfl,_,_,rfl,rfl,_,rfl,?_⟩
    by_cases hc:l <= (things (x &&& k)).length
    · rw [decide_eq_true (by exact_mod_cast hc)]
      refine iteT ⟨_,rfl,a,jc,dx,_,.int m,rfl,e2,jq.cls,jq.no _ (Jr 2 rfl),rfl,?_⟩
      have z:=hC _ s2
      rw [show Q0 (.some k l m) x = m from if_pos hc] at z
      exact z
    · rw [decide_eq_false (fun z=>hc (by exact_mod_cast z))]
      refine iteF ?_
      have z:=hC _ s2
      rw [show Q0 (.some k l m) x = 0 from if_neg hc] at z
      exact z
  · intro H1 s1 e1
    refine q l0 H1 s1 hl ?_
    rw [e1,List.filter_eq_self.mpr (fun _ _=>rfl)]
    unfold jew
    rw [List.map_map]; rfl
theorem Z9 {f:Addr} {fd:FuncData} (F:Fun K "worths" "UpTo.worths" Qe f fd) (jaN:mg "min" = none) (jQ:mg "range" = none)
    (J8:jE P w K mg base 3 "size_of" ["bundle"] [] (zO K))
    (jK:Own K mg "Bid" jr [])
    (jC:Own K mg "Only" jj ["bundle", "amount"])
    (jq:Own K mg "SoMany" jc ["kind", "least", "amount"])
    (jB:Own K mg "UpTo" ji ["kind", "most", "each"])
    (ju:Own K mg "Several" jb ["bids"])
    (jy:Own K mg "AnyOf" jd ["bids"])
    (jz:Own K mg "OneOf" je ["bids"])
    (jx:Own K mg "Stock" jf ["numbers", "kinds"]):FnOk P w K mg base CX0 4 f fd ["self", "many"] (jah K ji):=by
  refine F.okQ jdJ (fun vs H Q E h=>?_) (fun cdv A outer s H vs Q E hr h=>?_)
  · obtain ⟨a,dx,n,k,l,m,rfl,_⟩:=h; rfl
  obtain ⟨a,dx,n,k,l,m,rfl,hn,hk,e,q⟩:=h
  refine ⟨_,(R.jn (R.jG (R.Jj (jt Qe) ["self", "many"] ["bundle"] ["self"] [0] rfl rfl rfl ⟨s.heap.objs.size + 1,rfl⟩ rfl rfl (by decide +kernel) (R.Ji rfl jQ (R.pa_c (R.jD yx R.jg (R.pv 1)) R.jh)) (fun C s2 H2 fp=>(R.jP (i:=0) (show List.Nodup (["bundle", "self"]:List Str) from by decide +kernel) rfl (Or.inl rfl))) (fun C s2 H2 fp=>R.JK) (fun C s2 H2 fp=>(R.jD qz (R.Jo K (R.pv 1)) (R.JM (jdh rfl) rfl jaN (boot_min) (R.pa_c (R.jw J8 hr (by first | decide | omega) rfl (R.pa_c (R.jD jbP (R.pv 0) (R.Jo K (R.pv 1))) R.jh)) (R.pa_c (R.Jo K (R.pv 1)) R.jh)))))))),?_⟩
  have f:=(pow6 hn).1
  refine ⟨_,rfl,n,rfl,rfl,by omega,_,rfl,(rng6 hn).1,(rng6 hn).2,fun l0 hl=>?_⟩
  rw [Int.toNat_natCast]
  refine JD (n:=2 ^ n) (fun _=>true) (fun x=>V.int (Q0 (.most k l m) x)) (by omega) hl ?_ ?_ ?_
  · intro x H1 hx s1 C hC; exact hC _ (Same.refl _)
  · intro x H1 hx _ s1 C hC
    rw [Int.zero_add]
    have e1:=s1 _ _ e
    refine ⟨_,rfl,a,ji,dx,_,.int m,rfl,e1,jB.cls,jB.no _ (Jr 2 rfl),rfl,?_⟩
    refine ⟨_,rfl,_,rfl,a,ji,dx,_,nv k,rfl,e1,jB.cls,jB.no _ (Jr 0 rfl),rfl,x,k,rfl,rfl,x &&& k,rfl,jf9 hk,fun H2 s2=>?_⟩
    have e2:=s2 _ _ e1
    have t6:=YX (x &&& k)
    refine ⟨_,rfl,a,ji,dx,_,nv l,rfl,e2,jB.cls,jB.no _ (Jr 1 rfl),rfl,_,_,rfl,?_⟩
    refine ⟨_,_,rfl,rfl,Js ?_,?_⟩
    · split <;> omega
    have z:=hC _ s2
    have ez:Q0 (.most k l m) x = m * (if (l:Int) < ((things (x &&& k)).length:Int) then (l:Int) else ((things (x &&& k)).length:Int)):=by
      show m * ((if l < (things (x &&& k)).length then l else (things (x &&& k)).length:Nat):Int) = _
      congr 1
      by_cases hc:l < (things (x &&& k)).length
      · rw [if_pos hc,if_pos (by exact_mod_cast hc)]
      · rw [if_neg hc,if_neg (fun z=>hc (by exact_mod_cast z))]
    rw [ez] at z
    exact z
  · intro H1 s1 e1
    refine q l0 H1 s1 hl ?_
    rw [e1,List.filter_eq_self.mpr (fun _ _=>rfl)]
    unfold jew
    rw [List.map_map]; rfl
theorem jiG {f:Addr} {fd:FuncData} (F:Fun K "_law_whole" "_law_whole" jdB f fd) (jF:mg "_law_whole" = some (.ref f)) (jY:mg "isinstance" = none) (Z3:mg "int" = none) (jdp:mg "bool" = none):jE P w K mg base 1 "_law_whole" ["_law_found"] [] (jfO K):=by
  refine F.jT jF (bnd1 F fun _ _ _ _ _ _ _=>rfl) jiL (fun vs H Q E h=>?_) (fun cdv A outer s H vs Q E hr h=>?_)
  · obtain ⟨v,n,rfl,_⟩:=h; rfl
  obtain ⟨v,n,rfl,hk,q⟩:=h
  refine ⟨_,(R.jn (R.jG (R.jdy (R.Zf .int rfl jY rfl Z3 (R.pv 0)) (R.jbr (R.jfi (R.Zf .bl rfl jY rfl jdp (R.pv 0))))))),?_⟩
  refine ⟨_,rfl,v,n,rfl,hk,_,rfl,?_⟩
  refine ite2 (fun c=>?_) (fun c=>?_)
  · refine ⟨_,rfl,v,n,rfl,hk,_,rfl,?_⟩
    rw [(jbY n).1 c]; exact q
  · show Q (.bl false) H
    rw [(jbY n).2 c]; exact q
theorem getD_at {ws:List Int} {b:Nat} (h:b < ws.length):atI (ws.map V.int) (b:Int) = some (V.int (ws.getD b 0)):=by
  refine jdf ?_
  rw [List.getElem?_map,List.getElem?_eq_getElem h,List.getD_eq_getElem?_getD,List.getElem?_eq_getElem h]; rfl
theorem size_sum:∀ b < 64,([1,2,4,8,16,32].map fun x=>((b / x % 2:Nat):Int)).sum = ((things b).length:Int):=by decide +kernel
theorem ones6 {x:Nat} (hx:x ∈ [1,2,4,8,16,32]):0 < x /\ x <= 32:=by
  simp only [List.mem_cons,List.not_mem_nil,or_false] at hx
  rcases hx with e | e | e | e | e | e <;> subst e <;> decide
theorem jjV {f:Addr} {fd:FuncData} (F:Fun K "_law_size" "_law_size" jc0 f fd) (jF:mg "_law_size" = some (.ref f)) (Zc:mg "sum" = none):jE P w K mg base 1 "_law_size" ["_law_bundle"] [] (jgG K):=by
  refine F.jT jF (bnd1 F fun _ _ _ _ _ _ _=>rfl) jj4 (fun vs H Q E h=>?_) (fun cdv A outer s H vs Q E hr h=>?_)
  · obtain ⟨b,rfl,_⟩:=h; rfl
  obtain ⟨b,rfl,hb,q⟩:=h
  refine ⟨_,(R.jn (R.jG (R.JM (jdi rfl) rfl Zc (boot_sum) (R.pa_c (R.Jj (jt jc0) ["_law_bundle"] ["_law_by"] ["_law_bundle"] [0] rfl rfl rfl ⟨s.heap.objs.size + 1,rfl⟩ rfl rfl (by decide +kernel) (R.JF (R.Jz (R.pa_c R.jg (R.pa_c R.jg (R.pa_c R.jg (R.pa_c R.jg (R.pa_c R.jg (R.pa_c R.jg R.jh)))))))) (fun C s2 H2 fp=>(R.jP (i:=0) (show List.Nodup (["_law_by", "_law_bundle"]:List Str) from by decide +kernel) rfl (Or.inl rfl))) (fun C s2 H2 fp=>R.JK) (fun C s2 H2 fp=>(R.jD (opE Jk) (R.jD (opE Ql) (R.pv 1) (R.pv 0)) R.jg))) R.jh)))),?_⟩
  refine ⟨(by show 6 <= sizeLine; decide),fun l1 h1=>⟨l1,rfl,⟨_,SqL.of jm⟩,fun l2 h2=>?_⟩⟩
  refine zG nv [1,2,4,8,16,32] (fun _=>true) (fun x=>nv (b / x % 2)) (SqL.of jm) (by decide) h2 ?_ ?_ ?_
  · intro x hx H2 s2 C hC; exact hC _ (Same.refl _)
  · intro x hx _ H2 s2 C hC
    obtain ⟨x1,x2⟩:=ones6 hx
    exact ⟨_,rfl,_,rfl,_,_,nv (b / x),rfl,rfl,⟨by omega,by omega⟩,rfl,_,_,nv (b / x % 2),rfl,rfl,(by show (0:Int) < 2; decide),rfl,hC _ (Same.refl _)⟩
  · intro H2 s2 e2
    refine ⟨l2,[1,2,4,8,16,32].map fun x=>((b / x % 2:Nat):Int),rfl,SqL.of ?_,?_⟩
    · rw [e2,List.filter_eq_self.mpr (fun _ _=>rfl),List.map_map]; rfl
    · rw [size_sum b hb]
      exact q _ ((jA h1 _).trans s2)
theorem jiA {f:Addr} {fd:FuncData} (F:Fun K "_law_gives" "_law_gives" jdA f fd) (jF:mg "_law_gives" = some (.ref f)) (Z3:mg "int" = none) (jaN:mg "min" = none)
    (jeA:jE P w K mg base 1 "_law_size" ["_law_bundle"] [] (jgG K)):jE P w K mg base 2 "_law_gives" ["_law_form_here", "_law_bundle"] [] (jcF K):=by
  refine F.jT jF (bnd2 F fun _ _ _ _ _ _ _ _=>rfl) jfy (fun vs H Q E h=>?_) (fun cdv A outer s H vs Q E hr h=>?_)
  · obtain ⟨p,f,x,rfl,_⟩:=h; rfl
  obtain ⟨p,f,x,rfl,ok,⟨k0,l0,z0,hp,h63,fit⟩,hx,q⟩:=h
  refine ⟨_,(R.jk (R.jO (i:=2) jfy.nd rfl (Or.inl rfl) (R.jw jeA hr (by first | decide | omega) rfl (R.pa_c (R.jD jbP (R.pv 1) (R.jX Jq (R.pv 0) R.jg (fun _ _=>rfl))) R.jh)))
    (R.jk (R.j8 (R.jR JN (R.jX Jq (R.pv 0) R.jg (fun _ _=>rfl)) R.jJ (jZ _)) (R.jn (R.jG (R.jD qz (R.jX Jq (R.pv 0) R.jg (fun _ _=>rfl)) (R.YD jgg rfl Z3 (boot_int) (R.pa_c (R.Y5 JN (R.jD jbP (R.pv 1) (R.jX Jq (R.pv 0) R.jg (fun _ _=>rfl))) (R.jX Jq (R.pv 0) R.jg (fun _ _=>rfl)) (jZ _)) R.jh))))) R.jL)
    (R.jk (R.j8 (R.jR JN (R.jX Jq (R.pv 0) R.jg (fun _ _=>rfl)) R.jJ (jZ _)) (R.jn (R.jG (R.jD qz (R.jX Jq (R.pv 0) R.jg (fun _ _=>rfl)) (R.YD jgg rfl Z3 (boot_int) (R.pa_c (R.Y5 op_ge (R.pv 2) (R.jX Jq (R.pv 0) R.jg (fun _ _=>rfl)) (jZ _)) R.jh))))) R.jL)
    (R.jk (R.j8 (R.jR JN (R.jX Jq (R.pv 0) R.jg (fun _ _=>rfl)) R.jJ (jZ _)) (R.jn (R.jG (R.jD qz (R.jX Jq (R.pv 0) R.jg (fun _ _=>rfl)) (R.JM (jdh rfl) rfl jaN (boot_min) (R.pa_c (R.pv 2) (R.pa_c (R.jX Jq (R.pv 0) R.jg (fun _ _=>rfl)) R.jh)))))) R.jL)
    (R.jn (R.jG R.jg)))))),?_⟩
  cases f with
  | none =>
    refine ⟨_,rfl,_,rfl,p,_,_,_,rfl,rfl,SqT.of hp,rfl,x,k0,rfl,rfl,x &&& k0,rfl,jf9 h63,fun H1 s1=>?_⟩
    have h1:=s1 _ _ hp
    refine ⟨_,rfl,p,_,_,_,rfl,rfl,SqT.of h1,rfl,rfl,_,rfl,iteF ?_⟩
    refine ⟨_,rfl,p,_,_,_,rfl,rfl,SqT.of h1,rfl,rfl,_,rfl,iteF ?_⟩
    refine ⟨_,rfl,p,_,_,_,rfl,rfl,SqT.of h1,rfl,rfl,_,rfl,iteF ?_⟩
    exact q _ s1
  | only b m =>
    obtain ⟨rfl,rfl⟩:=fit
    obtain ⟨b1,b2,hm⟩:=ok
    refine ⟨_,rfl,_,rfl,p,_,_,_,rfl,rfl,SqT.of hp,rfl,x,b,rfl,rfl,x &&& b,rfl,jf9 b2,fun H1 s1=>?_⟩
    have h1:=s1 _ _ hp
    refine ⟨_,rfl,p,_,_,_,rfl,rfl,SqT.of h1,rfl,rfl,_,rfl,iteT ?_⟩
    refine ⟨_,rfl,p,_,_,_,rfl,rfl,SqT.of h1,rfl,?_⟩
    refine ⟨_,rfl,_,rfl,p,_,_,_,rfl,rfl,SqT.of h1,rfl,x,b,rfl,rfl,_,rfl,p,_,_,_,rfl,rfl,SqT.of h1,rfl,rfl,?_⟩
    rw [show decide (V.int ((x &&& b:Nat):Int) = nv b) = decide (x &&& b = b) from jav]
    refine .inr ⟨_,rfl,_,_,rfl,rfl,Js (by split <;> decide),?_⟩
    have z:=q _ s1
    have e:Q0 (.only b m) x = m * (if decide (x &&& b = b) = true then 1 else 0):=by
      show (if x &&& b = b then m else 0) = _
      by_cases hc:x &&& b = b
      · rw [if_pos hc,if_pos (decide_eq_true hc),Int.mul_one]
      · rw [if_neg hc,if_neg (by rw [decide_eq_false hc]; decide),Int.mul_zero]
    rw [e] at z
    exact z
  | some k l m =>
    obtain ⟨rfl,rfl,rfl⟩:=fit
    obtain ⟨k1,k2,l1,l2,hm⟩:=ok
    refine ⟨_,rfl,_,rfl,p,_,_,_,rfl,rfl,SqT.of hp,rfl,x,k,rfl,rfl,x &&& k,rfl,jf9 k2,fun H1 s1=>?_⟩
    have h1:=s1 _ _ hp
    refine ⟨_,rfl,p,_,_,_,rfl,rfl,SqT.of h1,rfl,rfl,_,rfl,iteF ?_⟩
    refine ⟨_,rfl,p,_,_,_,rfl,rfl,SqT.of h1,rfl,rfl,_,rfl,iteT ?_⟩
    refine ⟨_,rfl,p,_,_,_,rfl,rfl,SqT.of h1,rfl,?_⟩
    refine ⟨_,rfl,_,rfl,p,_,_,_,rfl,rfl,SqT.of h1,rfl,_,_,rfl,rfl,?_⟩
    refine .inr ⟨_,rfl,_,_,rfl,rfl,Js (by split <;> decide),?_⟩
    have z:=q _ s1
    have e:Q0 (.some k l m) x = m * (if decide ((l:Int) <= ((things (x &&& k)).length:Int)) = true then 1 else 0):=by
      show (if l <= (things (x &&& k)).length then m else 0) = _
      by_cases hc:l <= (things (x &&& k)).length
      · rw [if_pos hc,if_pos (decide_eq_true (by exact_mod_cast hc)),Int.mul_one]
      · rw [if_neg hc,if_neg (by rw [decide_eq_false (fun z=>hc (by exact_mod_cast z))]; decide),Int.mul_zero]
    rw [e] at z
    exact z
  | most k l m =>
    obtain ⟨rfl,rfl,rfl⟩:=fit
    obtain ⟨k1,k2,l1,l2,hm⟩:=ok
    have t6:=YX (x &&& k)
    refine ⟨_,rfl,_,rfl,p,_,_,_,rfl,rfl,SqT.of hp,rfl,x,k,rfl,rfl,x &&& k,rfl,jf9 k2,fun H1 s1=>?_⟩
    have h1:=s1 _ _ hp
    refine ⟨_,rfl,p,_,_,_,rfl,rfl,SqT.of h1,rfl,rfl,_,rfl,iteF ?_⟩
    refine ⟨_,rfl,p,_,_,_,rfl,rfl,SqT.of h1,rfl,rfl,_,rfl,iteF ?_⟩
    refine ⟨_,rfl,p,_,_,_,rfl,rfl,SqT.of h1,rfl,rfl,_,rfl,iteT ?_⟩
    refine ⟨_,rfl,p,_,_,_,rfl,rfl,SqT.of h1,rfl,?_⟩
    refine ⟨_,rfl,_,rfl,p,_,_,_,rfl,rfl,SqT.of h1,rfl,_,_,rfl,?_⟩
    refine ⟨_,_,rfl,rfl,Js (by split <;> omega),?_⟩
    have z:=q _ s1
    have e:Q0 (.most k l m) x = m * (if (l:Int) < ((things (x &&& k)).length:Int) then (l:Int) else ((things (x &&& k)).length:Int)):=by
      show m * ((if l < (things (x &&& k)).length then l else (things (x &&& k)).length:Nat):Int) = _
      congr 1
      by_cases hc:l < (things (x &&& k)).length
      · rw [if_pos hc,if_pos (by exact_mod_cast hc)]
      · rw [if_neg hc,if_neg (fun z=>hc (by exact_mod_cast z))]
    rw [e] at z
    exact z
theorem in05 {k:Nat} (h:k < 6):(decide ((0:Int) <= (k:Int)) && decide ((k:Int) <= 5)) = true:=by
  rw [decide_eq_true (by omega),decide_eq_true (by omega)]; rfl
theorem jfa {f:Addr} {fd:FuncData} (F:Fun K "bundle_of" "bundle_of" ZK f fd) (jF:mg "bundle_of" = some (.ref f))
    (qF:jE P w K mg base 1 "holds" ["one", "other"] [] (Zr K))
    (Jv:jE P w K mg base 2 "is_within" ["thing", "least", "most"] [] (QR K)):jE P w K mg base 3 "bundle_of" ["numbers"] [] (jbD K):=by
  refine F.jT jF (bnd1 F fun _ _ _ _ _ _ _=>rfl) Yw (fun vs H Q E h=>?_) (fun cdv A outer s H vs Q E hr h=>?_)
  · obtain ⟨p,ks,rfl,_⟩:=h; rfl
  obtain ⟨p,ks,rfl,hS,hg,q⟩:=h
  refine ⟨_,(R.jk (R.jO (i:=1) Yw.nd rfl (Or.inl rfl) R.jg)
    (R.jk (R.J4 PassesOwn.never rfl (R.JF (R.pv 0)) (R.jP (i:=2) Yw.nd rfl (Or.inl rfl)) (R.jk (R.j8 (R.JZ (R.Jt (R.jw Jv hr (by first | decide | omega) rfl (R.pa_c (R.pv 2) (R.pa_c R.jg (R.pa_c R.jg R.jh)))))) (R.jn R.JB) R.jL)
      (R.jk (R.j8 (R.Jt (R.jw qF hr (by first | decide | omega) rfl (R.pa_c (R.pv 1) (R.pa_c (R.jD yx R.jg (R.pv 2)) R.jh)))) (R.jn R.JB) R.jL)
      (R.jn (R.jO (i:=1) Yw.nd rfl (Or.inl rfl) (R.jD jdx (R.pv 1) (R.jD yx R.jg (R.pv 2))))))))
    (R.jn (R.jG (R.pv 1))))),?_⟩
  refine ⟨_,rfl,p,rfl,⟨_,hS⟩,?_⟩
  refine Yd (xs:=ks.map nv) (fun i σ H'=>H' = H /\ once (bun 0 (ks.take i)) (ks.drop i) = true /\ ∃ x,σ = [some (.ref p),some (nv (bun 0 (ks.take i))),x]) ?_ ?_ ?_ ?_
  · exact ⟨rfl,hg,none,rfl⟩
  · rintro i σ H' _ ⟨rfl,_⟩; exact hS
  · rintro i v σ H' hv ⟨rfl,g,x,rfl⟩
    rw [List.getElem?_map] at hv
    obtain ⟨k,hk,rfl⟩:=Option.map_eq_some_iff.mp hv
    have hi:=(List.getElem?_eq_some_iff.mp hk).1
    have ed:ks.drop i = k :: ks.drop (i + 1):=by
      rw [List.drop_eq_getElem_cons hi]
      congr 1
      exact Option.some.inj ((List.getElem?_eq_getElem hi).symm.trans hk)
    have et:bun 0 (ks.take (i + 1)) = bun 0 (ks.take i) ||| 2 ^ k:=by
      unfold bun
      rw [List.take_succ,hk,List.foldl_append]; rfl
    rw [ed] at g
    simp only [once,Bool.and_eq_true,Bool.not_eq_true',decide_eq_true_eq,decide_eq_false_iff_not] at g
    obtain ⟨⟨g1,g2⟩,g3⟩:=g
    refine ⟨_,rfl,_,0,5,rfl,.inr ⟨_,rfl,_,rfl,?_⟩⟩
    rw [in05 g1]
    refine iteF ?_
    refine ⟨_,rfl,_,rfl,k,rfl,rfl,by omega,_,_,rfl,_,rfl,?_⟩
    rw [decide_eq_false g2]
    refine iteF ?_
    refine ⟨_,rfl,_,rfl,k,rfl,rfl,by omega,_,_,rfl,rfl,rfl,?_,some (nv k),?_⟩
    · rw [et]; exact g3
    · rw [et]; rfl
  · rintro σ H' ⟨rfl,g,x,rfl⟩
    rw [List.length_map,List.take_length]
    exact ⟨_,rfl,q⟩
theorem QV:∀ a b:List Tr,Jg (a ++ b) = Jg a ||| Jg b
  | [],b=>by show Jg b = 0 ||| Jg b; rw [Nat.zero_or]
  | x :: a,b=>by show Ja x ||| Jg (a ++ b) = (Ja x ||| Jg a) ||| Jg b; rw [QV a b,Nat.or_assoc]
theorem jaH (ts:List Tr) (i:Nat) (t:Tr) (h:ts[i]? = some t):Jg (ts.take (i + 1)) = Jg (ts.take i) ||| Ja t:=by
  rw [List.take_add_one,h,QV]
  show _ ||| (Ja t ||| 0) = _
  rw [Nat.or_zero]
structure GI (H:Hp) (lf:Addr) (d:Nat) (ts:List Tr) (i:Nat) (H':Hp) (lr:Addr) (qs rs:List Addr) (us vs:List Tr):Prop where
  s:Same H H'
  nr:H lr = none
  ne:lf ≠ lr
  ef:H' lf = some (.lst (qs.map V.ref))
  er:H' lr = some (.lst (rs.map V.ref))
  fu:All2 (FT (fun x=>x ≠ lf /\ x ≠ lr) H' (d + 1)) qs us
  fv:All2 (FT (fun x=>x ≠ lf /\ x ≠ lr) H' d) rs vs
  du:jW us <= jW ts + 1
  dv:jW vs <= jW ts
  len:us.length + vs.length <= i
  tal:jN us + jN vs <= jN (ts.take i) + us.length
  spk:Jg us ||| Jg vs = Jg (ts.take i)
section
variable {H H' H'':Hp} {lf lr lr2:Addr} {d i:Nat} {ts us vs:List Tr} {qs rs:List Addr}
theorem GI.same (g:GI H lf d ts i H' lr qs rs us vs) (S:Same H' H''):GI H lf d ts i H'' lr qs rs us vs :=
  ⟨g.s.trans S,g.nr,g.ne,S _ _ g.ef,S _ _ g.er,g.fu.imp fun _ _ _ z=>z.same S,g.fv.imp fun _ _ _ z=>z.same S,g.du,g.dv,g.len,g.tal,g.spk⟩
theorem GI.row (g:GI H lf d ts i H' lr qs rs us vs) (nf:H lf = none) {A:Addr->Prop} {p:Addr} {t:Tr} (ht:ts[i]? = some t) (hp:FT A H d p t):GI H lf d ts (i + 1) (upd H' lr (.lst ((rs ++ [p]).map V.ref))) lr qs (rs ++ [p]) us (vs ++ [t]):=by
  have nA:¬ (lr ≠ lf /\ lr ≠ lr):=fun z=>z.2 rfl
  have hp':FT (fun x=>x ≠ lf /\ x ≠ lr) H' d p t:=(hp.imp fun l zs _ e=>⟨jU e nf,jU e g.nr⟩).same g.s
  have md:=Qh (List.mem_of_getElem? ht)
  refine ⟨g.s.upd g.nr _,g.nr,g.ne,by rw [jM g.ne]; exact g.ef,jm,g.fu.imp fun _ _ _ z=>z.put g.er nA,(g.fv.imp fun _ _ _ z=>z.put g.er nA).snoc (hp'.put g.er nA),g.du,?_,?_,?_,?_⟩
  · rw [Qg]; show max _ (max (j7 t) 0) <= _
    have:=g.dv; omega
  · have:=g.len
    rw [List.length_append]; show us.length + (vs.length + 1) <= i + 1; omega
  · have:=g.tal
    rw [jh8 ts i t ht,qM]; show jN us + (jN vs + (jV t + 0)) <= _; omega
  · have e:=g.spk
    rw [jaH ts i t ht,<- e,QV]
    show _ ||| (_ ||| (Ja t ||| 0)) = _
    rw [Nat.or_zero,Nat.or_assoc]
theorem FT.step {lr:Addr} {zs zs':List V} (ef:H' lf = some (.lst zs)) (h2:upd H' lf (.lst zs') lr2 = none) {d:Nat} {p:Addr} {t:Tr} (h:FT (fun x=>x ≠ lf /\ x ≠ lr) H' d p t):FT (fun x=>x ≠ lf /\ x ≠ lr2) (upd (upd H' lf (.lst zs')) lr2 (.lst [])) d p t:=by
  have n1:lr2 ≠ lf:=fun z=>by rw [z,jm] at h2; cases h2
  have n2:H' lr2 = none:=by rw [jM n1] at h2; exact h2
  refine FT.move (fun a xs e=>?_) (fun l ys hl e=>?_) d h
  · rw [jM (jU e n2),jM (fun z=>by rw [z,ef] at e; cases e)]; exact e
  · have n3:=jU e n2
    exact ⟨⟨hl.1,n3⟩,by rw [jM n3,jM hl.1]; exact e⟩
theorem GI.push (g:GI H lf d ts i H' lr qs rs us vs) (nf:H lf = none) {p:Addr} {t:Tr} (hp:∀ {zs':List V} {lr2:Addr},upd H' lf (.lst zs') lr2 = none->FT (fun x=>x ≠ lf /\ x ≠ lr2) (upd (upd H' lf (.lst zs')) lr2 (.lst [])) (d + 1) p t) (hd:j7 t <= jW ts + 1) (hy:jV t <= jN vs + 1) (h1:1 <= vs.length) (hk:Ja t = Jg vs)
    (h2:upd H' lf (.lst ((qs ++ [p]).map V.ref)) lr2 = none):GI H lf d ts i (upd (upd H' lf (.lst ((qs ++ [p]).map V.ref))) lr2 (.lst [])) lr2 (qs ++ [p]) [] (us ++ [t]) []:=by
  have n1:lr2 ≠ lf:=fun z=>by rw [z,jm] at h2; cases h2
  have n2:H' lr2 = none:=by rw [jM n1] at h2; exact h2
  refine ⟨(g.s.upd nf _).upd (g.s.free n2) _,g.s.free n2,Ne.symm n1,by rw [jM (Ne.symm n1)]; exact jm,jm,(g.fu.imp fun _ _ _ z=>z.step g.ef h2).snoc (hp h2),All2.nil,?_,Nat.zero_le _,?_,?_,?_⟩
  · rw [Qg]; show max _ (max (j7 t) 0) <= _
    have:=g.du; omega
  · have:=g.len
    rw [List.length_append]; show us.length + 1 + 0 <= i; omega
  · have:=g.tal
    rw [qM,List.length_append]; show jN us + (jV t + 0) + 0 <= _ + (us.length + 1); omega
  · have e:=g.spk
    rw [<- e,QV]
    show (_ ||| (Ja t ||| 0)) ||| 0 = _
    rw [Nat.or_zero,Nat.or_zero,hk]
end
theorem FT.up {A:Addr->Prop} {H:Hp}:∀ (d:Nat) {a:Addr} {t:Tr},FT A H d a t->FT A H (d + 1) a t
  | 0,_,_,h=>h.elim
  | d + 1,a,.leaf f,h=>h
  | d + 1,a,.node any ts,h=>by
    obtain ⟨l,bs,e1,e2,e3,e4⟩:=h
    exact ⟨l,bs,e1,e2,e3,e4.imp fun x y _ z=>FT.up d z⟩
theorem jg0 {f:Addr} {fd:FuncData} (F:Fun K "_law_grouped" "_law_grouped" jbv f fd) (jF:mg "_law_grouped" = some (.ref f)) (jQ:mg "range" = none) (Jl:mg "len" = none) (Z2:mg "divmod" = none):jE P w K mg base 1 "_law_grouped" ["_law_forms", "_law_cell_here"] [] (jc3 K):=by
  refine F.jT jF (bnd2 F fun _ _ _ _ _ _ _ _=>rfl) J6 (fun vs H Q E h=>?_) (fun cdv A outer s H vs Q E hr h=>?_)
  · obtain ⟨l,ps,ts,A,d,c,rfl,_⟩:=h; rfl
  obtain ⟨l,ps,ts,A,d,c,rfl,hl,hP,few,q⟩:=h
  refine ⟨_,(R.jk (R.jO (i:=2) J6.nd rfl (Or.inl rfl) (R.jD Jk (R.jD qz (R.jD Jk (R.pv 1) R.jg) R.jg) R.jg))
    (R.jk (R.jO (i:=3) J6.nd rfl (Or.inl rfl) (R.Jz R.jh))
    (R.jk (R.jO (i:=4) J6.nd rfl (Or.inl rfl) (R.Jz R.jh))
    (R.jk (R.J4 PassesOwn.never rfl (R.Ji rfl jQ (R.pa_c (R.JM Jf rfl Jl PySem.boot_len (R.pa_c (R.pv 0) R.jh)) R.jh)) (R.jP (i:=5) J6.nd rfl (Or.inl rfl)) (R.jk (R.JQ (R.qg (R.pv 4) (R.pa_c (R.jX (R.ixL K) (R.pv 0) (R.pv 5) (fun _ _=>rfl)) R.jh)))
      (R.jk (R.jhd (R.JM jdU rfl Z2 (boot_divmod) (R.pa_c (R.pv 2) (R.pa_c R.jg R.jh))) (R.Zh K 2 rfl (R.JL (R.jP (i:=2) J6.nd rfl (Or.inl rfl)) (R.JL (R.jP (i:=6) J6.nd rfl (Or.inl rfl)) R.Yg))))
      (R.jn (R.j8 (R.pt (R.jcv (R.jR JN (R.pv 6) R.jg (jZ _)) (R.jaB (R.jR JN (R.JM Jf rfl Jl PySem.boot_len (R.pa_c (R.pv 4) R.jh)) R.jg (jZ _))))) (R.jk (R.JQ (R.qg (R.pv 3) (R.pa_c (R.jX (R.ixL K) (R.pv 4) R.jg (fun _ _=>rfl)) R.jh)))
        (R.jn (R.jO (i:=4) J6.nd rfl (Or.inl rfl) (R.Jz R.jh)))) (R.jn (R.j8 (R.pt (R.Zi (R.jR op_lt (R.pv 6) R.jg (jZ _)) (R.Yi (R.jR JN (R.pv 5) (R.jD jaA (R.JM Jf rfl Jl PySem.boot_len (R.pa_c (R.pv 0) R.jh)) R.jg) (jZ _))))) (R.jk (R.JQ (R.qg (R.pv 3) (R.pa_c (R.yI (R.pa_c (R.jX (R.ixL K) (R.Jz (R.pa_c R.jJ (R.pa_c R.jJ R.jh))) (R.jD (opE Jk) (R.pv 6) R.jg) (fun _ _=>rfl)) (R.pa_c (R.pv 4) R.jh))) R.jh)))
          (R.jn (R.jO (i:=4) J6.nd rfl (Or.inl rfl) (R.Jz R.jh)))) R.jL)))))))
    (R.jn (R.jG (R.pv 3))))))),?_⟩
  refine ⟨_,rfl,_,_,rfl,rfl,(by show (0:Int) < 1000000007; decide),_,_,rfl,rfl,Js (by decide),_,_,rfl,rfl,(by show (0:Int) < 2147483647; decide),?_⟩
  refine ⟨(by show 0 <= sizeLine; decide),fun lf hf=>⟨(by show 0 <= sizeLine; decide),fun lr hlr=>?_⟩⟩
  have s1:=jA hf (.lst [])
  have s2:=jA hlr (.lst [])
  have pl:(ps.map V.ref).length = ts.length:=by rw [List.length_map,hP.1]
  refine ⟨_,rfl,l,_,rfl,.inl (SqL.of ((s1.trans s2) _ _ hl)),_,rfl,by omega,by omega,?_⟩
  rw [Int.toNat_natCast,pl]
  refine Q3 (n:=ts.length) (lo:=0) (fun i σ H'=>∃ (lr:Addr) (qs rs:List Addr) (us vs:List Tr) (num:Int) (y1 y2:Option V),GI H lf d ts i H' lr qs rs us vs /\ σ = [some (.ref l),some (.int c),some (.int num),some (.ref lf),some (.ref lr),y1,y2]) ?_ ?_ ?_
  · have hfr:lf ≠ lr:=jU (jm (H:=H) (a:=lf) (o:=.lst [])) hlr
    exact ⟨lr,[],[],[],[],_,_,_,⟨s1.trans s2,s1.free hlr,hfr,s2 _ _ jm,jm,All2.nil,All2.nil,Nat.zero_le _,Nat.zero_le _,Nat.le_refl _,Nat.zero_le _,rfl⟩,rfl⟩
  · rintro i σ H1 hi ⟨lr,qs,rs,us,vs,num,y1,y2,g,rfl⟩
    rw [Int.zero_add]
    have hti:ts[i]? = some ts[i]:=List.getElem?_eq_getElem hi
    have hpi':i < ps.length:=by rw [hP.1]; exact hi
    have hpi:ps[i]? = some ps[i]:=List.getElem?_eq_getElem hpi'
    have g1:=g.row hf hti (hP.2 i _ _ hpi hti)
    have zp:(ps.map V.ref)[i]? = some (V.ref ps[i]):=by rw [List.getElem?_map,hpi]; rfl
    have lrs:rs.length = vs.length:=g.fv.1
    have lqs:qs.length = us.length:=g.fu.1
    have gl:=g.len
    refine ⟨_,rfl,.inl ⟨rfl,_,SqL.of g.er⟩,_,rfl,_,rfl,l,_,_,_,rfl,rfl,SqL.of (g.s _ _ hl),jdf zp,lr,_,_,rfl,rfl,g.er,by rw [List.length_map]; exact Je (by omega),?_⟩
    have er:rs.map V.ref ++ [V.ref ps[i]] = (rs ++ [ps[i]]).map V.ref:=by rw [List.map_append]; rfl
    rw [er]
    generalize upd H1 lr (.lst ((rs ++ [ps[i]]).map V.ref)) = H2 at g1 ⊢
    refine ⟨_,rfl,_,_,rfl,⟨by decide,by decide⟩,fun pt hpt=>⟨pt,_,rfl,SqT.of jm,rfl,_,_,rfl,_,_,rfl,rfl,?_⟩⟩
    have g2:=g1.same (jA hpt (.tup [.int (num / 5),.int (num % 5)]))
    generalize upd H2 pt (.tup [.int (num / 5),.int (num % 5)]) = H3 at g2 ⊢
    have lv:(vs ++ [ts[i]]).length = vs.length + 1:=List.length_append
    refine ⟨_,rfl,rfl,_,rfl,?_⟩
    refine ite2 (fun cw=>?_) (fun _=>iteF ?_)
    · refine ⟨_,rfl,lr,_,rfl,.inl (SqL.of g2.er),rfl,_,rfl,?_⟩
      refine ite2 (fun c1=>?_) (fun _=>?_)
      ·
        have c1':V.int ((((rs ++ [ps[i]]).map V.ref).length:Nat):Int) = V.int 1:=of_decide_eq_true c1
        have c2:rs = []:=by
          injection c1' with c3
          rw [List.length_map,List.length_append,List.length_singleton] at c3
          exact List.length_eq_zero_iff.mp (by omega)
        have c4:vs = []:=List.length_eq_zero_iff.mp (by rw [<- lrs,c2]; rfl)
        subst c2 c4
        refine ⟨_,rfl,.inl ⟨rfl,_,SqL.of g2.ef⟩,_,rfl,lr,_,_,_,rfl,rfl,SqL.of g2.er,rfl,lf,_,_,rfl,rfl,g2.ef,by rw [List.length_map]; exact Je (by omega),?_⟩
        have eq:qs.map V.ref ++ [V.ref ps[i]] = (qs ++ [ps[i]]).map V.ref:=by rw [List.map_append]; rfl
        rw [eq]
        refine ⟨(by show 0 <= sizeLine; decide),fun lr2 h2=>?_⟩
        have f0:=g2.fv.2 0 ps[i] ts[i] rfl rfl
        have md:=Qh (List.mem_of_getElem? hti)
        exact ⟨lr2,_,[],_,[],_,_,_,g2.push hf (fun z=>(FT.up d f0).step g2.ef z) (by omega) (by show jV ts[i] <= jV ts[i] + 0 + 1; omega) (by rw [lv]; omega) (by show Ja ts[i] = Ja ts[i] ||| 0; rw [Nat.or_zero]) h2,rfl⟩
      · refine ⟨_,rfl,_,_,rfl,rfl,_,rfl,?_⟩
        refine ite2 (fun _=>iteT ?_) (fun _=>?_)
        · have dn:jW (vs ++ [ts[i]]) <= jW ts:=g2.dv
          refine ⟨_,rfl,.inl ⟨rfl,_,SqL.of g2.ef⟩,(by show 2 <= sizeLine; decide),fun lw hw=>?_⟩
          have g3:=g2.same (jA hw (.lst [V.str "any",V.str "one"]))
          have ew:upd H3 lw (.lst [V.str "any",V.str "one"]) lw = some (.lst [V.str "any",V.str "one"]):=jm
          generalize upd H3 lw (.lst [V.str "any",V.str "one"]) = H4 at g3 ew ⊢
          obtain ⟨w2,ew2,hw2⟩:=qO (num % 5) 2 (by decide)
          obtain ⟨any,ea⟩:∃ any,atI [V.str "any",V.str "one"] (w2:Int) = some (.str (qe any)):=by
            rcases (by omega:w2 = 0 ∨ w2 = 1) with e | e <;> subst e
            · exact ⟨true,rfl⟩
            · exact ⟨false,rfl⟩
          refine ⟨_,rfl,_,_,nv w2,rfl,rfl,(by show (0:Int) < 2; decide),congrArg V.int ew2,lw,_,_,_,rfl,rfl,SqL.of ew,ea,_,rfl,(by show 2 <= sizeLine; decide),fun pg hpg=>?_⟩
          have g4:=g3.same (jA hpg (.tup [.str (qe any),.ref lr]))
          have epg:upd H4 pg (.tup [.str (qe any),.ref lr]) pg = some (.tup [.str (qe any),.ref lr]):=jm
          generalize upd H4 pg (.tup [.str (qe any),.ref lr]) = H5 at g4 epg ⊢
          refine ⟨lf,_,_,rfl,rfl,g4.ef,by rw [List.length_map]; exact Je (by omega),?_⟩
          have eq:qs.map V.ref ++ [V.ref pg] = (qs ++ [pg]).map V.ref:=by rw [List.map_append]; rfl
          rw [eq]
          refine ⟨(by show 0 <= sizeLine; decide),fun lr2 h2=>?_⟩
          refine ⟨lr2,_,[],_,[],_,_,_,g4.push (t:=.node any (vs ++ [ts[i]])) hf (fun {zs' lr3} z=>?_) (by show 1 + jW (vs ++ [ts[i]]) <= _; omega) (by show 1 + jN (vs ++ [ts[i]]) <= _; omega) (by rw [lv]; omega) rfl h2,rfl⟩
          have m1:lr3 ≠ lf:=fun y=>by rw [y,jm] at z; cases z
          have m2:H5 lr3 = none:=by rw [jM m1] at z; exact z
          exact ⟨lr,_,by rw [jM (jU epg m2),jM (fun y=>by rw [y,g4.ef] at epg; cases epg)]; exact epg,⟨Ne.symm g4.ne,jU g4.er m2⟩,by rw [jM (jU g4.er m2),jM (Ne.symm g4.ne)]; exact g4.er,g4.fv.imp fun _ _ _ y=>y.step g4.ef z⟩
        · refine ⟨_,rfl,_,rfl,l,_,rfl,.inl (SqL.of (g2.s _ _ hl)),_,_,rfl,rfl,rfl,_,rfl,?_⟩
          refine ite2 (fun _=>?_) (fun _=>?_)
          · have dn:jW (vs ++ [ts[i]]) <= jW ts:=g2.dv
            refine ⟨_,rfl,.inl ⟨rfl,_,SqL.of g2.ef⟩,(by show 2 <= sizeLine; decide),fun lw hw=>?_⟩
            have g3:=g2.same (jA hw (.lst [V.str "any",V.str "one"]))
            have ew:upd H3 lw (.lst [V.str "any",V.str "one"]) lw = some (.lst [V.str "any",V.str "one"]):=jm
            generalize upd H3 lw (.lst [V.str "any",V.str "one"]) = H4 at g3 ew ⊢
            obtain ⟨w2,ew2,hw2⟩:=qO (num % 5) 2 (by decide)
            obtain ⟨any,ea⟩:∃ any,atI [V.str "any",V.str "one"] (w2:Int) = some (.str (qe any)):=by
              rcases (by omega:w2 = 0 ∨ w2 = 1) with e | e <;> subst e
              · exact ⟨true,rfl⟩
              · exact ⟨false,rfl⟩
            refine ⟨_,rfl,_,_,nv w2,rfl,rfl,(by show (0:Int) < 2; decide),congrArg V.int ew2,lw,_,_,_,rfl,rfl,SqL.of ew,ea,_,rfl,(by show 2 <= sizeLine; decide),fun pg hpg=>?_⟩
            have g4:=g3.same (jA hpg (.tup [.str (qe any),.ref lr]))
            have epg:upd H4 pg (.tup [.str (qe any),.ref lr]) pg = some (.tup [.str (qe any),.ref lr]):=jm
            generalize upd H4 pg (.tup [.str (qe any),.ref lr]) = H5 at g4 epg ⊢
            refine ⟨lf,_,_,rfl,rfl,g4.ef,by rw [List.length_map]; exact Je (by omega),?_⟩
            have eq:qs.map V.ref ++ [V.ref pg] = (qs ++ [pg]).map V.ref:=by rw [List.map_append]; rfl
            rw [eq]
            refine ⟨(by show 0 <= sizeLine; decide),fun lr2 h2=>?_⟩
            refine ⟨lr2,_,[],_,[],_,_,_,g4.push (t:=.node any (vs ++ [ts[i]])) hf (fun {zs' lr3} z=>?_) (by show 1 + jW (vs ++ [ts[i]]) <= _; omega) (by show 1 + jN (vs ++ [ts[i]]) <= _; omega) (by rw [lv]; omega) rfl h2,rfl⟩
            have m1:lr3 ≠ lf:=fun y=>by rw [y,jm] at z; cases z
            have m2:H5 lr3 = none:=by rw [jM m1] at z; exact z
            exact ⟨lr,_,by rw [jM (jU epg m2),jM (fun y=>by rw [y,g4.ef] at epg; cases epg)]; exact epg,⟨Ne.symm g4.ne,jU g4.er m2⟩,by rw [jM (jU g4.er m2),jM (Ne.symm g4.ne)]; exact g4.er,g4.fv.imp fun _ _ _ y=>y.step g4.ef z⟩
          · exact ⟨lr,qs,_,us,_,_,_,_,g2,rfl⟩
    · refine ⟨_,rfl,_,_,rfl,rfl,_,rfl,?_⟩
      refine ite2 (fun _=>iteT ?_) (fun _=>?_)
      · have dn:jW (vs ++ [ts[i]]) <= jW ts:=g2.dv
        refine ⟨_,rfl,.inl ⟨rfl,_,SqL.of g2.ef⟩,(by show 2 <= sizeLine; decide),fun lw hw=>?_⟩
        have g3:=g2.same (jA hw (.lst [V.str "any",V.str "one"]))
        have ew:upd H3 lw (.lst [V.str "any",V.str "one"]) lw = some (.lst [V.str "any",V.str "one"]):=jm
        generalize upd H3 lw (.lst [V.str "any",V.str "one"]) = H4 at g3 ew ⊢
        obtain ⟨w2,ew2,hw2⟩:=qO (num % 5) 2 (by decide)
        obtain ⟨any,ea⟩:∃ any,atI [V.str "any",V.str "one"] (w2:Int) = some (.str (qe any)):=by
          rcases (by omega:w2 = 0 ∨ w2 = 1) with e | e <;> subst e
          · exact ⟨true,rfl⟩
          · exact ⟨false,rfl⟩
        refine ⟨_,rfl,_,_,nv w2,rfl,rfl,(by show (0:Int) < 2; decide),congrArg V.int ew2,lw,_,_,_,rfl,rfl,SqL.of ew,ea,_,rfl,(by show 2 <= sizeLine; decide),fun pg hpg=>?_⟩
        have g4:=g3.same (jA hpg (.tup [.str (qe any),.ref lr]))
        have epg:upd H4 pg (.tup [.str (qe any),.ref lr]) pg = some (.tup [.str (qe any),.ref lr]):=jm
        generalize upd H4 pg (.tup [.str (qe any),.ref lr]) = H5 at g4 epg ⊢
        refine ⟨lf,_,_,rfl,rfl,g4.ef,by rw [List.length_map]; exact Je (by omega),?_⟩
        have eq:qs.map V.ref ++ [V.ref pg] = (qs ++ [pg]).map V.ref:=by rw [List.map_append]; rfl
        rw [eq]
        refine ⟨(by show 0 <= sizeLine; decide),fun lr2 h2=>?_⟩
        refine ⟨lr2,_,[],_,[],_,_,_,g4.push (t:=.node any (vs ++ [ts[i]])) hf (fun {zs' lr3} z=>?_) (by show 1 + jW (vs ++ [ts[i]]) <= _; omega) (by show 1 + jN (vs ++ [ts[i]]) <= _; omega) (by rw [lv]; omega) rfl h2,rfl⟩
        have m1:lr3 ≠ lf:=fun y=>by rw [y,jm] at z; cases z
        have m2:H5 lr3 = none:=by rw [jM m1] at z; exact z
        exact ⟨lr,_,by rw [jM (jU epg m2),jM (fun y=>by rw [y,g4.ef] at epg; cases epg)]; exact epg,⟨Ne.symm g4.ne,jU g4.er m2⟩,by rw [jM (jU g4.er m2),jM (Ne.symm g4.ne)]; exact g4.er,g4.fv.imp fun _ _ _ y=>y.step g4.ef z⟩
      · refine ⟨_,rfl,_,rfl,l,_,rfl,.inl (SqL.of (g2.s _ _ hl)),_,_,rfl,rfl,rfl,_,rfl,?_⟩
        refine ite2 (fun _=>?_) (fun _=>?_)
        · have dn:jW (vs ++ [ts[i]]) <= jW ts:=g2.dv
          refine ⟨_,rfl,.inl ⟨rfl,_,SqL.of g2.ef⟩,(by show 2 <= sizeLine; decide),fun lw hw=>?_⟩
          have g3:=g2.same (jA hw (.lst [V.str "any",V.str "one"]))
          have ew:upd H3 lw (.lst [V.str "any",V.str "one"]) lw = some (.lst [V.str "any",V.str "one"]):=jm
          generalize upd H3 lw (.lst [V.str "any",V.str "one"]) = H4 at g3 ew ⊢
          obtain ⟨w2,ew2,hw2⟩:=qO (num % 5) 2 (by decide)
          obtain ⟨any,ea⟩:∃ any,atI [V.str "any",V.str "one"] (w2:Int) = some (.str (qe any)):=by
            rcases (by omega:w2 = 0 ∨ w2 = 1) with e | e <;> subst e
            · exact ⟨true,rfl⟩
            · exact ⟨false,rfl⟩
          refine ⟨_,rfl,_,_,nv w2,rfl,rfl,(by show (0:Int) < 2; decide),congrArg V.int ew2,lw,_,_,_,rfl,rfl,SqL.of ew,ea,_,rfl,(by show 2 <= sizeLine; decide),fun pg hpg=>?_⟩
          have g4:=g3.same (jA hpg (.tup [.str (qe any),.ref lr]))
          have epg:upd H4 pg (.tup [.str (qe any),.ref lr]) pg = some (.tup [.str (qe any),.ref lr]):=jm
          generalize upd H4 pg (.tup [.str (qe any),.ref lr]) = H5 at g4 epg ⊢
          refine ⟨lf,_,_,rfl,rfl,g4.ef,by rw [List.length_map]; exact Je (by omega),?_⟩
          have eq:qs.map V.ref ++ [V.ref pg] = (qs ++ [pg]).map V.ref:=by rw [List.map_append]; rfl
          rw [eq]
          refine ⟨(by show 0 <= sizeLine; decide),fun lr2 h2=>?_⟩
          refine ⟨lr2,_,[],_,[],_,_,_,g4.push (t:=.node any (vs ++ [ts[i]])) hf (fun {zs' lr3} z=>?_) (by show 1 + jW (vs ++ [ts[i]]) <= _; omega) (by show 1 + jN (vs ++ [ts[i]]) <= _; omega) (by rw [lv]; omega) rfl h2,rfl⟩
          have m1:lr3 ≠ lf:=fun y=>by rw [y,jm] at z; cases z
          have m2:H5 lr3 = none:=by rw [jM m1] at z; exact z
          exact ⟨lr,_,by rw [jM (jU epg m2),jM (fun y=>by rw [y,g4.ef] at epg; cases epg)]; exact epg,⟨Ne.symm g4.ne,jU g4.er m2⟩,by rw [jM (jU g4.er m2),jM (Ne.symm g4.ne)]; exact g4.er,g4.fv.imp fun _ _ _ y=>y.step g4.ef z⟩
        · exact ⟨lr,qs,_,us,_,_,_,_,g2,rfl⟩
  · rintro σ H1 ⟨lr,qs,rs,us,vs,num,y1,y2,g,rfl⟩
    have gt:=g.tal
    have gl:=g.len
    rw [List.take_length] at gt
    exact ⟨_,rfl,q lf H1 qs us g.s g.ef (g.fu.imp fun _ _ _ z=>z.imp fun _ _ _ _=>trivial) g.du (by omega) (by omega) ⟨Jg vs,by have e:=g.spk; rw [List.take_length] at e; exact e⟩⟩
end
end My
set_option Elab.async false
set_option linter.all false
set_option maxRecDepth 100000
set_option maxHeartbeats 4000000
namespace My
open PySem PySem.Spec PyProof.Rows L2 GM
noncomputable def JH (l:List Nat):Bool:=(decide (1 <= l.length) && decide (l.length <= 8)) && l.all fun c=>decide (97 <= c) && decide (c <= 122)
noncomputable def asc (l:List Nat):Bool:=l.all (· < 128)
theorem jg4 {l:List Nat} (h:JH l = true):asc l = true:=by
  unfold JH at h
  rw [Bool.and_eq_true] at h
  unfold asc
  rw [List.all_eq_true] at *
  intro c hc
  have z:=h.2 c hc
  simp only [Bool.and_eq_true,decide_eq_true_eq] at z ⊢
  omega
theorem jdw {l:List Nat} (h:JH l = true):1 <= l.length /\ l.length <= 8:=by
  unfold JH at h
  simp only [Bool.and_eq_true,decide_eq_true_eq] at h
  exact h.1
theorem jg5 (a b:Nat):decide ([a] < [b]) = decide (a < b):=by
  by_cases h:a < b
  · rw [decide_eq_true h,decide_eq_true]; exact List.Lex.rel h
  · rw [decide_eq_false h,decide_eq_false]
    intro z
    cases z with
    | rel z=>exact h z
    | cons z=>cases z
theorem snoc_ind {α:Type} {P:List α->Prop} (h0:P []) (h1:∀ l a,P l->P (l ++ [a])) (l:List α):P l:=by
  have z:∀ m:List α,P m.reverse:=fun m=>by
    induction m with
    | nil=>exact h0
    | cons a m ih=>rw [List.reverse_cons]; exact h1 _ _ ih
  have:=z l.reverse
  rwa [List.reverse_reverse] at this
noncomputable abbrev sv (l:List Nat):V:=.str (tx l)
noncomputable def skey (l:List Nat):Key:=Sum.inr (tx l)
theorem jfJ {l m:List Nat} (h:skey l = skey m):l = m:=jhq (Sum.inr.inj h)
noncomputable def numsOf (ns:List (List Nat)):List (Key × V):=ns.zipIdx.map fun q=>(skey q.1,.int (q.2:Nat))
theorem numsOf_len (ns:List (List Nat)):(numsOf ns).length = ns.length:=by simp [numsOf]
theorem jbj (ns:List (List Nat)) (n:List Nat):numsOf (ns ++ [n]) = numsOf ns ++ [(skey n,.int (ns.length:Nat))]:=by simp [numsOf,List.zipIdx_append]
theorem jal {kvs:List (Key × V)} {k j:Key} {v:V} (h:valV kvs k = none):valV (kvs ++ [(k,v)]) j = if j = k then some v else valV kvs j:=by rw [<- jh0 v h,jib]
theorem jgu:∀ (ns:List (List Nat)) (n:List Nat),ns.Nodup->n ∉ ns->valV (numsOf ns) (skey n) = none:=by
  refine snoc_ind (fun n _ _=>rfl) fun ns m ih n hd hn=>?_
  · skip
    rw [List.nodup_append] at hd
    have hm:m ∉ ns:=fun z=>hd.2.2 m z m (by simp) rfl
    rw [jbj,jal (ih m hd.1 hm)]
    have:n ≠ m:=fun z=>hn (by simp [z])
    rw [if_neg fun z=>this (jfJ z)]
    exact ih n hd.1 fun z=>hn (by simp [z])
theorem nums_at:∀ (ns:List (List Nat)) (n:List Nat) (i:Nat),ns.Nodup->ns[i]? = some n->valV (numsOf ns) (skey n) = some (.int (i:Nat)):=by
  refine snoc_ind (fun n i _ h=>by simp at h) fun ns m ih n i hd hn=>?_
  · skip
    rw [List.nodup_append] at hd
    have hm:m ∉ ns:=fun z=>hd.2.2 m z m (by simp) rfl
    rw [jbj,jal (jgu ns m hd.1 hm)]
    by_cases hi:i < ns.length
    · rw [List.getElem?_append_left hi] at hn
      have:n ≠ m:=fun z=>hm (z ▸ List.mem_of_getElem? hn)
      rw [if_neg fun z=>this (jfJ z)]
      exact ih n i hd.1 hn
    · have hi2:i = ns.length:=by
        have:=(List.getElem?_eq_some_iff.mp hn).1
        simp at this; omega
      subst hi2
      simp at hn
      subst hn
      rw [if_pos rfl]
noncomputable def Z5 (ks:List (List Nat)) (k:List Nat):Nat->Nat
  | 0=>0
  | i + 1=>if ks[i]? = some k then Z5 ks k i ||| 2 ^ i else Z5 ks k i
noncomputable def jbb (kk:List (Key × V)) (ks:List (List Nat)) (i:Nat):Prop:=kk.length <= i /\ ∀ k,valV kk (skey k) = if k ∈ ks.take i then some (nv (Z5 ks k i)) else none
theorem kinds0 (ks:List (List Nat)):jbb [] ks 0:=⟨Nat.le_refl _,fun k=>by simp [valV]⟩
theorem jhL {ks:List (List Nat)} {k:List Nat}:∀ {i:Nat},k ∉ ks.take i->Z5 ks k i = 0
  | 0,_=>rfl
  | i + 1,h=>by
    rw [List.take_add_one] at h
    have h1:k ∉ ks.take i:=fun z=>h (by simp [z])
    have h2:¬ ks[i]? = some k:=fun z=>h (by simp [z])
    unfold Z5
    rw [if_neg h2]
    exact jhL h1
theorem jjH {kk:List (Key × V)} {ks:List (List Nat)} {k:List Nat} {i:Nat} (h:jbb kk ks i) (hk:ks[i]? = some k):jbb (putK kk (skey k) (nv (Z5 ks k i ||| 2 ^ i))) ks (i + 1):=by
  refine ⟨Nat.le_trans (jbh _ _ _) (by have:=h.1; omega),fun j=>?_⟩
  rw [jib,List.take_add_one,hk]
  by_cases e:j = k
  · subst e
    rw [if_pos rfl,if_pos (by simp)]
    show _ = some (nv (if ks[i]? = some j then Z5 ks j i ||| 2 ^ i else Z5 ks j i))
    rw [if_pos hk]
  · rw [if_neg fun z=>e (jfJ z),h.2 j]
    have e2:(j ∈ ks.take i ++ [k]) ↔ j ∈ ks.take i:=by simp [e]
    have e3:Z5 ks j (i + 1) = Z5 ks j i:=by
      show (if ks[i]? = some j then _ else _) = _
      rw [if_neg]
      rw [hk]; exact fun z=>e (Option.some.inj z).symm
    simp only [Option.toList_some,e2,e3]
noncomputable def zN (K:PySem.W.Frag):Sp:=fun vs H Q _=>∃ x,vs = [x] /\ ((∃ l,x = sv l /\ asc l = true /\ l.length <= 1000 /\ ∀ H',Same H H'->Q (.bl (JH l)) H') ∨ (∃ n,jeD K H x n /\ n ≠ .str /\ Q (.bl false) H))
noncomputable def RowsAre (_K:PySem.W.Frag) (H:Hp) (r:Addr) (ns ks:List (List Nat)):Prop:=∃ ps:List Addr,H r = some (.lst (ps.map V.ref)) /\ ps.length = ns.length /\ ks.length = ns.length /\ ∀ (i:Nat) (p:Addr),ps[i]? = some p->∃ n k,ns[i]? = some n /\ ks[i]? = some k /\ H p = some (.tup [sv n,sv k])
noncomputable def Good (ns ks:List (List Nat)):Prop:=ns.length <= 6 /\ (∀ n ∈ ns,JH n = true) /\ ns.Nodup /\ (∀ k ∈ ks,JH k = true)
noncomputable def jat (d1 d2:Addr):List (Str × V):=putF "kinds" (.ref d2) (putF "numbers" (.ref d1) [])
noncomputable def JC (c:Addr) (H:Hp) (a:Addr) (ns ks:List (List Nat)):Prop:=∃ dx d1 d2 kk,H a = some (.ins c dx (jat d1 d2)) /\ H d1 = some (.dK (numsOf ns)) /\ H d2 = some (.dK kk) /\ jbb kk ks ks.length /\ ks.length = ns.length /\ Good ns ks
theorem JC.same {c:Addr} {H H':Hp} {a:Addr} {ns ks:List (List Nat)} (S:Same H H') (h:JC c H a ns ks):JC c H' a ns ks:=by
  obtain ⟨dx,d1,d2,kk,h1,h2,h3,r⟩:=h
  exact ⟨dx,d1,d2,kk,S _ _ h1,S _ _ h2,S _ _ h3,r⟩
noncomputable def But (a:Addr) (H H':Hp):Prop:=∀ b o,b ≠ a->H b = some o->H' b = some o
noncomputable def yh (K:PySem.W.Frag) (c:Addr):Sp:=fun vs H Q _=>∃ (a dx r:Addr) (ns ks:List (List Nat)),vs = [.ref a,.ref r] /\ H a = some (.ins c dx []) /\ RowsAre K H r ns ks /\ Good ns ks /\ ∀ H',But a H H'->JC c H' a ns ks->Q .non H'
noncomputable def YW (_K:PySem.W.Frag) (c:Addr):Sp:=fun vs H Q _=>∃ a ns ks,vs = [.ref a] /\ JC c H a ns ks /\ ∀ l,H l = none->Q (.ref l) (upd H l (.lst (ns.map sv)))
noncomputable def QQ (_K:PySem.W.Frag) (c:Addr):Sp:=fun vs H Q _=>∃ a ns ks n i,vs = [.ref a,sv n] /\ JC c H a ns ks /\ ns[i]? = some n /\ ∀ H',Same H H'->Q (.int (i:Nat)) H'
noncomputable def yL (_K:PySem.W.Frag) (c:Addr):Sp:=fun vs H Q _=>∃ a ns ks k,vs = [.ref a,sv k] /\ JC c H a ns ks /\ k ∈ ks /\ ∀ H',Same H H'->Q (nv (Z5 ks k ks.length)) H'
section
variable {P:Program} {w:World} {K:PySem.W.Frag} {mg:Str->Option Value} {base:Heap}
theorem jiv {l:List Nat} (h:l.length <= 1000):(tx l).length <= sizeLine:=by rw [Ju,sizeLine_eq]; omega
theorem jg2 {f:Addr} {fd:FuncData} (F:Fun K "is_name" "is_name" Zz f fd) (jF:mg "is_name" = some (.ref f)) (jcO:mg "all" = none) (jY:mg "isinstance" = none) (YB:mg "str" = none) (Jl:mg "len" = none):jE P w K mg base 1 "is_name" ["thing"] [] (zN K):=by
  refine F.jT jF (bnd1 F fun _ _ _ _ _ _ _=>rfl) jhf (fun vs H Q E h=>?_) (fun cdv A outer s H vs Q E hr h=>?_)
  · obtain ⟨x,rfl,_⟩:=h; rfl
  obtain ⟨x,rfl,h⟩:=h
  refine ⟨_,(R.jk (R.j8 (R.pt (R.Zi (R.JZ (R.Jt (R.Zf .str rfl jY rfl YB (R.pv 0)))) (R.Yi (R.JZ (R.jcZ jgw jgw R.jg (R.JM Yb rfl Jl PySem.boot_len (R.pa_c (R.pv 0) R.jh)) R.jg))))) (R.jn (R.jG R.jaV)) R.jL)
    (R.jn (R.jG (R.JM (jdg rfl) rfl jcO (boot_all) (R.pa_c (R.Jj (jt Zz) ["thing"] ["sign"] [] [] rfl rfl rfl ⟨s.heap.objs.size + 1,rfl⟩ rfl rfl (by decide +kernel) (R.jhc (R.pv 0)) (fun C s2 H2 fp=>(R.jP (i:=0) (show List.Nodup (["sign"]:List Str) from by decide +kernel) rfl (Or.inl rfl))) (fun C s2 H2 fp=>R.JK) (fun C s2 H2 fp=>(R.jbq jbQ jbQ R.jJ (R.pv 0) R.jJ))) R.jh))))),?_⟩
  rcases h with ⟨l,rfl,hA,hz,q⟩ | ⟨n,hk,hn,q⟩
  · have e0:((tx l).length:Int) = (l.length:Int):=by rw [Ju]
    refine ⟨_,rfl,sv l,.str,rfl,.str _,_,rfl,iteF ⟨_,rfl,tx l,rfl,jiv hz,1,_,rfl,rfl,_,rfl,ite2 (fun c=>?_) (fun c=>?_)⟩⟩
    · have c1:(1:Int) <= ((tx l).length:Int):=of_decide_eq_true c
      refine ⟨_,_,rfl,rfl,_,rfl,ite2 (fun c2=>?_) (fun c2=>?_)⟩
      · have c3:¬ ((tx l).length:Int) <= 8:=by simpa using c2
        have z:=q H (Same.refl _)
        have e:JH l = false:=by unfold JH; rw [decide_eq_false (show ¬ l.length <= 8 by omega),Bool.and_false,Bool.false_and]
        rw [e] at z; exact z
      · have c3:((tx l).length:Int) <= 8:=by simpa using c2
        refine ⟨_,rfl,l,rfl,hA,fun p hp=>?_⟩
        refine jcL l (fun _=>true) (fun c=>.bl (decide (97 <= c) && decide (c <= 122))) (by omega) hp (fun x hx H2 s2 C k=>k H2 (Same.refl _)) (fun x hx _ H2 s2 C k=>?_) (fun H2 s2 e2=>?_)
        · have ea:(Str.ofString "a").cps.toList = [97]:=by decide
          have ez:(Str.ofString "z").cps.toList = [122]:=by decide
          refine ⟨_,rfl,_,_,rfl,rfl,_,rfl,?_⟩
          rw [qZ,ea,jg5]
          by_cases h1:x < 97
          · rw [decide_eq_true h1]
            refine iteF ?_
            have z:=k H2 (Same.refl _)
            rw [decide_eq_false (show ¬ 97 <= x by omega),Bool.false_and] at z
            exact z
          · rw [decide_eq_false h1]
            refine iteT ⟨_,_,rfl,rfl,?_⟩
            have z:=k H2 (Same.refl _)
            rw [decide_eq_true (show 97 <= x by omega),Bool.true_and] at z
            rw [qZ,ez,jg5]
            have e3:(!decide (122 < x)) = decide (x <= 122):=by
              by_cases h2:x <= 122
              · rw [decide_eq_true h2,decide_eq_false (by omega)]; rfl
              · rw [decide_eq_false h2,decide_eq_true (by omega)]; rfl
            rw [e3]
            exact z
        · have e3:H2 p = some (.lst ((l.map fun c=>decide (97 <= c) && decide (c <= 122)).map V.bl)):=by
            rw [e2,List.filter_eq_self.mpr (fun _ _=>rfl),List.map_map]; rfl
          refine ⟨p,_,rfl,SqL.of e3,?_⟩
          have z:=q H2 s2
          unfold JH at z
          rw [decide_eq_true (show 1 <= l.length by omega),decide_eq_true (show l.length <= 8 by omega),Bool.true_and,Bool.true_and] at z
          rw [List.all_map]
          exact z
    · have c1:¬ (1:Int) <= ((tx l).length:Int):=by simpa using c
      refine ⟨_,rfl,iteT ?_⟩
      have z:=q H (Same.refl _)
      have e:JH l = false:=by unfold JH; rw [decide_eq_false (show ¬ 1 <= l.length by omega),Bool.false_and,Bool.false_and]
      rw [e] at z; exact z
  · have e:isN n .str = false:=by cases n <;> first | rfl | exact absurd rfl hn
    refine ⟨_,rfl,x,n,rfl,hk,_,rfl,?_⟩
    rw [e]
    exact iteT q
theorem Zb (d1 d2:Addr):(jat d1 d2).lookup ("numbers" : Str) = some (V.ref d1):=by
  unfold jat
  rw [zj,if_neg (by decide),zj,if_pos rfl]
theorem jcM (d1 d2:Addr):(jat d1 d2).lookup ("kinds" : Str) = some (V.ref d2):=by
  unfold jat
  rw [zj,if_pos rfl]
theorem jdt {f:Addr} {fd:FuncData} (F:Fun K "names" "Stock.names" zx f fd) (ye:mg "list" = none)
    (jK:Own K mg "Bid" jr [])
    (jC:Own K mg "Only" jj ["bundle", "amount"])
    (jq:Own K mg "SoMany" jc ["kind", "least", "amount"])
    (jB:Own K mg "UpTo" ji ["kind", "most", "each"])
    (ju:Own K mg "Several" jb ["bids"])
    (jy:Own K mg "AnyOf" jd ["bids"])
    (jz:Own K mg "OneOf" je ["bids"])
    (jx:Own K mg "Stock" jf ["numbers", "kinds"]):FnOk P w K mg base CX0 1 f fd ["self"] (YW K jf):=by
  refine F.okQ jdH (fun vs H Q E h=>?_) (fun cdv A outer s H vs Q E hr h=>?_)
  · obtain ⟨a,ns,ks,rfl,_⟩:=h; rfl
  obtain ⟨a,ns,ks,rfl,⟨dx,d1,d2,kk,h1,h2,h3,hk,hl,hg⟩,q⟩:=h
  refine ⟨_,(R.jn (R.jG (R.YD (jgR rfl) rfl ye (boot_list) (R.pa_c (R.Jo K (R.pv 0)) R.jh)))),?_⟩
  refine ⟨_,rfl,a,jf,dx,_,.ref d1,rfl,h1,jx.cls,jx.no _ (by simp),Zb d1 d2,⟨d1,_,rfl,h2,fun l hl=>?_⟩⟩
  have e:((numsOf ns).map fun q=>kV q.1) = ns.map sv:=by
    unfold numsOf
    rw [List.map_map]
    have e2:((fun q:Key × V=>kV q.1) ∘ fun q:List Nat × Nat=>(skey q.1,V.int (q.2:Nat))) = sv ∘ Prod.fst:=rfl
    rw [e2,<- List.map_map,List.zipIdx_map_fst]
  rw [e]; exact q l hl
theorem jbp {f:Addr} {fd:FuncData} (F:Fun K "number_of" "Stock.number_of" yg f fd)
    (J7:jE P w K mg base 1 "is_name" ["thing"] [] (zN K))
    (jK:Own K mg "Bid" jr [])
    (jC:Own K mg "Only" jj ["bundle", "amount"])
    (jq:Own K mg "SoMany" jc ["kind", "least", "amount"])
    (jB:Own K mg "UpTo" ji ["kind", "most", "each"])
    (ju:Own K mg "Several" jb ["bids"])
    (jy:Own K mg "AnyOf" jd ["bids"])
    (jz:Own K mg "OneOf" je ["bids"])
    (jx:Own K mg "Stock" jf ["numbers", "kinds"]):FnOk P w K mg base CX0 2 f fd ["self", "name"] (QQ K jf):=by
  refine F.okQ jbA (fun vs H Q E h=>?_) (fun cdv A outer s H vs Q E hr h=>?_)
  · obtain ⟨a,ns,ks,n,i,rfl,_⟩:=h; rfl
  obtain ⟨a,ns,ks,n,i,rfl,⟨dx,d1,d2,kk,h1,h2,h3,hk,hl,hg⟩,hi,q⟩:=h
  have hn:JH n = true:=hg.2.1 n (List.mem_of_getElem? hi)
  have hv:=nums_at ns n i hg.2.2.1 hi
  refine ⟨_,(R.jk (R.j8 (R.pt (R.Zi (R.JZ (R.Jt (R.jw J7 hr (by first | decide | omega) rfl (R.pa_c (R.pv 1) R.jh)))) (R.Yi (R.jR (jgv hr.units) (R.pv 1) (R.Jo K (R.pv 0)) (by with_unfolding_all rfl))))) (R.jn R.JB) R.jL)
    (R.jn (R.jG (R.jer hr.units (R.Jo K (R.pv 0)) (R.pv 1))))),?_⟩
  refine ⟨_,rfl,_,rfl,.inl ⟨n,rfl,jg4 hn,by have:=(jdw hn).2; omega,fun H1 s1=>?_⟩⟩
  rw [hn]
  refine ⟨_,rfl,iteF ?_⟩
  refine ⟨_,rfl,_,rfl,a,jf,dx,_,.ref d1,rfl,s1 _ _ h1,jx.cls,jx.no _ (by simp),Zb d1 d2,⟨d1,_,rfl,DGet.k (k:=skey n) (s1 _ _ h2),?_⟩⟩
  rw [hv]
  refine ⟨_,rfl,iteF ?_⟩
  exact ⟨_,rfl,a,jf,dx,_,.ref d1,rfl,s1 _ _ h1,jx.cls,jx.no _ (by simp),Zb d1 d2,_,rfl,d1,_,rfl,hv ▸ DGet.k (k:=skey n) (s1 _ _ h2),q H1 s1⟩
theorem jcp {f:Addr} {fd:FuncData} (F:Fun K "kind_of" "Stock.kind_of" Yn f fd)
    (J7:jE P w K mg base 1 "is_name" ["thing"] [] (zN K))
    (jK:Own K mg "Bid" jr [])
    (jC:Own K mg "Only" jj ["bundle", "amount"])
    (jq:Own K mg "SoMany" jc ["kind", "least", "amount"])
    (jB:Own K mg "UpTo" ji ["kind", "most", "each"])
    (ju:Own K mg "Several" jb ["bids"])
    (jy:Own K mg "AnyOf" jd ["bids"])
    (jz:Own K mg "OneOf" je ["bids"])
    (jx:Own K mg "Stock" jf ["numbers", "kinds"]):FnOk P w K mg base CX0 2 f fd ["self", "kind"] (yL K jf):=by
  refine F.okQ jcC (fun vs H Q E h=>?_) (fun cdv A outer s H vs Q E hr h=>?_)
  · obtain ⟨a,ns,ks,n,rfl,_⟩:=h; rfl
  obtain ⟨a,ns,ks,n,rfl,⟨dx,d1,d2,kk,h1,h2,h3,hk,hl,hg⟩,hi,q⟩:=h
  have hn:JH n = true:=hg.2.2.2 n hi
  have hv:=hk.2 n
  rw [if_pos (by rw [List.take_length]; exact hi)] at hv
  refine ⟨_,(R.jk (R.j8 (R.pt (R.Zi (R.JZ (R.Jt (R.jw J7 hr (by first | decide | omega) rfl (R.pa_c (R.pv 1) R.jh)))) (R.Yi (R.jR (jgv hr.units) (R.pv 1) (R.Jo K (R.pv 0)) (by with_unfolding_all rfl))))) (R.jn R.JB) R.jL)
    (R.jn (R.jG (R.jer hr.units (R.Jo K (R.pv 0)) (R.pv 1))))),?_⟩
  refine ⟨_,rfl,_,rfl,.inl ⟨n,rfl,jg4 hn,by have:=(jdw hn).2; omega,fun H1 s1=>?_⟩⟩
  rw [hn]
  refine ⟨_,rfl,iteF ?_⟩
  refine ⟨_,rfl,_,rfl,a,jf,dx,_,.ref d2,rfl,s1 _ _ h1,jx.cls,jx.no _ (by simp),jcM d1 d2,⟨d2,_,rfl,DGet.k (k:=skey n) (s1 _ _ h3),?_⟩⟩
  rw [hv]
  refine ⟨_,rfl,iteF ?_⟩
  exact ⟨_,rfl,a,jf,dx,_,.ref d2,rfl,s1 _ _ h1,jx.cls,jx.no _ (by simp),jcM d1 d2,_,rfl,d2,_,rfl,hv ▸ DGet.k (k:=skey n) (s1 _ _ h3),q H1 s1⟩
theorem But.same {a:Addr} {H H' H2:Hp} (h:But a H H') (S:Same H' H2):But a H H2:=fun b o n e=>S _ _ (h b o n e)
theorem But.put {a b:Addr} {o:HO} {H H':Hp} (h:But a H H') (n:H b = none):But a H (upd H' b o):=fun c u e1 e2=>by
  rw [jM (jU e2 n)]; exact h c u e1 e2
theorem But.self {a:Addr} {o:HO} {H H':Hp} (h:But a H H'):But a H (upd H' a o):=fun c u e1 e2=>by rw [jM e1]; exact h c u e1 e2
theorem jfK {n:Nat} (h:n <= 6):n < sizeLine:=by rw [sizeLine_eq]; omega
noncomputable def RowP (H:Hp) (c a r dx d1 d2:Addr) (ns ks:List (List Nat)) (i:Nat) (σ:L2.St) (Hc:Hp):Prop :=
  (∃ x y z u,σ = [some (.ref a),some (.ref r),x,y,z,u]) /\ But a H Hc /\ Hc a = some (.ins c dx (jat d1 d2)) /\ Hc d1 = some (.dK (numsOf (ns.take i))) /\ ∃ kk,Hc d2 = some (.dK kk) /\ jbb kk ks i
theorem RowP.same {H:Hp} {c a r dx d1 d2:Addr} {ns ks:List (List Nat)} {i:Nat} {σ:L2.St} {Hc Hd:Hp} (S:Same Hc Hd) (h:RowP H c a r dx d1 d2 ns ks i σ Hc):RowP H c a r dx d1 d2 ns ks i σ Hd:=by
  obtain ⟨h0,h1,h2,h3,kk,h4,h5⟩:=h
  exact ⟨h0,h1.same S,S _ _ h2,S _ _ h3,kk,S _ _ h4,h5⟩
theorem jb2 {f:Addr} {fd:FuncData} (F:Fun K "__init__" "Stock.__init__" yJ f fd) (yQ:mg "enumerate" = none) (Jl:mg "len" = none)
    (J7:jE P w K mg base 1 "is_name" ["thing"] [] (zN K))
    (jK:Own K mg "Bid" jr [])
    (jC:Own K mg "Only" jj ["bundle", "amount"])
    (jq:Own K mg "SoMany" jc ["kind", "least", "amount"])
    (jB:Own K mg "UpTo" ji ["kind", "most", "each"])
    (ju:Own K mg "Several" jb ["bids"])
    (jy:Own K mg "AnyOf" jd ["bids"])
    (jz:Own K mg "OneOf" je ["bids"])
    (jx:Own K mg "Stock" jf ["numbers", "kinds"]):FnOk P w K mg base CX0 4 f fd ["self", "rows"] (yh K jf):=by
  refine F.okQ J2 (fun vs H Q E h=>?_) (fun cdv A outer s H vs Q E hr h=>?_)
  · obtain ⟨a,dx,r,ns,ks,rfl,_⟩:=h; rfl
  obtain ⟨a,dx,r,ns,ks,rfl,ha,RW,G,q⟩:=h
  refine ⟨_,(R.jk (R.j8 (R.jR jdW (R.JM Jf rfl Jl PySem.boot_len (R.pa_c (R.pv 1) R.jh)) R.jg (jZ _)) (R.jn R.JB) R.jL)
    (R.jk (R.YG (R.pv 0) R.jcV)
    (R.jk (R.YG (R.pv 0) R.jcV)
    (R.jn (R.J4 PassesOwn.never rfl (R.jhb rfl yQ (R.pa_c (R.pv 1) R.jh)) (R.Zh K 2 rfl (R.JL (R.jP (i:=2) J2.nd rfl (Or.inl rfl)) (R.JL (R.jP (i:=3) J2.nd rfl (Or.inl rfl)) R.Yg))) (R.jk (R.jO (i:=4) J2.nd rfl (Or.inl rfl) (R.jX (R.ixT K) (R.pv 3) R.jg (fun _ _=>rfl)))
      (R.jk (R.jO (i:=5) J2.nd rfl (Or.inl rfl) (R.jX (R.ixT K) (R.pv 3) R.jg (fun _ _=>rfl)))
      (R.jk (R.j8 (R.pt (R.Zi (R.JZ (R.Jt (R.jw J7 hr (by first | decide | omega) rfl (R.pa_c (R.pv 4) R.jh)))) (R.Yi (R.jR (op_din hr.units) (R.pv 4) (R.Jo K (R.pv 0)) (by with_unfolding_all rfl))))) (R.jn R.JB) R.jL)
      (R.jk (R.j8 (R.JZ (R.Jt (R.jw J7 hr (by first | decide | omega) rfl (R.pa_c (R.pv 5) R.jh)))) (R.jn R.JB) R.jL)
      (R.jk (R.jeu hr.units (R.Jo K (R.pv 0)) (R.pv 4) (R.pv 2))
      (R.jn (R.jeu hr.units (R.Jo K (R.pv 0)) (R.pv 5) (R.jD jdx (R.jff hr.units (R.Jo K (R.pv 0)) (R.pv 5) R.jg) (R.jD yx R.jg (R.pv 2))))))))))))))),?_⟩
  obtain ⟨ps,hS,hl1,hl2,hrow⟩:=id RW
  refine ⟨_,rfl,r,_,rfl,.inl (SqL.of hS),_,_,rfl,rfl,_,rfl,ite2 (fun c=>?_) (fun _=>?_)⟩
  · have c2:(6:Int) < (((ps.map V.ref).length:Nat):Int):=of_decide_eq_true c
    rw [List.length_map,hl1] at c2
    have:=G.1
    omega
  refine fun d1 hd1=>⟨_,rfl,a,jf,dx,[],rfl,jA hd1 _ _ _ ha,jx.cls,jx.no _ (by simp),by decide,fun d2 hd2=>⟨_,rfl,a,jf,dx,_,rfl,?_,jx.cls,jx.no _ (by simp),put1 "numbers" (.ref d1),?_⟩⟩
  · rw [jM (jU jm hd2)]; exact jm
  have n1:d1 ≠ a:=fun z=>by subst z; rw [ha] at hd1; cases hd1
  have n2:d2 ≠ a:=fun z=>by subst z; rw [jm] at hd2; cases hd2
  have n12:d2 ≠ d1:=fun z=>by subst z; rw [jM n1,jm] at hd2; cases hd2
  have e2:H d2 = none:=by rw [jM n2,jM n12] at hd2; exact hd2
  have base:RowP H jf a r dx d1 d2 ns ks 0 [some (.ref a),some (.ref r),none,none,none,none] (upd (upd (upd (upd H d1 (.dK [])) a (.ins jf dx (putF "numbers" (.ref d1) []))) d2 (.dK [])) a (.ins jf dx (putF "kinds" (.ref d2) (putF "numbers" (.ref d1) [])))):=by
    refine ⟨⟨_,_,_,_,rfl⟩,?_,jm,?_,[],?_,kinds0 ks⟩
    · refine But.self (But.put (But.self (But.put (fun b o _ e=>e) hd1)) e2)
    · rw [jM n1,jM (Ne.symm n12),jM n1,jm]; rfl
    · rw [jM n2,jm]
  have hr0:upd (upd (upd (upd H d1 (.dK [])) a (.ins jf dx (putF "numbers" (.ref d1) []))) d2 (.dK [])) a (.ins jf dx (putF "kinds" (.ref d2) (putF "numbers" (.ref d1) []))) r = some (.lst (ps.map V.ref)):=base.2.1 _ _ (fun z=>by subst z; rw [ha] at hS; cases hS) hS
  refine ⟨_,rfl,r,rfl,⟨_,SqL.of hr0⟩,for_enum (xs:=ps.map V.ref) (RowP H jf a r dx d1 d2 ns ks) base (fun i σ Hc _ h=>SqL.of (h.2.1 _ _ (fun z=>by subst z; rw [ha] at hS; cases hS) hS)) (fun i x p σ Hc hx hP hp=>?_) (fun σ Hc h=>?_)⟩
  · rw [List.getElem?_map] at hx
    obtain ⟨qd,hqd,rfl⟩:=Option.map_eq_some_iff.mp hx
    obtain ⟨n,k,hn,hk,hrw⟩:=hrow i qd hqd
    have hi:i < ns.length:=(List.getElem?_eq_some_iff.mp hn).1
    have hno:JH n = true:=G.2.1 n (List.mem_of_getElem? hn)
    have hko:JH k = true:=G.2.2.2 k (List.mem_of_getElem? hk)
    have hout:n ∉ ns.take i:=fun z=>by
      obtain ⟨j,hj,e⟩:=List.getElem_of_mem z
      have hj2:j < i:=by rw [List.length_take] at hj; omega
      rw [List.getElem_take] at e
      have:=(List.getElem?_eq_some_iff.mp hn).2
      exact absurd ((List.getElem_inj G.2.2.1).mp (e.trans this.symm)) (by omega)
    have hv:valV (numsOf (ns.take i)) (skey n) = none:=jgu _ n (G.2.2.1.sublist (List.take_sublist _ _)) hout
    have nq:qd ≠ a:=fun z=>by subst z; rw [ha] at hrw; cases hrw
    have hP':=hP.same (jA hp (.tup [.int (i:Nat),.ref qd]))
    obtain ⟨⟨x,y,z,u,rfl⟩,hB,h1,h2,kk,h3,h4⟩:=hP'
    have hpp:upd Hc p (.tup [.int (i:Nat),.ref qd]) p = some (.tup [.int (i:Nat),.ref qd]):=jm
    generalize upd Hc p (.tup [.int (i:Nat),.ref qd]) = Hd at hB h1 h2 h3 hpp ⊢
    have hq:Hd qd = some (.tup [sv n,sv k]):=hB _ _ nq hrw
    refine ⟨p,_,rfl,SqT.of hpp,rfl,_,_,rfl,_,_,rfl,rfl,?_⟩
    refine ⟨_,rfl,qd,[sv n,sv k],0,sv n,rfl,rfl,SqT.of hq,rfl,?_⟩
    refine ⟨_,rfl,qd,[sv n,sv k],1,sv k,rfl,rfl,SqT.of hq,rfl,?_⟩
    refine ⟨_,rfl,_,rfl,.inl ⟨n,rfl,jg4 hno,by have:=(jdw hno).2; omega,fun H1 s1=>?_⟩⟩
    rw [hno]
    refine ⟨_,rfl,iteF ⟨_,rfl,_,rfl,a,jf,dx,_,.ref d1,rfl,s1 _ _ h1,jx.cls,jx.no _ (by simp),Zb d1 d2,d1,_,rfl,DGet.k (k:=skey n) (s1 _ _ h2),?_⟩⟩
    rw [hv]
    refine ⟨_,rfl,iteF ?_⟩
    refine ⟨_,rfl,_,rfl,.inl ⟨k,rfl,jg4 hko,by have:=(jdw hko).2; omega,fun H2 s2=>?_⟩⟩
    rw [hko]
    refine ⟨_,rfl,iteF ?_⟩
    have s12:=s1.trans s2
    have g1:=s12 _ _ h1
    have g2:=s12 _ _ h2
    have g3:=s12 _ _ h3
    have gB:=hB.same s12
    refine ⟨_,rfl,_,rfl,a,jf,dx,_,.ref d1,rfl,g1,jx.cls,jx.no _ (by simp),Zb d1 d2,_,rfl,d1,_,rfl,DPut.k (k:=skey n) g2 (by rw [numsOf_len,List.length_take]; exact jfK (by have:=G.1; omega)),?_⟩
    rw [jh0 _ hv]
    have e1:numsOf (ns.take i) ++ [(skey n,V.int (i:Nat))] = numsOf (ns.take (i + 1)):=by
      rw [List.take_add_one,hn]
      show _ = numsOf (ns.take i ++ [n])
      rw [jbj,List.length_take,Nat.min_eq_left (Nat.le_of_lt hi)]
    rw [e1]
    have k1:upd H2 d1 (.dK (numsOf (ns.take (i + 1)))) a = some (.ins jf dx (jat d1 d2)):=by rw [jM (Ne.symm n1)]; exact g1
    have k3:upd H2 d1 (.dK (numsOf (ns.take (i + 1)))) d2 = some (.dK kk):=by rw [jM n12]; exact g3
    refine ⟨_,rfl,a,jf,dx,_,.ref d2,rfl,k1,jx.cls,jx.no _ (by simp),jcM d1 d2,d2,rfl,.inl ⟨_,.inl k3⟩,_,rfl,_,DGet.k (k:=skey k) k3,?_⟩
    have eo:((valV kk (skey k)).getD (.int 0)) = nv (Z5 ks k i):=by
      rw [h4.2 k]
      by_cases hm:k ∈ ks.take i
      · rw [if_pos hm]; rfl
      · rw [if_neg hm,jhL hm]; rfl
    rw [eo]
    refine ⟨_,rfl,i,rfl,rfl,by have:=G.1; omega,_,_,rfl,rfl,?_⟩
    refine ⟨_,rfl,a,jf,dx,_,.ref d2,rfl,k1,jx.cls,jx.no _ (by simp),jcM d1 d2,_,rfl,d2,_,rfl,DPut.k (k:=skey k) k3 (jfK (by have:=h4.1; have:=G.1; omega)),?_⟩
    refine ⟨⟨_,_,_,_,rfl⟩,(gB.put hd1).put e2,?_,?_,_,jm,jjH h4 hk⟩
    · rw [jM (Ne.symm n2)]; exact k1
    · rw [jM (Ne.symm n12),jm]
  · obtain ⟨_,hB,h1,h2,kk,h3,h4⟩:=h
    rw [List.length_map,hl1] at h2 h4
    refine q Hc hB ⟨dx,d1,d2,kk,h1,?_,h3,by rw [hl2]; exact h4,hl2,G⟩
    rw [List.take_length] at h2; exact h2
end
noncomputable def low (l:List Nat):Bool:=l.all fun c=>decide (97 <= c) && decide (c <= 122)
theorem jdq {l:List Nat} (h1:1 <= l.length) (h2:l.length <= 8) (h:low l = true):JH l = true:=by
  unfold JH
  rw [decide_eq_true h1,decide_eq_true h2]
  exact h
theorem jje {l m:List Nat} (h:low l = true) (h2:low m = true):low (l ++ m) = true:=by unfold low at *; rw [List.all_append,h,h2]; rfl
theorem jgY {l m:List Nat} (h:low l = true) (hs:∀ c ∈ m,c ∈ l):low m = true:=by
  unfold low at *
  rw [List.all_eq_true] at *
  exact fun c hc=>h c (hs c hc)
noncomputable def itc (c:Int):Nat->Int
  | 0=>c
  | k + 1=>itc c k / 26
noncomputable def dig (c:Int) (k:Nat):Nat:=97 + (itc c k % 26).toNat
noncomputable def yu (c:Int) (n:Nat):List Nat:=(List.range n).map (dig c)
theorem qU (c:Int) (n:Nat):(yu c n).length = n:=by simp [yu]
theorem dig_low (c:Int) (k:Nat):97 <= dig c k /\ dig c k <= 122:=by
  unfold dig
  have h1:=Int.emod_nonneg (itc c k) (show (26:Int) ≠ 0 by decide)
  have h2:=Int.emod_lt_of_pos (itc c k) (show (0:Int) < 26 by decide)
  omega
theorem jbZ (c:Int) (n:Nat):low (yu c n) = true:=by
  unfold low yu
  rw [List.all_eq_true]
  intro x hx
  obtain ⟨k,_,rfl⟩:=List.mem_map.mp hx
  have:=dig_low c k
  simp only [Bool.and_eq_true,decide_eq_true_eq]; exact this
theorem jiZ (c:Int) (n:Nat):yu c (n + 1) = yu c n ++ [dig c n]:=by simp [yu,List.range_succ]
theorem wordL_ok {c:Int} {n:Nat} (h1:1 <= n) (h2:n <= 8):JH (yu c n) = true:=jdq (by rw [qU]; exact h1) (by rw [qU]; exact h2) (jbZ c n)
noncomputable def jb6 (ns:List (List Nat)) (m:Nat):Prop:=ns.length = m /\ (∀ n ∈ ns,JH n = true) /\ ns.Nodup
theorem jb6.reverse {ns:List (List Nat)} {m:Nat} (h:jb6 ns m):jb6 ns.reverse m:=⟨by rw [List.length_reverse]; exact h.1,fun n hn=>h.2.1 n (List.mem_reverse.mp hn),by rw [List.nodup_iff_pairwise_ne,List.pairwise_reverse]; exact (List.nodup_iff_pairwise_ne.mp h.2.2).imp fun h e=>h e.symm⟩
theorem jhF {f:Nat->List Nat} {m:Nat} (h1:∀ k,k < m->JH (f k) = true) (h2:∀ i j,i < m->j < m->f i = f j->i = j):jb6 ((List.range m).map f) m:=by
  refine ⟨by simp,fun n hn=>?_,?_⟩
  · obtain ⟨k,hk,rfl⟩:=List.mem_map.mp hn
    exact h1 k (List.mem_range.mp hk)
  · rw [List.nodup_iff_pairwise_ne,List.pairwise_map]
    refine List.Pairwise.imp_of_mem (fun {a b} ha hb hne e=>hne (h2 a b (List.mem_range.mp ha) (List.mem_range.mp hb) e)) (List.nodup_iff_pairwise_ne.mp List.nodup_range)
theorem good_pre (b:List Nat) (m:Nat) (hm:m <= 6) (hb:b.length = 8) (hl:low b = true):jb6 ((List.range m).map fun k=>b.take (k + 1)) m:=by
  refine jhF (fun k hk=>jdq (by rw [List.length_take]; omega) (by rw [List.length_take]; omega) (jgY hl fun c hc=>List.mem_of_mem_take hc)) fun i j hi hj e=>?_
  have:=congrArg List.length e
  rw [List.length_take,List.length_take] at this
  omega
noncomputable def wds:List (List Nat):=["up", "to", "of", "for", "each", "any", "one", "nothing"].map fun x:String=>(Str.ofString x).cps.toList
noncomputable def goodB (ns:List (List Nat)) (m:Nat):Bool:=decide (ns.length = m) && (ns.all JH && decide ns.Nodup)
theorem goodB_ok {ns:List (List Nat)} {m:Nat} (h:goodB ns m = true):jb6 ns m:=by
  unfold goodB at h
  simp only [Bool.and_eq_true,decide_eq_true_eq] at h
  exact ⟨h.1,List.all_eq_true.mp h.2.1,h.2.2⟩
theorem good_wds:∀ a,a < 8->∀ m,m < 7->goodB (((wds ++ wds).drop a).take m) m = true:=by decide +kernel
noncomputable def third (b:List Nat) (size at_:Nat) (x m:Int) (k:Nat):List Nat:=(b.take at_ ++ yu (x + (k:Int) * m) 1) ++ (b.drop (at_ + 1)).take (size - (at_ + 1))
theorem je2 {b:List Nat} {size at_ m:Nat} {x st:Int} (hb:b.length = 8) (hl:low b = true) (h1:1 <= size) (h2:size <= 8) (h3:at_ < size) (hm:m <= 6) (hx:0 <= x /\ x < 26) (hs:1 <= st /\ st <= 4) :
    jb6 ((List.range m).map (third b size at_ x st)) m:=by
  have hlen:∀ k,(third b size at_ x st k).length = size:=fun k=>by
    unfold third
    simp only [List.length_append,List.length_take,List.length_drop,qU]
    omega
  refine jhF (fun k hk=>jdq (by rw [hlen]; exact h1) (by rw [hlen]; exact h2) ?_) fun i j hi hj e=>?_
  · exact jje (jje (jgY hl fun c hc=>List.mem_of_mem_take hc) (jbZ _ _)) (jgY hl fun c hc=>List.mem_of_mem_drop (List.mem_of_mem_take hc))
  · unfold third at e
    have e1:=(List.append_inj e (by simp [qU])).1
    have e2:=(List.append_inj e1 rfl).2
    have e3:dig (x + (i:Int) * st) 0 = dig (x + (j:Int) * st) 0:=by
      have:[dig (x + (i:Int) * st) 0] = [dig (x + (j:Int) * st) 0]:=e2
      simpa using this
    unfold dig itc at e3
    have b1:=Int.emod_nonneg (x + (i:Int) * st) (show (26:Int) ≠ 0 by decide)
    have b2:=Int.emod_nonneg (x + (j:Int) * st) (show (26:Int) ≠ 0 by decide)
    obtain ⟨s1,s2⟩:=hs
    have hst:st = 1 ∨ st = 2 ∨ st = 3 ∨ st = 4:=by omega
    rcases hst with rfl | rfl | rfl | rfl <;> omega
theorem jeR (l:List Nat) (k:Nat):cutL l none (some (k:Int)) = l.take k:=by
  unfold cutL
  rw [HT.zJ,HT.sIx_none,List.drop_zero,Nat.sub_zero]
  by_cases h:k <= l.length
  · rw [Nat.min_eq_left h]
  · rw [Nat.min_eq_right (by omega),List.take_of_length_le (Nat.le_refl _),List.take_of_length_le (by omega)]
theorem cut_mid (l:List Nat) (a b:Nat) (ha:a <= l.length) (hb:b <= l.length):cutL l (some (a:Int)) (some (b:Int)) = (l.drop a).take (b - a):=by
  unfold cutL
  rw [HT.zJ,HT.zJ,Nat.min_eq_left ha,Nat.min_eq_left hb]
noncomputable def jbV (_K:PySem.W.Frag):Sp:=fun vs H Q _=>∃ (c:Int) (n:Nat),vs = [.int c,.int (n:Int)] /\ n <= 8 /\ ∀ H',Same H H'->Q (sv (yu c n)) H'
noncomputable def jfN (K:PySem.W.Frag):Sp:=fun vs H Q _=>∃ (a:Addr) (sc:List Int) (m:Nat),vs = [.ref a,.int (m:Int)] /\ SqL K H a (sc.map V.int) /\ m <= 6 /\ ∀ l H' ns,Same H H'->H l = none->H' l = some (.lst (ns.map sv))->jb6 ns m->Q (.ref l) H'
noncomputable def jfM (K:PySem.W.Frag):Sp:=fun vs H Q _=>∃ (a l:Addr) (sc:List Int) (ns:List (List Nat)),vs = [.ref a,.ref l] /\ SqL K H a (sc.map V.int) /\ H l = some (.lst (ns.map sv)) /\ ns.length <= 6 /\ (∀ n ∈ ns,JH n = true) /\
  ∀ (p:Addr) (H':Hp) (ks:List (List Nat)),Same H H'->H p = none->H' p = some (.lst (ks.map sv))->ks.length = ns.length->(∀ k ∈ ks,JH k = true)->Q (.ref p) H'
section
variable {P:Program} {w:World} {K:PySem.W.Frag} {mg:Str->Option Value} {base:Heap}
theorem lett_at (i:Nat) (h:i < 26):atI (Str.ofString "abcdefghijklmnopqrstuvwxyz").cps.toList (i:Int) = some (97 + i):=by
  have z:∀ i,i < 26->(Str.ofString "abcdefghijklmnopqrstuvwxyz").cps.toList[i]? = some (97 + i):=by decide +kernel
  exact jen (z i h)
theorem jjX {f:Addr} {fd:FuncData} (F:Fun K "_law_word" "_law_word" jfv f fd) (jF:mg "_law_word" = some (.ref f)) (jQ:mg "range" = none) (Z2:mg "divmod" = none):jE P w K mg base 1 "_law_word" ["_law_cell_here", "_law_size_here"] [] (jbV K):=by
  refine F.jT jF (bnd2 F fun _ _ _ _ _ _ _ _=>rfl) YM (fun vs H Q E h=>?_) (fun cdv A outer s H vs Q E hr h=>?_)
  · obtain ⟨c,n,rfl,_⟩:=h; rfl
  obtain ⟨c,n,rfl,hn,q⟩:=h
  refine ⟨_,(R.jk (R.jO (i:=2) YM.nd rfl (Or.inl rfl) R.jJ)
    (R.jk (R.jO (i:=3) YM.nd rfl (Or.inl rfl) R.jJ)
    (R.jk (R.J4 PassesOwn.never rfl (R.Ji rfl jQ (R.pa_c (R.pv 1) R.jh)) (R.jP (i:=4) YM.nd rfl (Or.inl rfl)) (R.jk (R.jhd (R.JM jdU rfl Z2 (boot_divmod) (R.pa_c (R.pv 0) (R.pa_c R.jg R.jh))) (R.Zh K 2 rfl (R.JL (R.jP (i:=0) YM.nd rfl (Or.inl rfl)) (R.JL (R.jP (i:=5) YM.nd rfl (Or.inl rfl)) R.Yg))))
      (R.jn (R.jO (i:=3) YM.nd rfl (Or.inl rfl) (R.jD Jh (R.pv 3) (R.jX ix_str (R.pv 2) (R.pv 5) (fun _ _=>rfl)))))))
    (R.jn (R.jG (R.pv 3)))))),?_⟩
  refine ⟨_,rfl,_,rfl,by omega,by omega,?_⟩
  refine Q3 (fun i σ H2=>(∃ x y,σ = [some (.int (itc c i)),some (.int (n:Int)),some (.str "abcdefghijklmnopqrstuvwxyz"),some (sv (yu c i)),x,y]) /\ Same H H2) ⟨⟨_,_,rfl⟩,Same.refl _⟩ (fun i σ H2 hi hP=>?_) (fun σ H2 hP=>?_)
  · obtain ⟨⟨x,y,rfl⟩,s2⟩:=hP
    have hi:i < n:=by simpa using hi
    refine ⟨_,rfl,_,_,rfl,⟨by decide,by decide⟩,fun p hp=>⟨p,_,rfl,SqT.of jm,rfl,_,_,rfl,_,_,rfl,rfl,?_⟩⟩
    have b1:=Int.emod_nonneg (itc c i) (show (26:Int) ≠ 0 by decide)
    have b2:=Int.emod_lt_of_pos (itc c i) (show (0:Int) < 26 by decide)
    have e:itc c i % 26 = (((itc c i % 26).toNat:Nat):Int):=by omega
    refine ⟨_,rfl,_,rfl,_,rfl,_,_,dig c i,rfl,rfl,by decide,?_,_,_,rfl,rfl,?_,?_⟩
    · rw [e]; exact lett_at _ (by omega)
    · show (tx (yu c i)).length + 1 <= sizeLine
      rw [Ju,qU,sizeLine_eq]; omega
    · have e5:sv (yu c (i + 1)) = V.str (tx (yu c i) ++ ⟨#[dig c i]⟩):=by
        show V.str (tx (yu c (i + 1))) = _
        rw [jiZ,<- qx]; rfl
      rw [e5]
      exact ⟨⟨_,_,rfl⟩,s2.trans (jA hp _)⟩
  · obtain ⟨⟨x,y,rfl⟩,s2⟩:=hP
    have e:(((n:Int)).toNat) = n:=by simp
    rw [e]
    exact ⟨_,rfl,q H2 s2⟩
theorem len8 {l:List Nat} (h:l.length <= 8):l.length <= sizeLine:=by rw [sizeLine_eq]; omega
theorem jgA {H H':Hp} {l:Addr} (S:Same H H') (h:H' l = none):H l = none:=by
  cases e:H l with
  | none=>rfl
  | some o=>rw [S _ _ e] at h; cases h
theorem cutV_nat (xs:List V) (a m:Nat) (h:a + m <= xs.length):cutV xs (some (a:Int)) (some ((a + m:Nat):Int)) = (xs.drop a).take m:=by
  unfold cutV
  rw [HT.zJ,HT.zJ,Nat.min_eq_left (show a <= xs.length by omega),Nat.min_eq_left h,Nat.add_sub_cancel_left]
theorem wds_sv:[V.str "up",V.str "to",V.str "of",V.str "for",V.str "each",V.str "any",V.str "one",V.str "nothing"] = wds.map sv:=by
  have z:∀ x:String,sv (Str.ofString x).cps.toList = V.str (Str.ofString x):=fun x=>congrArg V.str (jgM _).symm
  unfold wds
  simp only [List.map_cons,List.map_nil,z]
theorem modn (c:Int) (m:Nat) (h:0 < m):∃ u:Nat,c % (m:Int) = (u:Int) /\ u < m:=by
  have h1:=Int.emod_nonneg c (show (m:Int) ≠ 0 by omega)
  have h2:=Int.emod_lt_of_pos c (show (0:Int) < (m:Int) by omega)
  exact ⟨(c % (m:Int)).toNat,by omega,by omega⟩
theorem jiC {f:Addr} {fd:FuncData} (F:Fun K "_law_names" "_law_names" jbT f fd) (jF:mg "_law_names" = some (.ref f)) (jQ:mg "range" = none) (ye:mg "list" = none) (jck:mg "reversed" = none)
    (j5:jE P w K mg base 1 "_law_cell" ["_law_script", "_law_k"] [] (yU K))
    (Qt:jE P w K mg base 1 "_law_word" ["_law_cell_here", "_law_size_here"] [] (jbV K)):jE P w K mg base 2 "_law_names" ["_law_script", "_law_many"] [] (jfN K):=by
  refine F.jT jF (bnd2 F fun _ _ _ _ _ _ _ _=>rfl) J0 (fun vs H Q E h=>?_) (fun cdv A outer s H vs Q E hr h=>?_)
  · obtain ⟨a,sc,m,rfl,_⟩:=h; rfl
  obtain ⟨a,sc,m,rfl,hS,hm,q⟩:=h
  refine ⟨_,(R.jk (R.jO (i:=2) J0.nd rfl (Or.inl rfl) (R.jD Jk (R.jw j5 hr (by first | decide | omega) rfl (R.pa_c (R.pv 0) (R.pa_c R.jg R.jh))) R.jg))
    (R.jk (R.jO (i:=3) J0.nd rfl (Or.inl rfl) (R.jw j5 hr (by first | decide | omega) rfl (R.pa_c (R.pv 0) (R.pa_c R.jg R.jh))))
    (R.jk (R.jO (i:=4) J0.nd rfl (Or.inr rfl) (R.jw Qt hr (by first | decide | omega) rfl (R.pa_c (R.jw j5 hr (by first | decide | omega) rfl (R.pa_c (R.pv 0) (R.pa_c R.jg R.jh))) (R.pa_c R.jg R.jh))))
    (R.jk (R.j8 (R.jR JN (R.pv 2) R.jg (jZ _)) (R.jk (R.jfn (i:=5) (jt jbT) ["_law_script", "_law_many", "_law_way", "_law_cell_here", "_law_base", "_law_found", "_law_some", "_law_size_here", "_law_at", "_law_k", "_law_letter"] ["_law_k"] ["_law_base"] [4] J0.nd rfl (Or.inl rfl) rfl rfl rfl rfl rfl ⟨s.heap.objs.size + 1,rfl⟩ rfl rfl (by decide +kernel) (R.Ji rfl jQ (R.pa_c (R.pv 1) R.jh)) (fun C s2 H2 fp=>(R.jP (i:=0) (show List.Nodup (["_law_k", "_law_base"]:List Str) from by decide +kernel) rfl (Or.inl rfl))) (fun C s2 H2 fp=>R.JK) (fun C s2 H2 fp=>(R.qT ZP (R.pv 1) R.Zy (R.qC (R.jD Jy (R.pv 0) R.jg)))))
      (R.jk (R.j8 (R.jR JN (R.jD Jk (R.pv 3) R.jg) R.jg (jZ _)) (R.jn (R.jO (i:=5) J0.nd rfl (Or.inl rfl) (R.jcs rfl rfl ye rfl jck (R.pv 5)))) R.jL)
      (R.jn (R.jG (R.pv 5))))) R.jL)
    (R.jk (R.j8 (R.jR JN (R.pv 2) R.jg (jZ _)) (R.jk (R.jO (i:=6) J0.nd rfl (Or.inl rfl) (R.jD op_rep (R.Jz (R.pa_c R.jJ (R.pa_c R.jJ (R.pa_c R.jJ (R.pa_c R.jJ (R.pa_c R.jJ (R.pa_c R.jJ (R.pa_c R.jJ (R.pa_c R.jJ R.jh))))))))) R.jg))
      (R.jn (R.jG (R.qT sl_list (R.pv 6) (R.qC (R.jD (opE Jk) (R.pv 3) R.jg)) (R.qC (R.jD (opE0 Jy) (R.jD (opE Jk) (R.pv 3) R.jg) (R.pv 1))))))) R.jL)
    (R.jk (R.jO (i:=7) J0.nd rfl (Or.inl rfl) (R.jD (opE0 Jy) R.jg (R.jD (opE Jk) (R.pv 3) R.jg)))
    (R.jk (R.jO (i:=8) J0.nd rfl (Or.inl rfl) (R.jD (opE Jk) (R.jD Ql (R.pv 3) R.jg) (R.pv 7)))
    (R.jk (R.jO (i:=5) J0.nd rfl (Or.inl rfl) (R.Jz R.jh))
    (R.jk (R.J4 PassesOwn.never rfl (R.Ji rfl jQ (R.pa_c (R.pv 1) R.jh)) (R.jP (i:=9) J0.nd rfl (Or.inl rfl)) (R.jk (R.jO (i:=10) J0.nd rfl (Or.inl rfl) (R.jw Qt hr (by first | decide | omega) rfl (R.pa_c (R.jD Jy (R.jD Jk (R.jD Ql (R.pv 3) R.jg) R.jg) (R.jD qz (R.pv 9) (R.jD Jy R.jg (R.jD Jk (R.jD Ql (R.pv 3) R.jg) R.jg)))) (R.pa_c R.jg R.jh))))
      (R.jn (R.JQ (R.qg (R.pv 5) (R.pa_c (R.jD Jh (R.jD Jh (R.qT ZP (R.pv 4) R.Zy (R.qC (R.pv 8))) (R.pv 10)) (R.qT ZP (R.pv 4) (R.qC (R.jD Jy (R.pv 8) R.jg)) (R.qC (R.pv 7)))) R.jh))))))
    (R.jn (R.jG (R.pv 5)))))))))))),?_⟩
  refine ⟨_,rfl,a,sc,1,rfl,hS,by decide,fun H1 s1=>⟨_,_,rfl,rfl,(by show (0:Int) < 4; decide),?_⟩⟩
  refine ⟨_,rfl,a,sc,3,rfl,s1.seq hS,by decide,fun H2 s2=>?_⟩
  have s12:=s1.trans s2
  refine ⟨_,rfl,a,sc,2,rfl,s12.seq hS,by decide,fun H3 s3=>⟨_,8,rfl,by decide,fun H4 s4=>?_⟩⟩
  have s14:=s12.trans (s3.trans s4)
  have hb:=qU (JR sc 2) 8
  have hlb:=jbZ (JR sc 2) 8
  have c0:=jgS sc 3
  generalize yu (JR sc 2) 8 = b at hb hlb ⊢
  generalize JR sc 1 % 4 = way
  generalize JR sc 3 = c at c0 ⊢
  have em:((m:Int)).toNat = m:=by simp
  obtain ⟨u,hu,hu8⟩:=modn c 8 (by decide)
  refine ⟨_,rfl,rfl,_,rfl,ite2 (fun _=>?_) (fun _=>?_)⟩
  · refine ⟨_,rfl,(m:Int),rfl,by omega,by omega,fun l hl=>?_⟩
    rw [em]
    refine JD (fun _=>true) (fun k=>sv (b.take (k + 1))) (by omega) hl (fun k H5 hk s5 C kk=>kk H5 (Same.refl _)) (fun k H5 hk _ s5 C kk=>?_) (fun H5 s5 e5=>?_)
    · refine ⟨_,rfl,_,rfl,_,_,rfl,rfl,_,rfl,b,rfl,len8 (by omega),?_⟩
      have e:(0 + (k:Int) + 1) = ((k + 1:Nat):Int):=by push_cast; omega
      rw [e,jeR]
      exact kk H5 (Same.refl _)
    · have e6:H5 l = some (.lst (((List.range m).map fun k=>b.take (k + 1)).map sv)):=by
        rw [e5,List.filter_eq_self.mpr (fun _ _=>rfl),List.map_map]; rfl
      have hl0:H l = none:=jgA s14 hl
      have hg:=good_pre b m hm hb hlb
      refine ⟨_,rfl,_,_,rfl,rfl,(by show (0:Int) < 2; decide),rfl,_,rfl,ite2 (fun _=>?_) (fun _=>?_)⟩
      · refine ⟨_,rfl,l,_,rfl,e6,fun p hp=>?_⟩
        have e7:upd H5 p (.lst (((List.range m).map fun k=>b.take (k + 1)).map sv).reverse) p = some (.lst ((((List.range m).map fun k=>b.take (k + 1)).reverse).map sv)):=by rw [jm,List.map_reverse]
        exact ⟨_,rfl,q p _ _ ((s14.trans s5).trans (jA hp _)) (jgA (s14.trans s5) hp) e7 hg.reverse⟩
      · exact ⟨_,rfl,q l H5 _ (s14.trans s5) hl0 e6 hg⟩
  · refine ⟨_,rfl,rfl,_,rfl,ite2 (fun _=>?_) (fun _=>?_)⟩
    · refine ⟨(by show 8 <= sizeLine; decide),fun p1 hp1=>⟨p1,2,_,rfl,rfl,jm,by decide,by decide,(by show 8 * 2 <= sizeLine; decide),fun p2 hp2=>?_⟩⟩
      have e8:(c % 8:Int) = ((u:Nat):Int):=hu
      refine ⟨_,rfl,_,rfl,_,_,nv u,rfl,rfl,(by show (0:Int) < 8; decide),congrArg V.int e8,_,rfl,_,rfl,_,_,nv u,rfl,rfl,(by show (0:Int) < 8; decide),congrArg V.int e8,_,rfl,_,_,nv (u + m),rfl,rfl,?_,_,rfl,p2,_,rfl,SqL.of jm,fun p3 hp3=>?_⟩
      · show V.int ((u:Int) + (m:Int)) = V.int ((u + m:Nat):Int)
        push_cast; rfl
      have e9:(List.replicate (Int.toNat 2) [V.str "up",V.str "to",V.str "of",V.str "for",V.str "each",V.str "any",V.str "one",V.str "nothing"]).flatten = (wds ++ wds).map sv:=by
        rw [wds_sv,List.map_append]
        show (List.replicate 2 (wds.map sv)).flatten = _
        simp [List.replicate]
      have hlw:(wds ++ wds).length = 16:=by decide
      rw [e9,cutV_nat _ u m (by rw [List.length_map,hlw]; omega),<- List.map_drop,<- List.map_take]
      refine q p3 _ (((wds ++ wds).drop u).take m) (((s14.trans (jA hp1 _)).trans (jA hp2 _)).trans (jA hp3 _)) (jgA ((s14.trans (jA hp1 _)).trans (jA hp2 _)) hp3) jm (goodB_ok (good_wds u hu8 m (by omega)))
    · obtain ⟨v,hv,hv8⟩:=modn (c / 8) (1 + u) (by omega)
      have hx1:=Int.emod_nonneg (c / 64) (show (26:Int) ≠ 0 by decide)
      have hx2:=Int.emod_lt_of_pos (c / 64) (show (0:Int) < 26 by decide)
      have hy1:=Int.emod_nonneg (c / 1664) (show (4:Int) ≠ 0 by decide)
      have hy2:=Int.emod_lt_of_pos (c / 1664) (show (0:Int) < 4 by decide)
      have hg:=je2 (m:=m) (x:=c / 64 % 26) (st:=1 + c / 1664 % 4) hb hlb (size:=1 + u) (at_:=v) (by omega) (by omega) hv8 hm ⟨hx1,hx2⟩ (by omega)
      refine ⟨_,rfl,_,_,nv u,rfl,rfl,(by show (0:Int) < 8; decide),congrArg V.int hu,_,_,nv (1 + u),rfl,rfl,?_,?_⟩
      · show V.int ((1:Int) + (u:Int)) = V.int ((1 + u:Nat):Int)
        push_cast; rfl
      refine ⟨_,rfl,_,_,rfl,rfl,⟨by decide,by decide⟩,_,rfl,_,_,nv v,rfl,rfl,?_,congrArg V.int hv,?_⟩
      · show (0:Int) < ((1 + u:Nat):Int)
        omega
      refine ⟨(by show 0 <= sizeLine; decide),fun l hl=>?_⟩
      have hl0:=jgA s14 hl
      refine ⟨_,rfl,(m:Int),rfl,by omega,by omega,?_⟩
      rw [em]
      refine Q3 (fun i σ H5=>(∃ z x y,σ = [some (.ref a),some (.int (m:Int)),z,some (.int c),some (sv b),some (.ref l),none,some (nv (1 + u)),some (nv v),x,y]) /\ Same H H5 /\ H5 l = some (.lst (((List.range i).map (third b (1 + u) v (c / 64 % 26) (1 + c / 1664 % 4))).map sv))) ⟨⟨_,_,_,rfl⟩,s14.trans (jA hl _),jm⟩ (fun i σ H5 hi hP=>?_) (fun σ H5 hP=>?_)
      · obtain ⟨⟨z,x,y,rfl⟩,s5,e5⟩:=hP
        refine ⟨_,rfl,_,_,rfl,rfl,⟨by decide,by decide⟩,_,_,rfl,rfl,(by show (0:Int) < 26; decide),_,rfl,_,rfl,_,_,rfl,rfl,⟨by decide,by decide⟩,_,_,rfl,rfl,(by show (0:Int) < 4; decide),_,_,rfl,rfl,_,_,rfl,rfl,Js (by omega),_,_,rfl,rfl,_,1,rfl,by decide,fun H6 s6=>?_⟩
        have e0:(0 + (i:Int)) = (i:Int):=by omega
        have e6:=s6 _ _ e5
        have lb:(tx (cutL b none (some (v:Int)))).length <= 8:=by rw [Ju]; exact Nat.le_trans (jbe _ _ _) (by omega)
        have lc:(tx (cutL b (some ((v:Int) + 1)) (some ((1 + u:Nat):Int)))).length <= 8:=by rw [Ju]; exact Nat.le_trans (jbe _ _ _) (by omega)
        have lw:(tx (yu (c / 64 % 26 + (0 + (i:Int)) * (1 + c / 1664 % 4)) 1)).length = 1:=by rw [Ju,qU]
        refine ⟨_,rfl,.inl ⟨rfl,_,SqL.of e6⟩,_,rfl,_,rfl,_,rfl,b,rfl,len8 (by omega),_,rfl,_,_,rfl,rfl,(by rw [sizeLine_eq]; omega),_,rfl,_,rfl,_,_,rfl,rfl,_,rfl,_,rfl,_,rfl,b,rfl,len8 (by omega),_,_,rfl,rfl,?_,l,_,_,rfl,rfl,e6,?_,?_⟩
        · rw [qx,Ju,List.length_append,qU,sizeLine_eq]
          rw [Ju] at lb
          omega
        · rw [List.length_map,List.length_map,List.length_range,sizeLine_eq]
          omega
        · refine ⟨⟨_,_,_,rfl⟩,(s5.trans s6).upd hl0 _,?_⟩
          rw [jm,qx,qx,List.range_succ,List.map_append,List.map_append]
          have e7:cutL b none (some (v:Int)) = b.take v:=jeR b v
          have e8:cutL b (some ((v:Int) + 1)) (some ((1 + u:Nat):Int)) = (b.drop (v + 1)).take (1 + u - (v + 1)):=by
            have:=cut_mid b (v + 1) (1 + u) (by omega) (by omega)
            push_cast at this ⊢
            exact this
          rw [e7,e8,e0]
          rfl
      · obtain ⟨⟨z,x,y,rfl⟩,s5,e5⟩:=hP
        exact ⟨_,rfl,q l H5 _ s5 hl0 e5 hg⟩
theorem jiB {f:Addr} {fd:FuncData} (F:Fun K "_law_kinds" "_law_kinds" jbS f fd) (jF:mg "_law_kinds" = some (.ref f)) (jQ:mg "range" = none) (Jl:mg "len" = none)
    (Qt:jE P w K mg base 1 "_law_word" ["_law_cell_here", "_law_size_here"] [] (jbV K))
    (j5:jE P w K mg base 1 "_law_cell" ["_law_script", "_law_k"] [] (yU K)):jE P w K mg base 2 "_law_kinds" ["_law_script", "_law_names_here"] [] (jfM K):=by
  refine F.jT jF (bnd2 F fun _ _ _ _ _ _ _ _=>rfl) jfz (fun vs H Q E h=>?_) (fun cdv A outer s H vs Q E hr h=>?_)
  · obtain ⟨a,l,sc,ns,rfl,_⟩:=h; rfl
  obtain ⟨a,l,sc,ns,rfl,hS,hl,hm,hok,q⟩:=h
  refine ⟨_,(R.jk (R.jO (i:=2) jfz.nd rfl (Or.inr rfl) (R.Jz (R.pa_c (R.jw Qt hr (by first | decide | omega) rfl (R.pa_c (R.jw j5 hr (by first | decide | omega) rfl (R.pa_c (R.pv 0) (R.pa_c R.jg R.jh))) (R.pa_c (R.jD (opE0 Jy) R.jg (R.jD Jk (R.jw j5 hr (by first | decide | omega) rfl (R.pa_c (R.pv 0) (R.pa_c R.jg R.jh))) R.jg)) R.jh))) (R.pa_c (R.jX (R.ixL K) (R.jD op_cat (R.pv 1) (R.Jz (R.pa_c R.jJ R.jh))) R.jg (fun _ _=>rfl)) (R.pa_c R.jJ R.jh)))))
    (R.jn (R.jG (R.Jj (jt jbS) ["_law_script", "_law_names_here", "_law_pool"] ["_law_k"] ["_law_pool", "_law_script"] [2,0] rfl rfl rfl ⟨s.heap.objs.size + 1,rfl⟩ rfl rfl (by decide +kernel) (R.Ji rfl jQ (R.pa_c (R.JM Jf rfl Jl PySem.boot_len (R.pa_c (R.pv 1) R.jh)) R.jh)) (fun C s2 H2 fp=>(R.jP (i:=0) (show List.Nodup (["_law_k", "_law_pool", "_law_script"]:List Str) from by decide +kernel) rfl (Or.inl rfl))) (fun C s2 H2 fp=>R.JK) (fun C s2 H2 fp=>(R.jX (R.ixL K) (R.pv 1) (R.jD (opE Jk) (R.jD Ql (R.jw j5 hr (by first | decide | omega) rfl (R.pa_c (R.pv 2) (R.pa_c R.jg R.jh))) (R.jD Jy R.jg (R.jD qz (R.pv 0) (R.pv 0)))) R.jg) (fun _ _=>rfl))))))),?_⟩
  obtain ⟨u,hu,hu8⟩:=modn (JR sc 4) 8 (by decide)
  refine ⟨_,rfl,a,sc,4,rfl,hS,by decide,fun H1 s1=>⟨_,rfl,a,sc,4,rfl,s1.seq hS,by decide,fun H2 s2=>?_⟩⟩
  refine ⟨_,_,rfl,rfl,(by show (0:Int) < 8; decide),_,_,nv (1 + u),rfl,rfl,?_,?_⟩
  · show V.int ((1:Int) + JR sc 4 % 8) = V.int ((1 + u:Nat):Int)
    have:JR sc 4 % 8 = (u:Int):=hu
    rw [this]; push_cast; rfl
  refine ⟨_,1 + u,rfl,by omega,fun H3 s3=>?_⟩
  have hw:JH (yu (JR sc 4) (1 + u)) = true:=wordL_ok (by omega) (by omega)
  generalize yu (JR sc 4) (1 + u) = wd at hw ⊢
  have s13:=(s1.trans s2).trans s3
  refine ⟨_,rfl,(by show 1 <= sizeLine; decide),fun p1 hp1=>⟨l,p1,_,_,rfl,rfl,jA hp1 _ _ _ (s13 _ _ hl),jm,?_,fun p2 hp2=>?_⟩⟩
  · rw [List.length_map,sizeLine_eq]
    show ns.length + 1 <= _
    omega
  obtain ⟨n0,hn0,e0⟩:∃ n0,JH n0 = true /\ (ns.map sv ++ [V.str "any"])[0]? = some (sv n0):=by
    cases ns with
    | nil=>exact ⟨(Str.ofString "any").cps.toList,by decide,by show some (V.str (Str.ofString "any")) = _; rw [jgM (Str.ofString "any")]; simp [qZ]⟩
    | cons n ns=>exact ⟨n,hok n (by simp),rfl⟩
  refine ⟨p2,_,0,sv n0,rfl,rfl,SqL.of jm,jen (j:=0) e0,(by show 3 <= sizeLine; decide),fun p3 hp3=>?_⟩
  have s4:=((s13.trans (jA hp1 _)).trans (jA hp2 _)).trans (jA hp3 (.lst [sv wd,sv n0,V.str "one"]))
  have e3:upd (upd (upd H3 p1 (.lst [V.str "any"])) p2 (.lst (ns.map sv ++ [V.str "any"]))) p3 (.lst [sv wd,sv n0,V.str "one"]) p3 = some (.lst [sv wd,sv n0,V.str "one"]):=jm
  generalize upd (upd (upd H3 p1 (.lst [V.str "any"])) p2 (.lst (ns.map sv ++ [V.str "any"]))) p3 (.lst [sv wd,sv n0,V.str "one"]) = H4 at s4 e3 ⊢
  have eone:V.str "one" = sv (Str.ofString "one").cps.toList:=congrArg V.str (jgM _)
  rw [eone] at e3
  have hone:JH (Str.ofString "one").cps.toList = true:=by decide
  generalize (Str.ofString "one").cps.toList = one at e3 hone
  refine ⟨_,rfl,l,_,rfl,.inl (SqL.of (s4 _ _ hl)),_,rfl,by rw [List.length_map]; omega,by rw [List.length_map]; omega,fun p hp=>?_⟩
  have en:(((ns.map sv).length:Nat):Int).toNat = ns.length:=by rw [List.length_map]; simp
  rw [en]
  have pick:∀ k:Nat,∃ v:Nat,JR sc 5 / (1 + (0 + (k:Int)) * (0 + (k:Int))) % 3 = (v:Int) /\ v < 3:=fun k=>modn _ 3 (by decide)
  refine JD (fun _=>true) (fun k=>sv ([wd,n0,one].getD (JR sc 5 / (1 + (0 + (k:Int)) * (0 + (k:Int))) % 3).toNat wd)) (by omega) hp (fun k H5 hk s5 C kk=>kk H5 (Same.refl _)) (fun k H5 hk _ s5 C kk=>?_) (fun H5 s5 e5=>?_)
  · obtain ⟨v,hv,hv3⟩:=pick k
    have hk2:k <= 5:=by omega
    have hkk:(0 + (k:Int)) * (0 + (k:Int)) <= 25:=by
      have:k * k <= 5 * 5:=Nat.mul_le_mul hk2 hk2
      rw [Int.zero_add]
      exact_mod_cast this
    have hk0:0 <= (0 + (k:Int)) * (0 + (k:Int)):=Int.mul_nonneg (by omega) (by omega)
    refine ⟨_,rfl,_,rfl,a,sc,5,rfl,(s4.trans s5).seq hS,by decide,fun H6 s6=>?_⟩
    refine ⟨_,rfl,_,rfl,_,_,rfl,rfl,Js (by omega),_,_,rfl,rfl,_,_,rfl,rfl,⟨by omega,by omega⟩,_,_,nv v,rfl,rfl,(by show (0:Int) < 3; decide),congrArg V.int hv,p3,_,_,sv ([wd,n0,one].getD v wd),rfl,rfl,SqL.of ((s5.trans s6) _ _ e3),jen ?_,?_⟩
    · have:∀ v,v < 3->[sv wd,sv n0,sv one][v]? = some (sv ([wd,n0,one].getD v wd)):=fun v h=>by
        match v,h with
        | 0,_=>rfl
        | 1,_=>rfl
        | 2,_=>rfl
      exact this v hv3
    · have z:=kk H6 s6
      rw [hv,Int.toNat_natCast] at z
      exact z
  · refine q p H5 ((List.range ns.length).map fun k:Nat=>[wd,n0,one].getD (JR sc 5 / (1 + (0 + (k:Int)) * (0 + (k:Int))) % 3).toNat wd) (s4.trans s5) (jgA s4 hp) ?_ (by simp) fun k hk=>?_
    · rw [e5,List.filter_eq_self.mpr (fun _ _=>rfl),List.map_map]; rfl
    · obtain ⟨j,_,rfl⟩:=List.mem_map.mp hk
      obtain ⟨v,hv,hv3⟩:=pick j
      rw [hv,Int.toNat_natCast]
      have:∀ v,v < 3->JH ([wd,n0,one].getD v wd) = true:=fun v h=>by
        match v,h with
        | 0,_=>exact hw
        | 1,_=>exact hn0
        | 2,_=>exact hone
      exact this v hv3
end
end My
set_option Elab.async false
set_option linter.all false
set_option maxRecDepth 100000
set_option maxHeartbeats 4000000
namespace My
open PySem PySem.Spec PyProof.Rows L2 GM
noncomputable def NmAt (K:PySem.W.Frag) (H:Hp) (nl:Addr) (ns:List Str):Prop:=SqL K H nl (ns.map V.str) /\ NsOk ns /\ ns.length <= 20
theorem NmAt.same {K:PySem.W.Frag} {H H':Hp} {nl:Addr} {ns:List Str} (h:NmAt K H nl ns) (S:Same H H'):NmAt K H' nl ns:=⟨S.seq h.1,h.2⟩
theorem sz {n:Nat} (h:n <= 100000):n <= sizeLine:=by rw [sizeLine_eq]; omega
theorem Jd:Str.empty.length = 0:=rfl
theorem jgm {ns:List Str} {k:Nat} (h:k < ns.length):atI (ns.map V.str) (k:Int) = some (V.str (ns.getD k Str.empty)):=by
  refine jdf ?_
  rw [List.getElem?_map,List.getElem?_eq_getElem h,List.getD_eq_getElem?_getD,List.getElem?_eq_getElem h]; rfl
noncomputable def qi (K:PySem.W.Frag):Sp:=fun vs H Q _=>∃ (b:Nat) (nl:Addr) (ns:List Str),vs = [nv b,.ref nl] /\ b < 64 /\ NmAt K H nl ns /\ (∀ k ∈ things b,k < ns.length) /\ ∀ H',Same H H'->Q (.str (qp ns b)) H'
noncomputable def jbC (_K:PySem.W.Frag) (_c:Addr):Sp:=fun vs H Q _=>∃ (a:Addr) (v:V),vs = [.ref a,v] /\ Q (.str (Str.ofString "nothing")) H
noncomputable def ja0 (K:PySem.W.Frag) (c:Addr):Sp:=fun vs H Q _=>∃ (a dx:Addr) (b:Nat) (m:Int) (nl:Addr) (ns:List Str),vs = [.ref a,.ref nl] /\ H a = some (.ins c dx (jeY b m)) /\ Qk (.only b m) /\ NmAt K H nl ns /\ (∀ k ∈ things b,k < ns.length) /\ ∀ H',Same H H'->Q (.str (jeW ns (.only b m))) H'
noncomputable def ZC (K:PySem.W.Frag) (c:Addr):Sp:=fun vs H Q _=>∃ (a dx:Addr) (k l:Nat) (m:Int) (nl:Addr) (ns:List Str),vs = [.ref a,.ref nl] /\ H a = some (.ins c dx (jeZ k l m)) /\ Qk (.some k l m) /\ NmAt K H nl ns /\ (∀ x ∈ things k,x < ns.length) /\ ∀ H',Same H H'->Q (.str (jeW ns (.some k l m))) H'
noncomputable def ja1 (K:PySem.W.Frag) (c:Addr):Sp:=fun vs H Q _=>∃ (a dx:Addr) (k l:Nat) (m:Int) (nl:Addr) (ns:List Str),vs = [.ref a,.ref nl] /\ H a = some (.ins c dx (jeX k l m)) /\ Qk (.most k l m) /\ NmAt K H nl ns /\ (∀ x ∈ things k,x < ns.length) /\ ∀ H',Same H H'->Q (.str (jeW ns (.most k l m))) H'
noncomputable def jdN (K:PySem.W.Frag) (any:Bool) (jr jj jc ji jb jd je jf:Addr) (d:Nat):Sp:=fun vs H Q _=>∃ (a:Addr) (ts:List Tr) (A:Addr->Prop) (nl:Addr) (ns:List Str) (m:Nat),vs = [.ref a,.ref nl] /\ IsTr jr jj jc ji jd je A H d a (.node any ts) /\ jN ts <= 100 /\ NmAt K H nl ns /\ m <= 6 /\ m <= ns.length /\ Sub (Jg ts) m /\ ∀ H',Same H H'->Q (.str (qN ns (.node any ts))) H'
noncomputable def jhj (K:PySem.W.Frag) (jr jj jc ji jb jd je jf:Addr) (d:Nat):Sp:=fun vs H Q _=>∃ (l:Addr) (bs:List Addr) (ts:List Tr) (A:Addr->Prop) (nl:Addr) (ns:List Str) (m:Nat),vs = [.ref l,.ref nl] /\ H l = some (.lst (bs.map V.ref)) /\ All2 (IsTr jr jj jc ji jd je A H d) bs ts /\ jN ts <= 100 /\ NmAt K H nl ns /\ m <= 6 /\ m <= ns.length /\ Sub (Jg ts) m /\ ∀ H',Same H H'->Q (.str (Txt.join (Str.ofString "; ") (ts.map (qN ns)))) H'
noncomputable def TWd (K:PySem.W.Frag) (jr jj jc ji jb jd je jf:Addr) (d:Nat):Addr->Sp->Prop:=fun C sp=>(C = jr /\ sp = jbC K jr) ∨ (C = jj /\ sp = ja0 K jj) ∨ (C = jc /\ sp = ZC K jc) ∨ (C = ji /\ sp = ja1 K ji) ∨ (C = jd /\ sp = jdN K true jr jj jc ji jb jd je jf d) ∨ (C = je /\ sp = jdN K false jr jj jc ji jb jd je jf d)
noncomputable def ji4 (K:PySem.W.Frag) (jr jj jc ji jb jd je jf:Addr):Addr->Sp->Prop:=TWd K jr jj jc ji jb jd je jf 5
theorem IsTr.ok {c1 c2 c3 c4 c5 c6:Addr} {A:Addr->Prop} {H:Hp}:∀ (d:Nat) {a:Addr} {t:Tr},IsTr c1 c2 c3 c4 c5 c6 A H d a t->okT t
  | 0,_,_,h=>h.elim
  | _ + 1,a,.leaf f,h=>jbk.mpr h.1
  | d + 1,a,.node any ts,h=>by
    obtain ⟨dx,l,bs,e1,e2,e3,e4⟩:=h
    exact yq.mpr (jgZ fun t ht=>by obtain ⟨x,hx⟩:=e4.mem ht; exact IsTr.ok d hx)
theorem FT.ok {A:Addr->Prop} {H:Hp}:∀ (d:Nat) {a:Addr} {t:Tr},FT A H d a t->okT t
  | 0,_,_,h=>h.elim
  | _ + 1,a,.leaf f,h=>jbk.mpr h.1
  | d + 1,a,.node any ts,h=>by
    obtain ⟨l,bs,e1,e2,e3,e4⟩:=h
    exact yq.mpr (jgZ fun t ht=>by obtain ⟨x,hx⟩:=e4.mem ht; exact FT.ok d hx)
section
variable {P:Program} {w:World} {K:PySem.W.Frag} {mg:Str->Option Value} {base:Heap}
variable {jr jj jc ji jb jd je jf:Addr}
theorem jdv {f:Addr} {fd:FuncData} (F:Fun K "place_words" "place_words" yG f fd) (jF:mg "place_words" = some (.ref f))
    (JS:jE P w K mg base 2 "things_in" ["bundle"] [] (Yx K)):jE P w K mg base 3 "place_words" ["bundle", "names"] [] (qi K):=by
  refine F.jT jF (bnd2 F fun _ _ _ _ _ _ _ _=>rfl) jdL (fun vs H Q E h=>?_) (fun cdv A outer s H vs Q E hr h=>?_)
  · obtain ⟨b,nl,ns,rfl,_⟩:=h; rfl
  obtain ⟨b,nl,ns,rfl,hb,hN,hk,q⟩:=h
  refine ⟨_,(R.jn (R.jG (R.jbR K R.jJ (R.Jj (jt yG) ["bundle", "names"] ["number"] ["names"] [1] rfl rfl rfl ⟨s.heap.objs.size + 1,rfl⟩ rfl rfl (by decide +kernel) (R.JF (R.jw JS hr (by first | decide | omega) rfl (R.pa_c (R.pv 0) R.jh))) (fun C s2 H2 fp=>(R.jP (i:=0) (show List.Nodup (["number", "names"]:List Str) from by decide +kernel) rfl (Or.inl rfl))) (fun C s2 H2 fp=>R.JK) (fun C s2 H2 fp=>(R.jX (R.ixL K) (R.pv 1) (R.pv 0) (fun _ _=>rfl))))))),?_⟩
  refine ⟨Str.ofString "+",rfl,_,rfl,b,rfl,hb,fun l H1 s1 h1 e1=>⟨l,rfl,⟨_,SqL.of e1⟩,fun l2 h2=>?_⟩⟩
  have hN1:=hN.same s1
  refine zG nv (things b) (fun _=>true) (fun k=>.str (ns.getD k Str.empty)) (SqL.of e1) (by have:=YX b; omega) h2 ?_ ?_ ?_
  · intro k hk' H2 s2 C hC; exact hC _ (Same.refl _)
  · intro k hk' _ H2 s2 C hC
    exact ⟨_,rfl,_,rfl,nl,_,_,_,rfl,rfl,(hN1.same s2).1,jgm (hk k hk'),hC _ (Same.refl _)⟩
  · intro H2 s2 e2
    have em:(((things b).filter fun _=>true).map fun k=>V.str (ns.getD k Str.empty)) = ((things b).map fun k=>ns.getD k Str.empty).map V.str:=by
      rw [List.filter_eq_self.mpr (fun _ _=>rfl),List.map_map]; rfl
    rw [em] at e2
    exact ⟨l2,_,rfl,SqL.of e2,(qt hN.2.1 b).1,q H2 (s1.trans s2)⟩
theorem jbn {f:Addr} {fd:FuncData} (F:Fun K "words" "Bid.words" Y8 f fd)
    (jK:Own K mg "Bid" jr [])
    (jC:Own K mg "Only" jj ["bundle", "amount"])
    (jq:Own K mg "SoMany" jc ["kind", "least", "amount"])
    (jB:Own K mg "UpTo" ji ["kind", "most", "each"])
    (ju:Own K mg "Several" jb ["bids"])
    (jy:Own K mg "AnyOf" jd ["bids"])
    (jz:Own K mg "OneOf" je ["bids"])
    (jx:Own K mg "Stock" jf ["numbers", "kinds"]):FnOk P w K mg base CX0 1 f fd ["self", "names"] (jbC K jr):=by
  refine F.okQ jfD (fun vs H Q E h=>?_) (fun cdv A outer s H vs Q E hr h=>?_)
  · obtain ⟨a,v,rfl,_⟩:=h; rfl
  obtain ⟨a,v,rfl,q⟩:=h
  exact ⟨_,(R.jn (R.jG R.jJ)),q⟩
theorem jaQ {f:Addr} {fd:FuncData} (F:Fun K "words" "Only.words" Ym f fd)
    (Jc:jE P w K mg base 3 "place_words" ["bundle", "names"] [] (qi K))
    (jK:Own K mg "Bid" jr [])
    (jC:Own K mg "Only" jj ["bundle", "amount"])
    (jq:Own K mg "SoMany" jc ["kind", "least", "amount"])
    (jB:Own K mg "UpTo" ji ["kind", "most", "each"])
    (ju:Own K mg "Several" jb ["bids"])
    (jy:Own K mg "AnyOf" jd ["bids"])
    (jz:Own K mg "OneOf" je ["bids"])
    (jx:Own K mg "Stock" jf ["numbers", "kinds"]):FnOk P w K mg base CX0 4 f fd ["self", "names"] (ja0 K jj):=by
  refine F.okQ zA (fun vs H Q E h=>?_) (fun cdv A outer s H vs Q E hr h=>?_)
  · obtain ⟨a,dx,b,m,nl,ns,rfl,_⟩:=h; rfl
  obtain ⟨a,dx,b,m,nl,ns,rfl,e,ok,hN,hk,q⟩:=h
  refine ⟨_,(R.jk (R.jO (i:=2) zA.nd rfl (Or.inl rfl) (R.jw Jc hr (by first | decide | omega) rfl (R.pa_c (R.Jo K (R.pv 0)) (R.pa_c (R.pv 1) R.jh))))
    (R.jk (R.jO (i:=3) zA.nd rfl (Or.inl rfl) (R.Jo K (R.pv 0)))
    (R.jn (R.jG (R.YF (R.Jp (R.jfg (R.pv 2)) (R.Jp R.jJ (R.Jp (R.jfh (R.pv 3)) R.jas)))))))),?_⟩
  obtain ⟨l1,l2,l3,l4,l5,_⟩:=lens
  have pl:=(qt hN.2.1 b).2
  have ml:=qX ok.2.2.lo ok.2.2.hi
  refine ⟨_,rfl,a,jj,dx,_,nv b,rfl,e,jC.cls,jC.no _ (Jr 0 rfl),rfl,_,rfl,b,nl,ns,rfl,by have:=ok.2.1; omega,hN,hk,fun H1 s1=>?_⟩
  refine ⟨_,rfl,a,jj,dx,_,.int m,rfl,s1 _ _ e,jC.cls,jC.no _ (Jr 1 rfl),rfl,?_⟩
  refine ⟨_,rfl,qp ns b,rfl,sz (by omega),qp ns b,rfl,sz (by rw [strLen_append,Jd]; omega),Str.ofString " for ",rfl,sz (by rw [strLen_append,strLen_append,Jd]; omega),?_⟩
  refine ⟨_,rfl,m,rfl,YZ ok.2.2.lo ok.2.2.hi,Str.ofString (toString m),rfl,sz (by rw [strLen_append,strLen_append,strLen_append,Jd]; omega),sz (by rw [strLen_append,strLen_append,strLen_append,Jd]; omega),?_⟩
  rw [empty_app]
  exact q H1 s1
theorem Zx {f:Addr} {fd:FuncData} (F:Fun K "words" "SoMany.words" Q9 f fd)
    (Jc:jE P w K mg base 3 "place_words" ["bundle", "names"] [] (qi K))
    (jK:Own K mg "Bid" jr [])
    (jC:Own K mg "Only" jj ["bundle", "amount"])
    (jq:Own K mg "SoMany" jc ["kind", "least", "amount"])
    (jB:Own K mg "UpTo" ji ["kind", "most", "each"])
    (ju:Own K mg "Several" jb ["bids"])
    (jy:Own K mg "AnyOf" jd ["bids"])
    (jz:Own K mg "OneOf" je ["bids"])
    (jx:Own K mg "Stock" jf ["numbers", "kinds"]):FnOk P w K mg base CX0 4 f fd ["self", "names"] (ZC K jc):=by
  refine F.okQ Qp (fun vs H Q E h=>?_) (fun cdv A outer s H vs Q E hr h=>?_)
  · obtain ⟨a,dx,k,l,m,nl,ns,rfl,_⟩:=h; rfl
  obtain ⟨a,dx,k,l,m,nl,ns,rfl,e,ok,hN,hk,q⟩:=h
  refine ⟨_,(R.jk (R.jO (i:=2) Qp.nd rfl (Or.inl rfl) (R.jw Jc hr (by first | decide | omega) rfl (R.pa_c (R.Jo K (R.pv 0)) (R.pa_c (R.pv 1) R.jh))))
    (R.jk (R.jO (i:=3) Qp.nd rfl (Or.inl rfl) (R.Jo K (R.pv 0)))
    (R.jk (R.jO (i:=4) Qp.nd rfl (Or.inl rfl) (R.Jo K (R.pv 0)))
    (R.jn (R.jG (R.YF (R.Jp (R.jfh (R.pv 3)) (R.Jp R.jJ (R.Jp (R.jfg (R.pv 2)) (R.Jp R.jJ (R.Jp (R.jfh (R.pv 4)) R.jas))))))))))),?_⟩
  obtain ⟨l1,l2,l3,l4,l5,_⟩:=lens
  have pl:=(qt hN.2.1 k).2
  have ml:=qX ok.2.2.2.2.lo ok.2.2.2.2.hi
  have lo:(0:Int) <= ((l:Nat):Int):=by omega
  have hi:((l:Nat):Int) <= 10 ^ 9:=by have:=ok.2.2.2.1; omega
  have ll:=qX lo hi
  refine ⟨_,rfl,a,jc,dx,_,nv k,rfl,e,jq.cls,jq.no _ (Jr 0 rfl),rfl,_,rfl,k,nl,ns,rfl,by have:=ok.2.1; omega,hN,hk,fun H1 s1=>?_⟩
  refine ⟨_,rfl,a,jc,dx,_,nv l,rfl,s1 _ _ e,jq.cls,jq.no _ (Jr 1 rfl),rfl,?_⟩
  refine ⟨_,rfl,a,jc,dx,_,.int m,rfl,s1 _ _ e,jq.cls,jq.no _ (Jr 2 rfl),rfl,?_⟩
  refine ⟨_,rfl,_,rfl,YZ lo hi,Str.ofString (toString ((l:Nat):Int)),rfl,sz (by rw [strLen_append,Jd]; omega),Str.ofString " of ",rfl,sz (by rw [strLen_append,strLen_append,Jd]; omega),?_⟩
  refine ⟨_,rfl,qp ns k,rfl,sz (by omega),qp ns k,rfl,sz (by rw [strLen_append,strLen_append,strLen_append,Jd]; omega),Str.ofString " for ",rfl,sz (by rw [strLen_append,strLen_append,strLen_append,strLen_append,Jd]; omega),?_⟩
  refine ⟨_,rfl,m,rfl,YZ ok.2.2.2.2.lo ok.2.2.2.2.hi,Str.ofString (toString m),rfl,sz (by rw [strLen_append,strLen_append,strLen_append,strLen_append,strLen_append,Jd]; omega),sz (by rw [strLen_append,strLen_append,strLen_append,strLen_append,strLen_append,Jd]; omega),?_⟩
  rw [empty_app]
  exact q H1 s1
theorem jaR {f:Addr} {fd:FuncData} (F:Fun K "words" "UpTo.words" Yp f fd)
    (Jc:jE P w K mg base 3 "place_words" ["bundle", "names"] [] (qi K))
    (jK:Own K mg "Bid" jr [])
    (jC:Own K mg "Only" jj ["bundle", "amount"])
    (jq:Own K mg "SoMany" jc ["kind", "least", "amount"])
    (jB:Own K mg "UpTo" ji ["kind", "most", "each"])
    (ju:Own K mg "Several" jb ["bids"])
    (jy:Own K mg "AnyOf" jd ["bids"])
    (jz:Own K mg "OneOf" je ["bids"])
    (jx:Own K mg "Stock" jf ["numbers", "kinds"]):FnOk P w K mg base CX0 4 f fd ["self", "names"] (ja1 K ji):=by
  refine F.okQ yH (fun vs H Q E h=>?_) (fun cdv A outer s H vs Q E hr h=>?_)
  · obtain ⟨a,dx,k,l,m,nl,ns,rfl,_⟩:=h; rfl
  obtain ⟨a,dx,k,l,m,nl,ns,rfl,e,ok,hN,hk,q⟩:=h
  refine ⟨_,(R.jk (R.jO (i:=2) yH.nd rfl (Or.inl rfl) (R.jw Jc hr (by first | decide | omega) rfl (R.pa_c (R.Jo K (R.pv 0)) (R.pa_c (R.pv 1) R.jh))))
    (R.jk (R.jO (i:=3) yH.nd rfl (Or.inl rfl) (R.Jo K (R.pv 0)))
    (R.jk (R.jO (i:=4) yH.nd rfl (Or.inl rfl) (R.Jo K (R.pv 0)))
    (R.jn (R.jG (R.YF (R.Jp R.jJ (R.Jp (R.jfh (R.pv 3)) (R.Jp R.jJ (R.Jp (R.jfg (R.pv 2)) (R.Jp R.jJ (R.Jp (R.jfh (R.pv 4)) (R.Jp R.jJ R.jas))))))))))))),?_⟩
  obtain ⟨l1,l2,l3,l4,l5,_⟩:=lens
  have pl:=(qt hN.2.1 k).2
  have ml:=qX ok.2.2.2.2.lo ok.2.2.2.2.hi
  have lo:(0:Int) <= ((l:Nat):Int):=by omega
  have hi:((l:Nat):Int) <= 10 ^ 9:=by have:=ok.2.2.2.1; omega
  have ll:=qX lo hi
  refine ⟨_,rfl,a,ji,dx,_,nv k,rfl,e,jB.cls,jB.no _ (Jr 0 rfl),rfl,_,rfl,k,nl,ns,rfl,by have:=ok.2.1; omega,hN,hk,fun H1 s1=>?_⟩
  refine ⟨_,rfl,a,ji,dx,_,nv l,rfl,s1 _ _ e,jB.cls,jB.no _ (Jr 1 rfl),rfl,?_⟩
  refine ⟨_,rfl,a,ji,dx,_,.int m,rfl,s1 _ _ e,jB.cls,jB.no _ (Jr 2 rfl),rfl,?_⟩
  refine ⟨Str.ofString "up to ",rfl,sz (by rw [strLen_append,Jd]; omega),?_⟩
  refine ⟨_,rfl,_,rfl,YZ lo hi,Str.ofString (toString ((l:Nat):Int)),rfl,sz (by rw [strLen_append,strLen_append,Jd]; omega),Str.ofString " of ",rfl,sz (by rw [strLen_append,strLen_append,strLen_append,Jd]; omega),?_⟩
  refine ⟨_,rfl,qp ns k,rfl,sz (by omega),qp ns k,rfl,sz (by rw [strLen_append,strLen_append,strLen_append,strLen_append,Jd]; omega),Str.ofString " for ",rfl,sz (by rw [strLen_append,strLen_append,strLen_append,strLen_append,strLen_append,Jd]; omega),?_⟩
  refine ⟨_,rfl,m,rfl,YZ ok.2.2.2.2.lo ok.2.2.2.2.hi,Str.ofString (toString m),rfl,sz (by rw [strLen_append,strLen_append,strLen_append,strLen_append,strLen_append,strLen_append,Jd]; omega),Str.ofString " each",rfl,sz (by rw [strLen_append,strLen_append,strLen_append,strLen_append,strLen_append,strLen_append,strLen_append,Jd]; omega),sz (by rw [strLen_append,strLen_append,strLen_append,strLen_append,strLen_append,strLen_append,strLen_append,Jd]; omega),?_⟩
  rw [empty_app]
  exact q H1 s1
theorem jde (K:PySem.W.Frag) {jr jj jc ji jb jd je jf:Addr} {A:Addr->Prop} {H:Hp} {d:Nat} {b:Addr} {t:Tr} {m:Nat} (hb:IsTr jr jj jc ji jd je A H d b t) (few:jV t <= 100) (hm:m <= 6) (hs:Sub (Ja t) m) :
    ∃ (C dx:Addr) (fs:List (Str × V)) (sp:Sp),H b = some (.ins C dx fs) /\ fs.lookup ("words" : Str) = none /\ TWd K jr jj jc ji jb jd je jf d C sp /\ ∀ (H1:Hp) (nl:Addr) (ns:List Str),Same H H1->NmAt K H1 nl ns->m <= ns.length->∀ Q:VK,(∀ H',Same H1 H'->Q (.str (qN ns t)) H')->sp [.ref b,.ref nl] H1 Q E0:=by
  cases d with
  | zero=>exact hb.elim
  | succ d =>
    cases t with
    | leaf f =>
      obtain ⟨ok,hb⟩:=hb
      simp only [jaJ]
      have hth:∀ (ns:List Str),m <= ns.length->∀ x,yc f = x->x <= 63->∀ k ∈ things x,k < ns.length:=fun ns hmn x e hx k hk=>by
        have hs':Sub x m:=by rw [<- e]; exact hs
        have:=jbI m (by omega) x (by omega) hs' k hk
        omega
      cases f with
      | none =>
        obtain ⟨dx,e⟩:=hb
        exact ⟨_,dx,_,_,e,rfl,.inl ⟨rfl,rfl⟩,fun H1 nl ns S hN hmn Q q=>⟨b,.ref nl,rfl,q H1 (Same.refl H1)⟩⟩
      | only x z =>
        obtain ⟨dx,e⟩:=hb
        exact ⟨_,dx,_,_,e,rfl,.inr (.inl ⟨rfl,rfl⟩),fun H1 nl ns S hN hmn Q q=>⟨b,dx,x,z,nl,ns,rfl,S _ _ e,ok,hN,hth ns hmn x rfl ok.2.1,q⟩⟩
      | some x l z =>
        obtain ⟨dx,e⟩:=hb
        exact ⟨_,dx,_,_,e,rfl,.inr (.inr (.inl ⟨rfl,rfl⟩)),fun H1 nl ns S hN hmn Q q=>⟨b,dx,x,l,z,nl,ns,rfl,S _ _ e,ok,hN,hth ns hmn x rfl ok.2.1,q⟩⟩
      | most x l z =>
        obtain ⟨dx,e⟩:=hb
        exact ⟨_,dx,_,_,e,rfl,.inr (.inr (.inr (.inl ⟨rfl,rfl⟩))),fun H1 nl ns S hN hmn Q q=>⟨b,dx,x,l,z,nl,ns,rfl,S _ _ e,ok,hN,hth ns hmn x rfl ok.2.1,q⟩⟩
    | node any ts =>
      have hb':=hb
      obtain ⟨dx,l,bs,e1,e2,e3,e4⟩:=hb
      have few2:jN ts <= 100:=by have:1 + jN ts <= 100:=few; omega
      cases any
      · exact ⟨_,dx,_,_,e1,rfl,.inr (.inr (.inr (.inr (.inr ⟨rfl,rfl⟩)))),fun H1 nl ns S hN hmn Q q=>⟨b,ts,A,nl,ns,m,rfl,IsTr.same S hb',few2,hN,hm,hmn,hs,q⟩⟩
      · exact ⟨_,dx,_,_,e1,rfl,.inr (.inr (.inr (.inr (.inl ⟨rfl,rfl⟩)))),fun H1 nl ns S hN hmn Q q=>⟨b,ts,A,nl,ns,m,rfl,IsTr.same S hb',few2,hN,hm,hmn,hs,q⟩⟩
theorem jaT (d:Nat) {f:Addr} {fd:FuncData} (F:Fun K "list_words" "list_words" QK f fd) (jF:mg "list_words" = some (.ref f))
    (jK:Own K mg "Bid" jr [])
    (jC:Own K mg "Only" jj ["bundle", "amount"])
    (jq:Own K mg "SoMany" jc ["kind", "least", "amount"])
    (jB:Own K mg "UpTo" ji ["kind", "most", "each"])
    (ju:Own K mg "Several" jb ["bids"])
    (jy:Own K mg "AnyOf" jd ["bids"])
    (jz:Own K mg "OneOf" je ["bids"])
    (jx:Own K mg "Stock" jf ["numbers", "kinds"])
    (zf:∀ C sp,TWd K jr jj jc ji jb jd je jf d C sp->∃ ps,J9 P w K mg base (2 * d + 4) C "words" ps sp):jE P w K mg base (2 * d + 5) "list_words" ["bids", "names"] [] (jhj K jr jj jc ji jb jd je jf d):=by
  refine F.jT jF (bnd2 F fun _ _ _ _ _ _ _ _=>rfl) jeg (fun vs H Q E h=>?_) (fun cdv A outer s H vs Q E hr h=>?_)
  · obtain ⟨l,bs,ts,A,nl,ns,m,rfl,_⟩:=h; rfl
  obtain ⟨l,bs,ts,A,nl,ns,m,rfl,hl,hB,few,hN,hm,hmn,hs,q⟩:=h
  have tl:=yd ts
  refine ⟨_,(R.jn (R.jG (R.jbR K R.jJ (R.Jj (jt QK) ["bids", "names"] ["bid"] ["names"] [1] rfl rfl rfl ⟨s.heap.objs.size + 1,rfl⟩ rfl rfl (by decide +kernel) (R.JF (R.pv 0)) (fun C s2 H2 fp=>(R.jP (i:=0) (show List.Nodup (["bid", "names"]:List Str) from by decide +kernel) rfl (Or.inl rfl))) (fun C s2 H2 fp=>R.JK) (fun C s2 H2 fp=>(R.yr (R.pv 0) zf hr (by first | decide | omega) (R.pa_c (R.pv 1) R.jh))))))),?_⟩
  refine ⟨Str.ofString "; ",rfl,_,rfl,l,rfl,⟨_,SqL.of hl⟩,fun l2 h2=>?_⟩
  refine qQ (xs:=bs.map V.ref) (fun k H'=>Same H H' /\ H' l2 = some (.lst (((ts.take k).map (qN ns)).map V.str))) ⟨jA h2 _,jm⟩ (fun k H' _ z=>SqL.of (z.1 _ _ hl)) ?_ ?_
  · rintro k v H1 hv ⟨s1,e1⟩ K1 K0 k1 k0
    obtain ⟨b,t,rfl,hb,ht,ib⟩:=hB.at hv
    have mt:=qG (List.mem_of_getElem? ht)
    obtain ⟨C,dx,ff,sp,g1,g2,g3,g4⟩:=jde K (jb:=jb) (jf:=jf) (ib.same s1) (by omega) hm (hs.mem t (List.mem_of_getElem? ht))
    refine ⟨_,rfl,b,C,dx,ff,sp,rfl,g1,g2,g3,_,rfl,g4 H1 nl ns (Same.refl _) (hN.same s1) hmn _ fun H3 s3=>k1 _ _ _ (s3 _ _ e1) ?_ ⟨(s1.trans s3).upd h2 _,?_⟩⟩
    · rw [List.length_map,List.length_map,List.length_take]; exact Je (by omega)
    · rw [jm,List.take_succ,ht,List.map_append,List.map_append]; rfl
  · rintro H1 ⟨s1,e1⟩
    rw [List.length_map,hB.1,List.take_length] at e1
    have ok:∀ t ∈ ts,okT t:=fun t ht=>by
      obtain ⟨x,hx⟩:=hB.mem ht
      exact IsTr.ok _ hx
    exact ⟨l2,_,rfl,SqL.of e1,(jbX hN.2.1 ok few).1,q H1 s1⟩
theorem jdr (d:Nat) {f:Addr} {fd:FuncData} (F:Fun K "words" "AnyOf.words" yC f fd) (yZ:jE P w K mg base (2 * d + 5) "list_words" ["bids", "names"] [] (jhj K jr jj jc ji jb jd je jf d))
    (jK:Own K mg "Bid" jr [])
    (jC:Own K mg "Only" jj ["bundle", "amount"])
    (jq:Own K mg "SoMany" jc ["kind", "least", "amount"])
    (jB:Own K mg "UpTo" ji ["kind", "most", "each"])
    (ju:Own K mg "Several" jb ["bids"])
    (jy:Own K mg "AnyOf" jd ["bids"])
    (jz:Own K mg "OneOf" je ["bids"])
    (jx:Own K mg "Stock" jf ["numbers", "kinds"]) :
    FnOk P w K mg base CX0 (2 * d + 6) f fd ["self", "names"] (jdN K true jr jj jc ji jb jd je jf (d + 1)):=by
  refine F.okQ YQ (fun vs H Q E h=>?_) (fun cdv A outer s H vs Q E hr h=>?_)
  · obtain ⟨a,ts,A,nl,ns,m,rfl,_⟩:=h; rfl
  obtain ⟨a,ts,A,nl,ns,m,rfl,hT,few,hN,hm,hmn,hs,q⟩:=h
  have ok:=Y4 (yq.mp (IsTr.ok _ hT))
  obtain ⟨dx,l,bs,e1,e2,e3,e4⟩:=hT
  obtain ⟨_,_,_,_,_,l6,l7,l8,l9⟩:=lens
  have jl:=(jbX hN.2.1 ok few).2
  refine ⟨_,(R.jk (R.jO (i:=2) YQ.nd rfl (Or.inl rfl) (R.jw yZ hr (by first | decide | omega) rfl (R.pa_c (R.Jo K (R.pv 0)) (R.pa_c (R.pv 1) R.jh))))
    (R.jn (R.jG (R.YF (R.Jp R.jJ (R.Jp (R.jfg (R.pv 2)) (R.Jp R.jJ R.jas))))))),?_⟩
  refine ⟨_,rfl,a,jd,dx,_,.ref l,rfl,e1,jy.cls,jy.no _ (Jr 0 rfl),rfl,_,rfl,l,bs,ts,A,nl,ns,m,rfl,e3,e4,few,hN,hm,hmn,hs,fun H1 s1=>?_⟩
  refine ⟨Str.ofString "any(",rfl,sz (by rw [strLen_append,Jd]; omega),_,rfl,Txt.join (Str.ofString "; ") (ts.map (qN ns)),rfl,sz (by omega),Txt.join (Str.ofString "; ") (ts.map (qN ns)),rfl,sz (by rw [strLen_append,strLen_append,Jd]; omega),Str.ofString ")",rfl,sz (by rw [strLen_append,strLen_append,strLen_append,Jd]; omega),sz (by rw [strLen_append,strLen_append,strLen_append,Jd]; omega),?_⟩
  rw [empty_app]
  have z:=q H1 s1
  rw [jaK] at z
  exact z
theorem jds (d:Nat) {f:Addr} {fd:FuncData} (F:Fun K "words" "OneOf.words" yD f fd) (yZ:jE P w K mg base (2 * d + 5) "list_words" ["bids", "names"] [] (jhj K jr jj jc ji jb jd je jf d))
    (jK:Own K mg "Bid" jr [])
    (jC:Own K mg "Only" jj ["bundle", "amount"])
    (jq:Own K mg "SoMany" jc ["kind", "least", "amount"])
    (jB:Own K mg "UpTo" ji ["kind", "most", "each"])
    (ju:Own K mg "Several" jb ["bids"])
    (jy:Own K mg "AnyOf" jd ["bids"])
    (jz:Own K mg "OneOf" je ["bids"])
    (jx:Own K mg "Stock" jf ["numbers", "kinds"]) :
    FnOk P w K mg base CX0 (2 * d + 6) f fd ["self", "names"] (jdN K false jr jj jc ji jb jd je jf (d + 1)):=by
  refine F.okQ YS (fun vs H Q E h=>?_) (fun cdv A outer s H vs Q E hr h=>?_)
  · obtain ⟨a,ts,A,nl,ns,m,rfl,_⟩:=h; rfl
  obtain ⟨a,ts,A,nl,ns,m,rfl,hT,few,hN,hm,hmn,hs,q⟩:=h
  have ok:=Y4 (yq.mp (IsTr.ok _ hT))
  obtain ⟨dx,l,bs,e1,e2,e3,e4⟩:=hT
  obtain ⟨_,_,_,_,_,l6,l7,l8,l9⟩:=lens
  have jl:=(jbX hN.2.1 ok few).2
  refine ⟨_,(R.jk (R.jO (i:=2) YS.nd rfl (Or.inl rfl) (R.jw yZ hr (by first | decide | omega) rfl (R.pa_c (R.Jo K (R.pv 0)) (R.pa_c (R.pv 1) R.jh))))
    (R.jn (R.jG (R.YF (R.Jp R.jJ (R.Jp (R.jfg (R.pv 2)) (R.Jp R.jJ R.jas))))))),?_⟩
  refine ⟨_,rfl,a,je,dx,_,.ref l,rfl,e1,jz.cls,jz.no _ (Jr 0 rfl),rfl,_,rfl,l,bs,ts,A,nl,ns,m,rfl,e3,e4,few,hN,hm,hmn,hs,fun H1 s1=>?_⟩
  refine ⟨Str.ofString "one(",rfl,sz (by rw [strLen_append,Jd]; omega),_,rfl,Txt.join (Str.ofString "; ") (ts.map (qN ns)),rfl,sz (by omega),Txt.join (Str.ofString "; ") (ts.map (qN ns)),rfl,sz (by rw [strLen_append,strLen_append,Jd]; omega),Str.ofString ")",rfl,sz (by rw [strLen_append,strLen_append,strLen_append,Jd]; omega),sz (by rw [strLen_append,strLen_append,strLen_append,Jd]; omega),?_⟩
  rw [empty_app]
  have z:=q H1 s1
  rw [jaK] at z
  exact z
theorem jgk {f1 f2 f3 f4 f5 f6 f7:Addr} {d1 d2 d3 d4 d5 d6 d7:FuncData} (F1:Fun K "words" "Bid.words" Y8 f1 d1) (F2:Fun K "words" "Only.words" Ym f2 d2) (F3:Fun K "words" "SoMany.words" Q9 f3 d3) (F4:Fun K "words" "UpTo.words" Yp f4 d4)
    (F5:Fun K "words" "AnyOf.words" yC f5 d5) (F6:Fun K "words" "OneOf.words" yD f6 d6) (F7:Fun K "list_words" "list_words" QK f7 d7) (g7:mg "list_words" = some (.ref f7))
    (Jc:jE P w K mg base 3 "place_words" ["bundle", "names"] [] (qi K))
    (jK:Own K mg "Bid" jr [])
    (jC:Own K mg "Only" jj ["bundle", "amount"])
    (jq:Own K mg "SoMany" jc ["kind", "least", "amount"])
    (jB:Own K mg "UpTo" ji ["kind", "most", "each"])
    (ju:Own K mg "Several" jb ["bids"])
    (jy:Own K mg "AnyOf" jd ["bids"])
    (jz:Own K mg "OneOf" je ["bids"])
    (jx:Own K mg "Stock" jf ["numbers", "kinds"])
    (M1:Meth K jr "words" f1) (M2:Meth K jj "words" f2) (M3:Meth K jc "words" f3) (M4:Meth K ji "words" f4) (M5:Meth K jd "words" f5) (M6:Meth K je "words" f6) :
    ∀ d,∀ C sp,TWd K jr jj jc ji jb jd je jf d C sp->∃ ps,J9 P w K mg base (2 * d + 4) C "words" ps sp:=by
  have l1:=jbn (P:=P) (w:=w) (base:=base) (mg:=mg) F1 jK jC jq jB ju jy jz jx
  have l2:=jaQ (P:=P) (w:=w) (base:=base) (mg:=mg) F2 Jc jK jC jq jB ju jy jz jx
  have l3:=Zx (P:=P) (w:=w) (base:=base) (mg:=mg) F3 Jc jK jC jq jB ju jy jz jx
  have l4:=jaR (P:=P) (w:=w) (base:=base) (mg:=mg) F4 Jc jK jC jq jB ju jy jz jx
  have b1:Binds K d1 ["self", "names"] []:=bnd2 F1 fun _ _ _ _ _ _ _ _=>rfl
  have b2:Binds K d2 ["self", "names"] []:=bnd2 F2 fun _ _ _ _ _ _ _ _=>rfl
  have b3:Binds K d3 ["self", "names"] []:=bnd2 F3 fun _ _ _ _ _ _ _ _=>rfl
  have b4:Binds K d4 ["self", "names"] []:=bnd2 F4 fun _ _ _ _ _ _ _ _=>rfl
  have b5:Binds K d5 ["self", "names"] []:=bnd2 F5 fun _ _ _ _ _ _ _ _=>rfl
  have b6:Binds K d6 ["self", "names"] []:=bnd2 F6 fun _ _ _ _ _ _ _ _=>rfl
  have put:∀ d,FnOk P w K mg base CX0 (2 * d + 4) f5 d5 ["self", "names"] (jdN K true jr jj jc ji jb jd je jf d)->FnOk P w K mg base CX0 (2 * d + 4) f6 d6 ["self", "names"] (jdN K false jr jj jc ji jb jd je jf d)->∀ C sp,TWd K jr jj jc ji jb jd je jf d C sp->∃ ps,J9 P w K mg base (2 * d + 4) C "words" ps sp:=by
    intro d h5 h6 C sp hT
    rcases hT with ⟨rfl,rfl⟩ | ⟨rfl,rfl⟩ | ⟨rfl,rfl⟩ | ⟨rfl,rfl⟩ | ⟨rfl,rfl⟩ | ⟨rfl,rfl⟩
    · exact ⟨_,f1,d1,l1.mono (by omega),b1,M1,jK.cls⟩
    · exact ⟨_,f2,d2,l2.mono (by omega),b2,M2,jC.cls⟩
    · exact ⟨_,f3,d3,l3.mono (by omega),b3,M3,jq.cls⟩
    · exact ⟨_,f4,d4,l4.mono (by omega),b4,M4,jB.cls⟩
    · exact ⟨_,f5,d5,h5,b5,M5,jy.cls⟩
    · exact ⟨_,f6,d6,h6,b6,M6,jz.cls⟩
  intro d
  induction d with
  | zero =>
    refine put 0 (F5.okQ YQ (fun vs H Q E h=>?_) (fun cdv A outer s H vs Q E hr h=>?_)) (F6.okQ YS (fun vs H Q E h=>?_) (fun cdv A outer s H vs Q E hr h=>?_))
    · obtain ⟨a,ts,A,nl,ns,m,rfl,_⟩:=h; rfl
    · obtain ⟨a,ts,A,nl,ns,m,rfl,hT,_⟩:=h; exact hT.elim
    · obtain ⟨a,ts,A,nl,ns,m,rfl,_⟩:=h; rfl
    · obtain ⟨a,ts,A,nl,ns,m,rfl,hT,_⟩:=h; exact hT.elim
  | succ d ih =>
    have D:=jaT d F7 g7 jK jC jq jB ju jy jz jx ih
    exact put (d + 1) (jdr d F5 D jK jC jq jB ju jy jz jx) (jds d F6 D jK jC jq jB ju jy jz jx)
end
end My
set_option Elab.async false
set_option linter.all false
set_option maxRecDepth 100000
set_option maxHeartbeats 4000000
namespace My
open PySem PySem.Spec PyProof.Rows L2 GM
noncomputable def ji3 (K:PySem.W.Frag) (jr jj jc ji jb jd je jf:Addr):Addr->Sp->Prop:=fun C sp=>(C = jf /\ sp = YW K jf)
theorem bits_are:∀ b < 64,∀ k < 6,decide (b / 2 ^ k &&& 1 = 1) = b.testBit k:=by decide +kernel
theorem sub_le:∀ m < 7,∀ b < 64,b <= 2 ^ m - 1->b ||| (2 ^ m - 1) = 2 ^ m - 1:=by decide +kernel
theorem jjN (ns:List (List Nat)):ns.map sv = (ns.map tx).map V.str:=by rw [List.map_map]; rfl
theorem jhO {K:PySem.W.Frag} {H:Hp} {l:Addr} {ns:List (List Nat)} (h:H l = some (.lst (ns.map sv))) (ok:∀ n ∈ ns,JH n = true) (few:ns.length <= 6):NmAt K H l (ns.map tx):=by
  refine ⟨SqL.of (by rw [<- jjN]; exact h),fun x hx=>?_,by rw [List.length_map]; omega⟩
  obtain ⟨n,hn,rfl⟩:=List.mem_map.mp hx
  have:=jdw (ok n hn)
  rw [Ju]; omega
noncomputable def jbF (K:PySem.W.Frag) (jr jj jc ji jb jd je jf:Addr):Sp:=fun vs H Q _=>∃ (b a:Addr) (t:Tr) (A:Addr->Prop) (ns ks:List (List Nat)),vs = [.ref b,.ref a] /\ IsTr jr jj jc ji jd je A H 5 b t /\ jV t <= 100 /\ JC jf H a ns ks /\ Sub (Ja t) ns.length /\ ∀ H',Same H H'->Q (.str (qN (ns.map tx) t)) H'
noncomputable def jdP (_K:PySem.W.Frag):Sp:=fun vs H Q _=>∃ (c d:Int) (m:Nat),vs = [.int c,.int d,nv (2 ^ m - 1)] /\ m <= 6 /\ ∀ p H' t,Same H H'->j7 t = 1->jV t = 1->FT (fun l=>H l = none) H' 1 p t->Sub (Ja t) m->Q (.ref p) H'
noncomputable def jcG (K:PySem.W.Frag):Sp:=qi K
noncomputable def spTxt (K:PySem.W.Frag) (d:Nat):Sp:=fun vs H Q _=>∃ (p:Addr) (t:Tr) (A:Addr->Prop) (nl:Addr) (ns:List Str) (m:Nat),vs = [.ref p,.ref nl] /\ FT A H d p t /\ jV t <= 100 /\ NmAt K H nl ns /\ m <= 6 /\ m <= ns.length /\ Sub (Ja t) m /\ ∀ H',Same H H'->Q (.str (qN ns t)) H'
noncomputable def jgH (K:PySem.W.Frag):Sp:=spTxt K 4
noncomputable def jdO (K:PySem.W.Frag):Sp:=fun vs H Q _=>∃ (a:Addr) (sc:List Int) (m:Nat),vs = [.ref a,nv (2 ^ m - 1)] /\ SqL K H a (sc.map V.int) /\ m <= 6 /\ ∀ p H' t,Same H H'->FT (fun _=>True) H' 4 p t->j7 t <= 4->jV t <= 24->Sub (Ja t) m->Q (.ref p) H'
section
variable {P:Program} {w:World} {K:PySem.W.Frag} {mg:Str->Option Value} {base:Heap}
variable {jr jj jc ji jb jd je jf:Addr}
theorem jfc {f:Addr} {fd:FuncData} (F:Fun K "shown_bid" "shown_bid" ZM f fd) (jF:mg "shown_bid" = some (.ref f))
    (jK:Own K mg "Bid" jr [])
    (jC:Own K mg "Only" jj ["bundle", "amount"])
    (jq:Own K mg "SoMany" jc ["kind", "least", "amount"])
    (jB:Own K mg "UpTo" ji ["kind", "most", "each"])
    (ju:Own K mg "Several" jb ["bids"])
    (jy:Own K mg "AnyOf" jd ["bids"])
    (jz:Own K mg "OneOf" je ["bids"])
    (jx:Own K mg "Stock" jf ["numbers", "kinds"])
    (zf:∀ C sp,ji4 K jr jj jc ji jb jd je jf C sp->∃ ps,J9 P w K mg base 14 C "words" ps sp)
    (je3:∀ C sp,ji3 K jr jj jc ji jb jd je jf C sp->∃ ps,J9 P w K mg base 1 C "names" ps sp):jE P w K mg base 15 "shown_bid" ["bid", "stock"] [] (jbF K jr jj jc ji jb jd je jf):=by
  refine F.jT jF (bnd2 F fun _ _ _ _ _ _ _ _=>rfl) jfG (fun vs H Q E h=>?_) (fun cdv A outer s H vs Q E hr h=>?_)
  · obtain ⟨b,a,t,A,ns,ks,rfl,_⟩:=h; rfl
  obtain ⟨b,a,t,A,ns,ks,rfl,hT,few,hSt,hs,q⟩:=h
  refine ⟨_,(R.jn (R.jG (R.yr (R.pv 0) zf hr (by first | decide | omega) (R.pa_c (R.Q6 (R.pv 1) je3 hr (by first | decide | omega)) R.jh)))),?_⟩
  have hG:=hSt
  obtain ⟨dx,d1,d2,kk,e1,e2,e3,e4,e5,g6,gok,gnd,gko⟩:=hG
  obtain ⟨C,dx',ff,sp,g1,g2,g3,g4⟩:=jde K (jb:=jb) (jf:=jf) hT few g6 hs
  refine ⟨_,rfl,b,C,dx',ff,sp,rfl,g1,g2,g3,_,rfl,a,jf,dx,_,YW K jf,rfl,e1,rfl,⟨rfl,rfl⟩,a,ns,ks,rfl,hSt,fun l hl=>?_⟩
  have s1:=jA hl (.lst (ns.map sv))
  exact g4 _ l (ns.map tx) s1 (jhO jm gok g6) (by rw [List.length_map]; exact Nat.le_refl _) _ fun H' s'=>q H' (s1.trans s')
theorem jiD {f:Addr} {fd:FuncData} (F:Fun K "_law_place" "_law_place" jbU f fd) (jF:mg "_law_place" = some (.ref f)) (jQ:mg "range" = none):jE P w K mg base 1 "_law_place" ["_law_bundle", "_law_names_here"] [] (jcG K):=by
  refine F.jT jF (bnd2 F fun _ _ _ _ _ _ _ _=>rfl) jiK (fun vs H Q E h=>?_) (fun cdv A outer s H vs Q E hr h=>?_)
  · obtain ⟨b,nl,ns,rfl,_⟩:=h; rfl
  obtain ⟨b,nl,ns,rfl,hb,hN,hk,q⟩:=h
  refine ⟨_,(R.jn (R.jG (R.jbR K R.jJ (R.Jj (jt jbU) ["_law_bundle", "_law_names_here"] ["_law_k"] ["_law_bundle", "_law_names_here"] [0,1] rfl rfl rfl ⟨s.heap.objs.size + 1,rfl⟩ rfl rfl (by decide +kernel) (R.Ji rfl jQ (R.pa_c R.jg R.jh)) (fun C s2 H2 fp=>(R.jP (i:=0) (show List.Nodup (["_law_k", "_law_bundle", "_law_names_here"]:List Str) from by decide +kernel) rfl (Or.inl rfl))) (fun C s2 H2 fp=>(R.jha (R.jR JN (R.jD jbP (R.jD op_shrN (R.pv 1) (R.pv 0)) R.jg) R.jg (jZ _)))) (fun C s2 H2 fp=>(R.jX (R.ixL K) (R.pv 2) (R.pv 0) (fun _ _=>rfl))))))),?_⟩
  refine ⟨Str.ofString "+",rfl,6,rfl,by decide,by decide,fun l2 h2=>?_⟩
  refine JD (n:=6) (lo:=0) (fun k=>b.testBit k) (fun k=>.str (ns.getD k Str.empty)) (by decide) h2 ?_ ?_ ?_
  · intro k H1 hk6 s1 C hC
    rw [Int.zero_add]
    have z:=hC H1 (Same.refl _)
    refine ⟨_,rfl,_,rfl,b,k,rfl,rfl,_,1,rfl,rfl,rfl,_,rfl,?_⟩
    rw [<- bits_are b hb k hk6] at z
    rw [show decide (V.int ((b / 2 ^ k &&& 1:Nat):Int) = V.int 1) = decide (b / 2 ^ k &&& 1 = 1) from jav (b:=1)]
    exact z
  · intro k H1 hk6 hp s1 C hC
    rw [Int.zero_add]
    have hm:k ∈ things b:=List.mem_filter.mpr ⟨List.mem_range.mpr hk6,hp⟩
    exact ⟨_,rfl,_,rfl,nl,_,_,_,rfl,rfl,(hN.same s1).1,jgm (hk k hm),hC _ (Same.refl _)⟩
  · intro H1 s1 e1
    have em:(((List.range 6).filter fun k=>b.testBit k).map fun k=>V.str (ns.getD k Str.empty)) = ((things b).map fun k=>ns.getD k Str.empty).map V.str:=by
      rw [List.map_map]; rfl
    rw [em] at e1
    exact ⟨l2,_,rfl,SqL.of e1,(qt hN.2.1 b).1,q H1 s1⟩
theorem jjT {f:Addr} {fd:FuncData} (F:Fun K "_law_leaf" "_law_leaf" jfu f fd) (jF:mg "_law_leaf" = some (.ref f))
    (jce:jE P w K mg base 1 "_law_amount" ["_law_cell_here"] [] (jd0 K)):jE P w K mg base 2 "_law_leaf" ["_law_cell_here", "_law_other", "_law_last"] [] (jdP K):=by
  refine F.jT jF (bnd3 F fun _ _ _ _ _ _ _ _ _=>rfl) jgB (fun vs H Q E h=>?_) (fun cdv A outer s H vs Q E hr h=>?_)
  · obtain ⟨c,d,m,rfl,_⟩:=h; rfl
  obtain ⟨c,d,m,rfl,hm6,q⟩:=h
  refine ⟨_,(R.jk (R.jO (i:=3) jgB.nd rfl (Or.inl rfl) (R.jX (R.ixL K) (R.Jz (R.pa_c R.jJ (R.pa_c R.jJ (R.pa_c R.jJ (R.pa_c R.jJ (R.pa_c R.jJ (R.pa_c R.jJ (R.pa_c R.jJ (R.pa_c R.jJ (R.pa_c R.jJ R.jh)))))))))) (R.jD (opE Jk) (R.pv 0) R.jg) (fun _ _=>rfl)))
    (R.jk (R.j8 (R.jR jdW (R.jD (opE Jk) (R.pv 0) R.jg) R.jg (jZ _)) (R.jn (R.jG (R.yI (R.pa_c (R.pv 3) (R.pa_c (R.Jz R.jh) R.jh))))) R.jL)
    (R.jk (R.j8 (R.jR JN (R.pv 2) R.jg (jZ _)) (R.jn (R.jG (R.yI (R.pa_c R.jJ (R.pa_c R.jg (R.pa_c R.jg (R.pa_c R.jg R.jh))))))) R.jL)
    (R.jn (R.jG (R.yI (R.pa_c (R.pv 3) (R.pa_c (R.jD (opE0 Jy) R.jg (R.jD (opE Jk) (R.jD Ql (R.pv 0) R.jg) (R.pv 2))) (R.pa_c (R.jD (opE0 Jy) R.jg (R.jD (opE Jk) (R.jD Ql (R.pv 0) R.jg) R.jg)) (R.pa_c (R.jw jce hr (by first | decide | omega) rfl (R.pa_c (R.pv 1) R.jh)) R.jh)))))))))),?_⟩
  obtain ⟨f64,fpos⟩:=pow6 hm6
  obtain ⟨z,ez,hz⟩:=qO c 9 (by decide)
  obtain ⟨n,en,hn⟩:=qO (c / 567) 6 (by decide)
  refine ⟨(by show 9 <= sizeLine; decide),fun l hl=>?_⟩
  have s1:=jA hl (.lst [V.str "none",.str "only",.str "some",.str "most",.str "only",.str "some",.str "most",.str "any",.str "one"])
  obtain ⟨wd,ew,hf⟩:∃ wd:Str,atI [V.str "none",.str "only",.str "some",.str "most",.str "only",.str "some",.str "most",.str "any",.str "one"] (z:Int) = some (.str wd) /\ ((z <= 6 /\ ∀ b:Nat,1 + b <= 63->∃ f,wd = word f /\ Qk f /\ Fits f (1 + b) (1 + n) (ql d) /\ (yc f = 0 ∨ yc f = 1 + b)) ∨ (6 < z /\ ∃ any,wd = qe any)):=by
    have am:jex (ql d):=⟨jd2 d,jhs d⟩
    have o1:∀ b:Nat,1 + b <= 63->∃ f,("only" : Str) = word f /\ Qk f /\ Fits f (1 + b) (1 + n) (ql d) /\ (yc f = 0 ∨ yc f = 1 + b):=fun b hb=>⟨.only (1 + b) (ql d),rfl,⟨by omega,by omega,am⟩,⟨rfl,rfl⟩,.inr rfl⟩
    have o2:∀ b:Nat,1 + b <= 63->∃ f,("some" : Str) = word f /\ Qk f /\ Fits f (1 + b) (1 + n) (ql d) /\ (yc f = 0 ∨ yc f = 1 + b):=fun b hb=>⟨.some (1 + b) (1 + n) (ql d),rfl,⟨by omega,by omega,by omega,by omega,am⟩,⟨rfl,rfl,rfl⟩,.inr rfl⟩
    have o3:∀ b:Nat,1 + b <= 63->∃ f,("most" : Str) = word f /\ Qk f /\ Fits f (1 + b) (1 + n) (ql d) /\ (yc f = 0 ∨ yc f = 1 + b):=fun b hb=>⟨.most (1 + b) (1 + n) (ql d),rfl,⟨by omega,by omega,by omega,by omega,am⟩,⟨rfl,rfl,rfl⟩,.inr rfl⟩
    rcases (by omega:z = 0 ∨ z = 1 ∨ z = 2 ∨ z = 3 ∨ z = 4 ∨ z = 5 ∨ z = 6 ∨ z = 7 ∨ z = 8) with e | e | e | e | e | e | e | e | e <;> subst e
    · exact ⟨_,rfl,.inl ⟨by decide,fun b _=>⟨.none,rfl,trivial,trivial,.inl rfl⟩⟩⟩
    · exact ⟨_,rfl,.inl ⟨by decide,o1⟩⟩
    · exact ⟨_,rfl,.inl ⟨by decide,o2⟩⟩
    · exact ⟨_,rfl,.inl ⟨by decide,o3⟩⟩
    · exact ⟨_,rfl,.inl ⟨by decide,o1⟩⟩
    · exact ⟨_,rfl,.inl ⟨by decide,o2⟩⟩
    · exact ⟨_,rfl,.inl ⟨by decide,o3⟩⟩
    · exact ⟨_,rfl,.inr ⟨by decide,true,rfl⟩⟩
    · exact ⟨_,rfl,.inr ⟨by decide,false,rfl⟩⟩
  have s0:L2.Sub 0 m:=by unfold L2.Sub; rw [Nat.zero_or]
  refine ⟨_,rfl,_,_,nv z,rfl,rfl,(by show (0:Int) < 9; decide),congrArg V.int ez,l,_,_,_,rfl,rfl,SqL.of jm,ew,?_⟩
  refine ⟨_,rfl,_,_,nv z,rfl,rfl,(by show (0:Int) < 9; decide),congrArg V.int ez,_,_,rfl,rfl,_,rfl,?_⟩
  refine ite2 (fun cw=>?_) (fun cw=>?_)
  · have c':(6:Int) < (z:Int):=of_decide_eq_true cw
    rcases hf with ⟨h6,_⟩ | ⟨_,any,rfl⟩
    · omega
    refine ⟨_,rfl,(by show 0 <= sizeLine; decide),fun l2 hl2=>⟨(by show 2 <= sizeLine; decide),fun p hp=>?_⟩⟩
    refine q p _ (.node any []) ((s1.trans (jA hl2 _)).trans (jA hp _)) rfl rfl ⟨l2,[],jm,s1.free hl2,?_,All2.nil⟩ s0
    exact jA hp _ _ _ jm
  · rcases hf with ⟨h6,hf⟩ | ⟨h6,_⟩
    · refine ⟨_,rfl,rfl,_,rfl,?_⟩
      by_cases hm0:2 ^ m - 1 = 0
      · rw [show decide (nv (2 ^ m - 1) = V.int 0) = true from decide_eq_true (by rw [hm0]; rfl)]
        refine iteT ⟨(by show 4 <= sizeLine; decide),fun p hp=>?_⟩
        exact q p _ (.leaf .none) (s1.trans (jA hp _)) rfl rfl ⟨trivial,0,1,0,jm,by decide,trivial⟩ s0
      rw [show decide (nv (2 ^ m - 1) = V.int 0) = false from decide_eq_false (fun y=>hm0 (by have:=V.int.inj y; omega))]
      refine iteF ?_
      obtain ⟨b,eb,hb⟩:=qO (c / 9) (2 ^ m - 1) (by omega)
      obtain ⟨f,rfl,ok,fit,hsp⟩:=hf b (by omega)
      refine ⟨_,rfl,_,rfl,_,_,rfl,rfl,⟨by decide,by decide⟩,_,rfl,_,_,nv b,rfl,rfl,(by show (0:Int) < ((2 ^ m - 1:Nat):Int); omega),congrArg V.int eb,_,_,nv (1 + b),rfl,rfl,rfl,?_⟩
      refine ⟨_,rfl,_,_,rfl,rfl,⟨by decide,by decide⟩,_,_,nv n,rfl,rfl,(by show (0:Int) < 6; decide),congrArg V.int en,_,_,nv (1 + n),rfl,rfl,rfl,_,rfl,d,rfl,(by show 4 <= sizeLine; decide),fun p hp=>?_⟩
      refine q p _ (.leaf f) (s1.trans (jA hp _)) rfl rfl ⟨ok,1 + b,1 + n,ql d,jm,by omega,fit⟩ ?_
      show Sub (yc f) m
      rcases hsp with e | e <;> rw [e]
      · exact s0
      · exact sub_le m (by omega) (1 + b) (by omega) (by omega)
    · exact absurd (decide_eq_true (show (6:Int) < (z:Int) by omega)) cw
end
end My
set_option Elab.async false
set_option linter.all false
set_option maxRecDepth 100000
set_option maxHeartbeats 4000000
namespace My
open PySem PySem.Spec PyProof.Rows L2 GM
theorem jkb (any:Bool):qe any ++ Str.ofString "(" = jhI any:=by cases any <;> decide
theorem word_len (any:Bool):(qe any).length = 3:=by cases any <;> rfl
theorem jg6:(Str.ofString "(").length = 1:=rfl
theorem jbG (ts:List Tr) (t:Tr):Jg (ts ++ [t]) = Jg ts ||| Ja t:=by
  rw [QV]; show _ ||| (Ja t ||| 0) = _; rw [Nat.or_zero]
theorem Sub.or2 {x y m:Nat} (h1:L2.Sub x m) (h2:L2.Sub y m):L2.Sub (x ||| y) m:=by
  unfold L2.Sub at *
  rw [Nat.or_assoc,h2,h1]
section
variable {P:Program} {w:World} {K:PySem.W.Frag} {mg:Str->Option Value} {base:Heap}
theorem jjW (d:Nat) {f:Addr} {fd:FuncData} (F:Fun K "_law_text" "_law_text" jbx f fd) (jF:mg "_law_text" = some (.ref f)) (YB:mg "str" = none)
    (ZW:jE P w K mg base 1 "_law_place" ["_law_bundle", "_law_names_here"] [] (jcG K)) (zc:jE P w K mg base (8 + d) "_law_text" ["_law_form_here", "_law_names_here"] [] (spTxt K d)):jE P w K mg base (8 + d + 1) "_law_text" ["_law_form_here", "_law_names_here"] [] (spTxt K (d + 1)):=by
  refine F.jT jF (bnd2 F fun _ _ _ _ _ _ _ _=>rfl) jdE (fun vs H Q E h=>?_) (fun cdv A outer s H vs Q E hr h=>?_)
  · obtain ⟨p,t,A,nl,ns,m,rfl,_⟩:=h; rfl
  obtain ⟨p,t,A,nl,ns,m,rfl,hF,few,hN,hm,hmn,hs,q⟩:=h
  refine ⟨_,(R.jk (R.j8 (R.jR JN (R.jX (R.ixT K) (R.pv 0) R.jg (fun _ _=>rfl)) R.jJ (jZ _)) (R.jn (R.jG R.jJ)) R.jL)
    (R.jk (R.j8 (R.jR jjY (R.jX (R.ixT K) (R.pv 0) R.jg (fun _ _=>rfl)) (R.yI (R.pa_c R.jJ (R.pa_c R.jJ R.jh))) (by with_unfolding_all rfl)) (R.jn (R.jG (R.jD Jh (R.jD Jh (R.jD Jh (R.jX (R.ixT K) (R.pv 0) R.jg (fun _ _=>rfl)) R.jJ) (R.jbR K R.jJ (R.Jj (jt jbx) ["_law_form_here", "_law_names_here", "_law_place_here"] ["_law_part"] ["_law_names_here"] [1] rfl rfl rfl ⟨s.heap.objs.size + 1,rfl⟩ rfl rfl (by decide +kernel) (R.JF (R.jX (R.ixT K) (R.pv 0) R.jg (fun _ _=>rfl))) (fun C s2 H2 fp=>(R.jP (i:=0) (show List.Nodup (["_law_part", "_law_names_here"]:List Str) from by decide +kernel) rfl (Or.inl rfl))) (fun C s2 H2 fp=>R.JK) (fun C s2 H2 fp=>(R.jw zc hr (by first | decide | omega) rfl (R.pa_c (R.pv 0) (R.pa_c (R.pv 1) R.jh))))))) R.jJ))) R.jL)
    (R.jk (R.jO (i:=2) jdE.nd rfl (Or.inl rfl) (R.jw ZW hr (by first | decide | omega) rfl (R.pa_c (R.jX (R.ixT K) (R.pv 0) R.jg (fun _ _=>rfl)) (R.pa_c (R.pv 1) R.jh))))
    (R.jk (R.j8 (R.jR JN (R.jX (R.ixT K) (R.pv 0) R.jg (fun _ _=>rfl)) R.jJ (jZ _)) (R.jn (R.jG (R.jD Jh (R.jD Jh (R.pv 2) R.jJ) (R.YD Yc rfl YB (boot_str) (R.pa_c (R.jX (R.ixT K) (R.pv 0) R.jg (fun _ _=>rfl)) R.jh))))) R.jL)
    (R.jk (R.j8 (R.jR JN (R.jX (R.ixT K) (R.pv 0) R.jg (fun _ _=>rfl)) R.jJ (jZ _)) (R.jn (R.jG (R.jD Jh (R.jD Jh (R.jD Jh (R.jD Jh (R.YD Yc rfl YB (boot_str) (R.pa_c (R.jX (R.ixT K) (R.pv 0) R.jg (fun _ _=>rfl)) R.jh)) R.jJ) (R.pv 2)) R.jJ) (R.YD Yc rfl YB (boot_str) (R.pa_c (R.jX (R.ixT K) (R.pv 0) R.jg (fun _ _=>rfl)) R.jh))))) R.jL)
    (R.jn (R.jG (R.jD Jh (R.jD Jh (R.jD Jh (R.jD Jh (R.jD Jh (R.jD Jh R.jJ (R.YD Yc rfl YB (boot_str) (R.pa_c (R.jX (R.ixT K) (R.pv 0) R.jg (fun _ _=>rfl)) R.jh))) R.jJ) (R.pv 2)) R.jJ) (R.YD Yc rfl YB (boot_str) (R.pa_c (R.jX (R.ixT K) (R.pv 0) R.jg (fun _ _=>rfl)) R.jh))) R.jJ)))))))),?_⟩
  obtain ⟨n1,n2,n3,n4,n5,n6,n7,n8,n9⟩:=lens
  cases t with
  | leaf f =>
    obtain ⟨okf,k0,l0,z0,hp,h63,fit⟩:=hF
    simp only [jaJ] at q
    have hth:∀ x,yc f = x->x <= 63->∀ k ∈ things x,k < ns.length:=fun x e hx k hk=>by
      have hs':L2.Sub x m:=by rw [<- e]; exact hs
      have:=jbI m (by omega) x (by omega) hs' k hk
      omega
    cases f with
    | none=>exact ⟨_,rfl,p,_,_,_,rfl,rfl,SqT.of hp,rfl,rfl,_,rfl,iteT (q H (Same.refl H))⟩
    | only b z =>
      obtain ⟨rfl,rfl⟩:=fit
      obtain ⟨b1,b2,hz⟩:=okf
      have pl:=(qt hN.2.1 b).2
      have zl:=qX hz.lo hz.hi
      refine ⟨_,rfl,p,_,_,_,rfl,rfl,SqT.of hp,rfl,rfl,_,rfl,iteF ?_⟩
      refine ⟨_,rfl,p,_,_,_,rfl,rfl,SqT.of hp,rfl,(by show 2 <= sizeLine; decide),fun tt htt=>⟨tt,_,rfl,.inr (SqT.of jm),rfl,rfl,_,rfl,iteF ?_⟩⟩
      have s1:=jA htt (.tup [V.str "any",V.str "one"])
      refine ⟨_,rfl,p,_,_,_,rfl,rfl,SqT.of (s1 _ _ hp),rfl,_,rfl,b,nl,ns,rfl,by omega,hN.same s1,hth b rfl b2,fun H2 s2=>?_⟩
      have hp2:=s2 _ _ (s1 _ _ hp)
      refine ⟨_,rfl,p,_,_,_,rfl,rfl,SqT.of hp2,rfl,rfl,_,rfl,iteT ?_⟩
      refine ⟨_,rfl,qp ns b,Str.ofString " for ",rfl,rfl,sz (by omega),_,rfl,p,_,_,_,rfl,rfl,SqT.of hp2,rfl,z,rfl,YZ hz.lo hz.hi,_,Str.ofString (toString z),rfl,rfl,sz (by rw [strLen_append]; omega),?_⟩
      exact q H2 (s1.trans s2)
    | some b l z =>
      obtain ⟨rfl,rfl,rfl⟩:=fit
      obtain ⟨b1,b2,c1,c2,hz⟩:=okf
      have pl:=(qt hN.2.1 b).2
      have zl:=qX hz.lo hz.hi
      have lo:(0:Int) <= ((l:Nat):Int):=by omega
      have hi:((l:Nat):Int) <= 10 ^ 9:=by omega
      have ll:=qX lo hi
      refine ⟨_,rfl,p,_,_,_,rfl,rfl,SqT.of hp,rfl,rfl,_,rfl,iteF ?_⟩
      refine ⟨_,rfl,p,_,_,_,rfl,rfl,SqT.of hp,rfl,(by show 2 <= sizeLine; decide),fun tt htt=>⟨tt,_,rfl,.inr (SqT.of jm),rfl,rfl,_,rfl,iteF ?_⟩⟩
      have s1:=jA htt (.tup [V.str "any",V.str "one"])
      refine ⟨_,rfl,p,_,_,_,rfl,rfl,SqT.of (s1 _ _ hp),rfl,_,rfl,b,nl,ns,rfl,by omega,hN.same s1,hth b rfl b2,fun H2 s2=>?_⟩
      have hp2:=s2 _ _ (s1 _ _ hp)
      refine ⟨_,rfl,p,_,_,_,rfl,rfl,SqT.of hp2,rfl,rfl,_,rfl,iteF ?_⟩
      refine ⟨_,rfl,p,_,_,_,rfl,rfl,SqT.of hp2,rfl,rfl,_,rfl,iteT ?_⟩
      refine ⟨_,rfl,p,_,_,_,rfl,rfl,SqT.of hp2,rfl,_,rfl,YZ lo hi,Str.ofString (toString ((l:Nat):Int)),Str.ofString " of ",rfl,rfl,sz (by omega),?_⟩
      refine ⟨_,rfl,_,qp ns b,rfl,rfl,sz (by rw [strLen_append]; omega),_,Str.ofString " for ",rfl,rfl,sz (by rw [strLen_append,strLen_append]; omega),?_⟩
      refine ⟨_,rfl,p,_,_,_,rfl,rfl,SqT.of hp2,rfl,z,rfl,YZ hz.lo hz.hi,_,Str.ofString (toString z),rfl,rfl,sz (by rw [strLen_append,strLen_append,strLen_append]; omega),?_⟩
      exact q H2 (s1.trans s2)
    | most b l z =>
      obtain ⟨rfl,rfl,rfl⟩:=fit
      obtain ⟨b1,b2,c1,c2,hz⟩:=okf
      have pl:=(qt hN.2.1 b).2
      have zl:=qX hz.lo hz.hi
      have lo:(0:Int) <= ((l:Nat):Int):=by omega
      have hi:((l:Nat):Int) <= 10 ^ 9:=by omega
      have ll:=qX lo hi
      refine ⟨_,rfl,p,_,_,_,rfl,rfl,SqT.of hp,rfl,rfl,_,rfl,iteF ?_⟩
      refine ⟨_,rfl,p,_,_,_,rfl,rfl,SqT.of hp,rfl,(by show 2 <= sizeLine; decide),fun tt htt=>⟨tt,_,rfl,.inr (SqT.of jm),rfl,rfl,_,rfl,iteF ?_⟩⟩
      have s1:=jA htt (.tup [V.str "any",V.str "one"])
      refine ⟨_,rfl,p,_,_,_,rfl,rfl,SqT.of (s1 _ _ hp),rfl,_,rfl,b,nl,ns,rfl,by omega,hN.same s1,hth b rfl b2,fun H2 s2=>?_⟩
      have hp2:=s2 _ _ (s1 _ _ hp)
      refine ⟨_,rfl,p,_,_,_,rfl,rfl,SqT.of hp2,rfl,rfl,_,rfl,iteF ?_⟩
      refine ⟨_,rfl,p,_,_,_,rfl,rfl,SqT.of hp2,rfl,rfl,_,rfl,iteF ?_⟩
      refine ⟨_,rfl,p,_,_,_,rfl,rfl,SqT.of hp2,rfl,_,rfl,YZ lo hi,Str.ofString "up to ",Str.ofString (toString ((l:Nat):Int)),rfl,rfl,sz (by omega),?_⟩
      refine ⟨_,Str.ofString " of ",rfl,rfl,sz (by rw [strLen_append]; omega),?_⟩
      refine ⟨_,rfl,_,qp ns b,rfl,rfl,sz (by rw [strLen_append,strLen_append]; omega),_,Str.ofString " for ",rfl,rfl,sz (by rw [strLen_append,strLen_append,strLen_append]; omega),?_⟩
      refine ⟨_,rfl,p,_,_,_,rfl,rfl,SqT.of hp2,rfl,z,rfl,YZ hz.lo hz.hi,_,Str.ofString (toString z),rfl,rfl,sz (by rw [strLen_append,strLen_append,strLen_append,strLen_append]; omega),_,Str.ofString " each",rfl,rfl,sz (by rw [strLen_append,strLen_append,strLen_append,strLen_append,strLen_append]; omega),?_⟩
      exact q H2 (s1.trans s2)
  | node any ts =>
    have hok:=Y4 (yq.mp (FT.ok _ hF))
    obtain ⟨l,ps,hp,hA,hl,hPs⟩:=hF
    have few':1 + jN ts <= 100:=few
    have tl:=yd ts
    have hs':L2.Sub (Jg ts) m:=hs
    have wl:=word_len any
    have c1:decide (V.str (qe any) = V.str "none") = false:=by cases any <;> decide
    have c2:inV (V.str (qe any)) [V.str "any",V.str "one"] = true:=by cases any <;> decide
    refine ⟨_,rfl,p,_,_,_,rfl,rfl,SqT.of hp,rfl,rfl,_,rfl,?_⟩
    rw [c1]
    refine iteF ?_
    refine ⟨_,rfl,p,_,_,_,rfl,rfl,SqT.of hp,rfl,(by show 2 <= sizeLine; decide),fun tt htt=>⟨tt,_,rfl,.inr (SqT.of jm),rfl,rfl,_,rfl,?_⟩⟩
    rw [if_neg Bool.false_ne_true,c2]
    refine iteT ?_
    have s1:=jA htt (.tup [V.str "any",V.str "one"])
    have hp1:=s1 _ _ hp
    have hl1:=s1 _ _ hl
    generalize upd H tt (.tup [V.str "any",V.str "one"]) = H1 at s1 hp1 hl1 ⊢
    refine ⟨_,rfl,p,_,_,_,rfl,rfl,SqT.of hp1,rfl,qe any,Str.ofString "(",rfl,rfl,sz (by rw [jg6]; omega),?_⟩
    refine ⟨Str.ofString "; ",rfl,_,rfl,p,_,_,_,rfl,rfl,SqT.of hp1,rfl,l,rfl,⟨_,SqL.of hl1⟩,fun l2 h2=>?_⟩
    refine qQ (xs:=ps.map V.ref) (fun k H'=>Same H1 H' /\ H' l2 = some (.lst (((ts.take k).map (qN ns)).map V.str))) ⟨jA h2 _,jm⟩ (fun k H' _ z=>SqL.of (z.1 _ _ hl1)) ?_ ?_
    · rintro k v H2 hv ⟨s2,e2⟩ K1 K0 k1 k0
      obtain ⟨b,t,rfl,hb,ht,ib⟩:=hPs.at hv
      have mt:=qG (List.mem_of_getElem? ht)
      have s12:=s1.trans s2
      refine ⟨_,rfl,_,rfl,b,t,A,nl,ns,m,rfl,FT.same s12 ib,by omega,hN.same s12,hm,hmn,hs'.mem t (List.mem_of_getElem? ht),fun H3 s3=>k1 _ _ _ (s3 _ _ e2) ?_ ⟨(s2.trans s3).upd h2 _,?_⟩⟩
      · rw [List.length_map,List.length_map,List.length_take]; exact Je (by omega)
      · rw [jm,List.take_succ,ht,List.map_append,List.map_append]; rfl
    · rintro H2 ⟨s2,e2⟩
      rw [List.length_map,hPs.1,List.take_length] at e2
      obtain ⟨jo,jl⟩:=jbX hN.2.1 hok (show jN ts <= 100 by omega)
      refine ⟨l2,_,rfl,SqL.of e2,jo,_,_,rfl,rfl,sz (by rw [strLen_append,jg6]; omega),_,Str.ofString ")",rfl,rfl,sz (by rw [strLen_append,strLen_append,jg6]; omega),?_⟩
      have z:=q H2 (s1.trans s2)
      rw [jaK,<- jkb] at z
      exact z
theorem jio {f:Addr} {fd:FuncData} (F:Fun K "_law_text" "_law_text" jbx f fd) (jF:mg "_law_text" = some (.ref f)) (YB:mg "str" = none)
    (ZW:jE P w K mg base 1 "_law_place" ["_law_bundle", "_law_names_here"] [] (jcG K)):∀ d,jE P w K mg base (8 + d) "_law_text" ["_law_form_here", "_law_names_here"] [] (spTxt K d):=by
  intro d
  induction d with
  | zero =>
    refine F.jT jF (bnd2 F fun _ _ _ _ _ _ _ _=>rfl) jdE (fun vs H Q E h=>?_) (fun cdv A outer s H vs Q E hr h=>?_)
    · obtain ⟨p,t,A,nl,ns,m,rfl,_⟩:=h; rfl
    · obtain ⟨p,t,A,nl,ns,m,rfl,hT,_⟩:=h; exact hT.elim
  | succ d ih=>exact jjW d F jF YB ZW ih
theorem jjR {f:Addr} {fd:FuncData} (F:Fun K "_law_form" "_law_form" jfs f fd) (jF:mg "_law_form" = some (.ref f)) (jQ:mg "range" = none)
    (j5:jE P w K mg base 1 "_law_cell" ["_law_script", "_law_k"] [] (yU K))
    (Zt:jE P w K mg base 1 "_law_grouped" ["_law_forms", "_law_cell_here"] [] (jc3 K))
    (ZS:jE P w K mg base 2 "_law_leaf" ["_law_cell_here", "_law_other", "_law_last"] [] (jdP K)):jE P w K mg base 3 "_law_form" ["_law_script", "_law_last"] [] (jdO K):=by
  refine F.jT jF (bnd2 F fun _ _ _ _ _ _ _ _=>rfl) jad (fun vs H Q E h=>?_) (fun cdv A outer s H vs Q E hr h=>?_)
  · obtain ⟨a,sc,m,rfl,_⟩:=h; rfl
  obtain ⟨a,sc,m,rfl,hS,hm6,q⟩:=h
  refine ⟨_,(R.jk (R.jO (i:=2) jad.nd rfl (Or.inl rfl) (R.jw j5 hr (by first | decide | omega) rfl (R.pa_c (R.pv 0) (R.pa_c R.jg R.jh))))
    (R.jk (R.jO (i:=3) jad.nd rfl (Or.inl rfl) (R.Jz R.jh))
    (R.jk (R.J4 PassesOwn.never rfl (R.Ji rfl jQ (R.pa_c (R.jD (opE0 Jy) R.jg (R.jD (opE Jk) (R.pv 2) R.jg)) R.jh)) (R.jP (i:=4) jad.nd rfl (Or.inl rfl)) (R.jn (R.JQ (R.qg (R.pv 3) (R.pa_c (R.jw ZS hr (by first | decide | omega) rfl (R.pa_c (R.jw j5 hr (by first | decide | omega) rfl (R.pa_c (R.pv 0) (R.pa_c (R.jD (opE0 Jy) R.jg (R.jD qz R.jg (R.pv 4))) R.jh))) (R.pa_c (R.jw j5 hr (by first | decide | omega) rfl (R.pa_c (R.pv 0) (R.pa_c (R.jD (opE0 Jy) R.jg (R.jD qz R.jg (R.pv 4))) R.jh))) (R.pa_c (R.pv 1) R.jh)))) R.jh)))))
    (R.jk (R.j8 (R.jR JN (R.jD Jk (R.jD Ql (R.pv 2) R.jg) R.jg) R.jg (jZ _)) (R.jn (R.jG (R.jX (R.ixL K) (R.pv 3) R.jg (fun _ _=>rfl)))) R.jL)
    (R.jk (R.jO (i:=3) jad.nd rfl (Or.inl rfl) (R.jw Zt hr (by first | decide | omega) rfl (R.pa_c (R.jw Zt hr (by first | decide | omega) rfl (R.pa_c (R.pv 3) (R.pa_c (R.jw j5 hr (by first | decide | omega) rfl (R.pa_c (R.pv 0) (R.pa_c R.jg R.jh))) R.jh))) (R.pa_c (R.jw j5 hr (by first | decide | omega) rfl (R.pa_c (R.pv 0) (R.pa_c R.jg R.jh))) R.jh))))
    (R.jn (R.jG (R.yI (R.pa_c (R.jX (R.ixL K) (R.Jz (R.pa_c R.jJ (R.pa_c R.jJ R.jh))) (R.jD (opE Jk) (R.jD Ql (R.pv 2) R.jg) R.jg) (fun _ _=>rfl)) (R.pa_c (R.pv 3) R.jh)))))))))),?_⟩
  refine ⟨_,rfl,a,sc,9,rfl,hS,by decide,fun H1 s1=>?_⟩
  have hS1:=s1.seq hS
  generalize JR sc 9 = cw
  refine ⟨(by show 0 <= sizeLine; decide),fun lf hf=>?_⟩
  have hf0:H lf = none:=s1.free hf
  have s2:=s1.trans (jA hf (.lst []))
  obtain ⟨c7,ec7,hc7⟩:=qO cw 7 (by decide)
  refine ⟨_,rfl,_,_,nv c7,rfl,rfl,(by show (0:Int) < 7; decide),congrArg V.int ec7,_,_,nv (1 + c7),rfl,rfl,rfl,_,rfl,by omega,by omega,?_⟩
  rw [Int.toNat_natCast]
  refine Q3 (n:=1 + c7) (lo:=0) (fun i σ H'=>Same H H' /\ (∃ (ps:List Addr) (ts:List Tr),H' lf = some (.lst (ps.map V.ref)) /\ All2 (FT (fun x=>x ≠ lf) H' 1) ps ts /\ jW ts <= 1 /\ jN ts = i /\ ts.length = i /\ L2.Sub (Jg ts) m) /\ ∃ y,σ = [some (.ref a),some (nv (2 ^ m - 1)),some (.int cw),some (.ref lf),y]) ?_ ?_ ?_
  · exact ⟨s2,⟨[],[],jm,All2.nil,Nat.zero_le _,rfl,rfl,by unfold L2.Sub; exact Nat.zero_or _⟩,_,rfl⟩
  · rintro k σ H3 hk ⟨s3,⟨ps,ts,ef,hPs,hd,hy,hl,hsp⟩,y,rfl⟩
    rw [Int.zero_add]
    have hS3:=s3.seq hS
    have pl:ps.length = ts.length:=hPs.1
    refine ⟨_,rfl,.inl ⟨rfl,_,SqL.of ef⟩,_,rfl,_,rfl,_,_,rfl,rfl,Js (by omega),_,_,nv (12 + 2 * k),rfl,rfl,(by show V.int ((12:Int) + 2 * (k:Int)) = V.int ((12 + 2 * k:Nat):Int); congr 1),a,sc,12 + 2 * k,rfl,hS3,by omega,fun H4 s4=>?_⟩
    have hS4:=s4.seq hS3
    refine ⟨_,rfl,_,rfl,_,_,rfl,rfl,Js (by omega),_,_,nv (13 + 2 * k),rfl,rfl,(by show V.int ((13:Int) + 2 * (k:Int)) = V.int ((13 + 2 * k:Nat):Int); congr 1),a,sc,13 + 2 * k,rfl,hS4,by omega,fun H5 s5=>?_⟩
    have s35:=s4.trans s5
    refine ⟨_,rfl,_,_,m,rfl,hm6,fun p H6 t s6 td ty hF hst=>?_⟩
    have s36:=s35.trans s6
    have ef6:=s36 _ _ ef
    refine ⟨lf,_,_,rfl,rfl,ef6,by rw [List.length_map]; exact Je (by omega),?_⟩
    have nA:¬ (lf ≠ lf):=fun z=>z rfl
    have hF':FT (fun x=>x ≠ lf) H6 1 p t:=hF.imp fun x zs hx e=>by
      intro z
      rw [z] at hx
      have:=s35 _ _ ef
      rw [hx] at this; cases this
    refine ⟨(s3.trans s36).upd hf0 _,⟨ps ++ [p],ts ++ [t],by rw [jm,List.map_append]; rfl,(hPs.imp fun _ _ _ z=>(FT.same s36 z).put ef6 nA).snoc (hF'.put ef6 nA),?_,?_,by rw [List.length_append,hl]; rfl,?_⟩,_,rfl⟩
    · rw [Qg]; show max _ (max (j7 t) 0) <= 1; omega
    · rw [qM]; show jN ts + (jV t + 0) = k + 1; omega
    · rw [jbG]; exact Sub.or2 hsp hst
  · rintro σ H3 ⟨s3,⟨ps,ts,ef,hPs,hd,hy,hl,hsp⟩,y,rfl⟩
    have hS3:=s3.seq hS
    have pl:ps.length = ts.length:=hPs.1
    refine ⟨_,rfl,_,_,rfl,rfl,⟨by decide,by decide⟩,_,_,rfl,rfl,(by show (0:Int) < 4; decide),rfl,_,rfl,ite2 (fun _=>?_) (fun _=>?_)⟩
    · have hp0:ps[0]? = some (ps[0]'(by omega)):=List.getElem?_eq_getElem _
      have ht0:ts[0]? = some (ts[0]'(by omega)):=List.getElem?_eq_getElem _
      have f0:=hPs.2 0 _ _ hp0 ht0
      have d0:=Qh (List.mem_of_getElem? ht0)
      have y0:=qG (List.mem_of_getElem? ht0)
      refine ⟨_,rfl,lf,_,_,_,rfl,rfl,SqL.of ef,jdf (k:=0) (by rw [List.getElem?_map,hp0]; rfl),?_⟩
      exact q _ H3 (ts[0]'(by omega)) s3 (FT.to _ 4 (f0.imp fun _ _ _ _=>trivial) (by omega)) (by omega) (by omega) (hsp.mem _ (List.mem_of_getElem? ht0))
    refine ⟨_,rfl,_,rfl,a,sc,10,rfl,hS3,by decide,fun H4 s4=>?_⟩
    refine ⟨lf,ps,ts,fun x=>x ≠ lf,1,_,rfl,s4 _ _ ef,hPs.imp fun _ _ _ z=>FT.same s4 z,by omega,fun l2 H5 qs us s5 e5 hU du lu tu ⟨x1,hx1⟩=>?_⟩
    have s45:=s4.trans s5
    refine ⟨_,rfl,a,sc,11,rfl,s45.seq hS3,by decide,fun H6 s6=>?_⟩
    refine ⟨l2,qs,us,fun _=>True,2,_,rfl,s6 _ _ e5,hU.imp fun _ _ _ z=>FT.same s6 z,by omega,fun l3 H7 rs ws s7 e7 hV dw lw tw ⟨x2,hx2⟩=>?_⟩
    have s37:=(s45.trans s6).trans s7
    have hsw:L2.Sub (Jg ws) m:=by
      have h1:L2.Sub (Jg us ||| x1) m:=by rw [hx1]; exact hsp
      have h2:L2.Sub (Jg ws ||| x2) m:=by rw [hx2]; exact (L2.Sub.of_or h1).1
      exact (L2.Sub.of_or h2).1
    refine ⟨(by show 2 <= sizeLine; decide),fun lw2 hw=>?_⟩
    have s8:=jA hw (.lst [V.str "any",V.str "one"])
    obtain ⟨w2,ew2,hw2⟩:=qO (cw / 28) 2 (by decide)
    obtain ⟨any,ea⟩:∃ any,atI [V.str "any",V.str "one"] (w2:Int) = some (.str (qe any)):=by
      rcases (by omega:w2 = 0 ∨ w2 = 1) with e | e <;> subst e
      · exact ⟨true,rfl⟩
      · exact ⟨false,rfl⟩
    refine ⟨_,rfl,_,_,rfl,rfl,⟨by decide,by decide⟩,_,_,nv w2,rfl,rfl,(by show (0:Int) < 2; decide),congrArg V.int ew2,lw2,_,_,_,rfl,rfl,SqL.of jm,ea,_,rfl,(by show 2 <= sizeLine; decide),fun p hp=>?_⟩
    have s9:=jA hp (.tup [V.str (qe any),V.ref l3])
    have s89:=s8.trans s9
    refine q p _ (.node any ws) ((s3.trans s37).trans s89) ⟨l3,rs,jm,trivial,s89 _ _ e7,hV.imp fun _ _ _ z=>FT.same s89 z⟩ ?_ ?_ hsw
    · show 1 + jW ws <= 4; omega
    · show 1 + jN ws <= 24; omega
end
end My
set_option Elab.async false
set_option linter.all false
set_option maxRecDepth 100000
set_option maxHeartbeats 4000000
namespace My
open PySem PySem.Spec PyProof.Rows L2 GM
noncomputable def jgE (K:PySem.W.Frag):Sp:=jdO K
noncomputable def jc4 (K:PySem.W.Frag):Sp:=fun vs H Q _=>∃ (a:Addr) (sc:List Int),vs = [.ref a] /\ SqL K H a (sc.map V.int) /\ ∀ p H' t,Same H H'->FT (fun _=>True) H' 4 p t->j7 t <= 4->jV t <= 24->L2.Sub (Ja t) 6->Q (.ref p) H'
noncomputable def jfL (K:PySem.W.Frag):Sp:=fun vs H Q _=>∃ (a:Addr) (sc:List Int),vs = [.ref a] /\ SqL K H a (sc.map V.int) /\ ∀ l H' ns,Same H H'->H l = none->H' l = some (.lst (ns.map sv))->jb6 ns 6->Q (.ref l) H'
theorem ji5 {w2:Nat} (h:w2 < 2):∃ any,atI [V.str "any",V.str "one"] (w2:Int) = some (.str (qe any)):=by
  rcases (by omega:w2 = 0 ∨ w2 = 1) with e | e <;> subst e
  · exact ⟨true,rfl⟩
  · exact ⟨false,rfl⟩
section
variable {P:Program} {w:World} {K:PySem.W.Frag} {mg:Str->Option Value} {base:Heap}
theorem jjQ {f:Addr} {fd:FuncData} (F:Fun K "_law_flat" "_law_flat" jfr f fd) (jF:mg "_law_flat" = some (.ref f)) (jQ:mg "range" = none)
    (ZS:jE P w K mg base 2 "_law_leaf" ["_law_cell_here", "_law_other", "_law_last"] [] (jdP K))
    (j5:jE P w K mg base 1 "_law_cell" ["_law_script", "_law_k"] [] (yU K)):jE P w K mg base 3 "_law_flat" ["_law_script", "_law_last"] [] (jgE K):=by
  refine F.jT jF (bnd2 F fun _ _ _ _ _ _ _ _=>rfl) jdD (fun vs H Q E h=>?_) (fun cdv A outer s H vs Q E hr h=>?_)
  · obtain ⟨a,sc,m,rfl,_⟩:=h; rfl
  obtain ⟨a,sc,m,rfl,hS,hm6,q⟩:=h
  refine ⟨_,(R.jk (R.jO (i:=2) jdD.nd rfl (Or.inl rfl) (R.Jz R.jh))
    (R.jk (R.J4 PassesOwn.never rfl (R.Ji rfl jQ (R.pa_c (R.jD (opE Jk) (R.jD Ql (R.jw j5 hr (by first | decide | omega) rfl (R.pa_c (R.pv 0) (R.pa_c R.jg R.jh))) R.jg) R.jg) R.jh)) (R.jP (i:=3) jdD.nd rfl (Or.inl rfl)) (R.jn (R.JQ (R.qg (R.pv 2) (R.pa_c (R.jw ZS hr (by first | decide | omega) rfl (R.pa_c (R.jw j5 hr (by first | decide | omega) rfl (R.pa_c (R.pv 0) (R.pa_c (R.jD (opE0 Jy) R.jg (R.jD qz R.jg (R.pv 3))) R.jh))) (R.pa_c (R.jw j5 hr (by first | decide | omega) rfl (R.pa_c (R.pv 0) (R.pa_c (R.jD (opE0 Jy) R.jg (R.jD qz R.jg (R.pv 3))) R.jh))) (R.pa_c (R.pv 1) R.jh)))) R.jh)))))
    (R.jn (R.jG (R.yI (R.pa_c (R.jX (R.ixL K) (R.Jz (R.pa_c R.jJ (R.pa_c R.jJ R.jh))) (R.jD (opE Jk) (R.jw j5 hr (by first | decide | omega) rfl (R.pa_c (R.pv 0) (R.pa_c R.jg R.jh))) R.jg) (fun _ _=>rfl)) (R.pa_c (R.pv 2) R.jh))))))),?_⟩
  refine ⟨(by show 0 <= sizeLine; decide),fun lf hf=>?_⟩
  have s0:=jA hf (.lst [])
  obtain ⟨c7,ec7,hc7⟩:=qO (JR sc 9 / 2) 24 (by decide)
  refine ⟨_,rfl,a,sc,9,rfl,s0.seq hS,by decide,fun H1 s1=>⟨_,_,rfl,rfl,⟨by decide,by decide⟩,_,_,nv c7,rfl,rfl,(by show (0:Int) < 24; decide),congrArg V.int ec7,_,rfl,by omega,by omega,?_⟩⟩
  rw [Int.toNat_natCast]
  refine Q3 (n:=c7) (lo:=0) (fun i σ H'=>Same H H' /\ (∃ (ps:List Addr) (ts:List Tr),H' lf = some (.lst (ps.map V.ref)) /\ All2 (FT (fun x=>x ≠ lf) H' 1) ps ts /\ jW ts <= 1 /\ jN ts = i /\ ts.length = i /\ L2.Sub (Jg ts) m) /\ ∃ y,σ = [some (.ref a),some (nv (2 ^ m - 1)),some (.ref lf),y]) ?_ ?_ ?_
  · exact ⟨s0.trans s1,⟨[],[],s1 _ _ jm,All2.nil,Nat.zero_le _,rfl,rfl,by unfold L2.Sub; exact Nat.zero_or _⟩,_,rfl⟩
  · rintro k σ H3 hk ⟨s3,⟨ps,ts,ef,hPs,hd,hy,hl,hsp⟩,y,rfl⟩
    rw [Int.zero_add]
    have hS3:=s3.seq hS
    have pl:ps.length = ts.length:=hPs.1
    refine ⟨_,rfl,.inl ⟨rfl,_,SqL.of ef⟩,_,rfl,_,rfl,_,_,rfl,rfl,Js (by omega),_,_,nv (12 + 2 * k),rfl,rfl,(by show V.int ((12:Int) + 2 * (k:Int)) = V.int ((12 + 2 * k:Nat):Int); congr 1),a,sc,12 + 2 * k,rfl,hS3,by omega,fun H4 s4=>?_⟩
    have hS4:=s4.seq hS3
    refine ⟨_,rfl,_,rfl,_,_,rfl,rfl,Js (by omega),_,_,nv (13 + 2 * k),rfl,rfl,(by show V.int ((13:Int) + 2 * (k:Int)) = V.int ((13 + 2 * k:Nat):Int); congr 1),a,sc,13 + 2 * k,rfl,hS4,by omega,fun H5 s5=>?_⟩
    have s35:=s4.trans s5
    refine ⟨_,rfl,_,_,m,rfl,hm6,fun p H6 t s6 td ty hF hst=>?_⟩
    have s36:=s35.trans s6
    have ef6:=s36 _ _ ef
    refine ⟨lf,_,_,rfl,rfl,ef6,by rw [List.length_map]; exact Je (by omega),?_⟩
    have nA:¬ (lf ≠ lf):=fun z=>z rfl
    have hF':FT (fun x=>x ≠ lf) H6 1 p t:=hF.imp fun x zs hx e=>by
      intro z
      rw [z] at hx
      have:=s35 _ _ ef
      rw [hx] at this; cases this
    refine ⟨(s3.trans s36).upd hf _,⟨ps ++ [p],ts ++ [t],by rw [jm,List.map_append]; rfl,(hPs.imp fun _ _ _ z=>(FT.same s36 z).put ef6 nA).snoc (hF'.put ef6 nA),?_,?_,by rw [List.length_append,hl]; rfl,?_⟩,_,rfl⟩
    · rw [Qg]; show max _ (max (j7 t) 0) <= 1; omega
    · rw [qM]; show jN ts + (jV t + 0) = k + 1; omega
    · rw [jbG]; exact Sub.or2 hsp hst
  · rintro σ H3 ⟨s3,⟨ps,ts,ef,hPs,hd,hy,hl,hsp⟩,y,rfl⟩
    refine ⟨(by show 2 <= sizeLine; decide),fun lw2 hw=>?_⟩
    have s8:=jA hw (.lst [V.str "any",V.str "one"])
    obtain ⟨w2,ew2,hw2⟩:=qO (JR sc 9) 2 (by decide)
    obtain ⟨any,ea⟩:=ji5 hw2
    refine ⟨_,rfl,a,sc,9,rfl,(s3.trans s8).seq hS,by decide,fun H4 s4=>⟨_,_,nv w2,rfl,rfl,(by show (0:Int) < 2; decide),congrArg V.int ew2,lw2,_,_,_,rfl,rfl,SqL.of (s4 _ _ jm),ea,_,rfl,(by show 2 <= sizeLine; decide),fun p hp=>?_⟩⟩
    have s9:=jA hp (.tup [V.str (qe any),V.ref lf])
    have s89:=(s8.trans s4).trans s9
    refine q p _ (.node any ts) (s3.trans s89) (FT.to 2 4 ⟨lf,ps,jm,trivial,s89 _ _ ef,hPs.imp fun _ _ _ z=>(FT.same s89 z).imp fun _ _ _ _=>trivial⟩ ?_) ?_ ?_ hsp
    · show 1 + jW ts <= 4; omega
    · show 1 + jW ts <= 4; omega
    · show 1 + jN ts <= 24; omega
end
end My
set_option Elab.async false
set_option linter.all false
set_option maxRecDepth 100000
set_option maxHeartbeats 4000000
namespace My
open PySem PySem.Spec PyProof.Rows L2 GM
noncomputable def jgO (g:Nat->Int) (n:Nat) (H:Hp) (Q:VK):Prop:=∀ l H',Same H H'->H l = none->H' l = some (.lst ((tab g n).map V.int))->Q (.ref l) H'
noncomputable def ja2 (K:PySem.W.Frag):Sp:=fun vs H Q _=>∃ (a b:Addr) (g h:Nat->Int) (n x:Nat),vs = [.ref a,.ref b,nv x] /\ n <= 6 /\ x < 2 ^ n /\ L2.Good g /\ L2.Good h /\ SqL K H a ((tab g n).map V.int) /\ SqL K H b ((tab h n).map V.int) /\ ∀ H',Same H H'->Q (.int (conv g h x)) H'
noncomputable def jhk (K:PySem.W.Frag) (op:(Nat->Int)->(Nat->Int)->Nat->Int):Sp:=fun vs H Q _=>∃ (a b:Addr) (g h:Nat->Int) (n:Nat),vs = [.ref a,.ref b] /\ n <= 6 /\ L2.Good g /\ L2.Good h /\ SqL K H a ((tab g n).map V.int) /\ SqL K H b ((tab h n).map V.int) /\ jgO (op g h) n H Q
noncomputable def zE (K:PySem.W.Frag):Sp:=jhk K conv
noncomputable def zB (K:PySem.W.Frag):Sp:=jhk K mx
noncomputable def jbB (K:PySem.W.Frag):Sp:=jhk K conv
noncomputable def spW (any:Bool) (jr jj jc ji jb jd je jf:Addr) (d:Nat):Sp:=fun vs H Q _=>∃ (a:Addr) (n:Nat) (ts:List Tr) (A:Addr->Prop),vs = [.ref a,nv n] /\ n <= 6 /\ IsTr jr jj jc ji jd je A H d a (.node any ts) /\ jgO (Qa (.node any ts)) n H Q
noncomputable def TW (K:PySem.W.Frag) (jr jj jc ji jb jd je jf:Addr) (d:Nat):Addr->Sp->Prop:=fun C sp=>(C = jr /\ sp = jaZ K jr) ∨ (C = jj /\ sp = jaf K jj) ∨ (C = jc /\ sp = Zq K jc) ∨ (C = ji /\ sp = jah K ji) ∨ (C = jd /\ sp = spW true jr jj jc ji jb jd je jf d) ∨ (C = je /\ sp = spW false jr jj jc ji jb jd je jf d)
noncomputable def T_worths (K:PySem.W.Frag) (jr jj jc ji jb jd je jf:Addr):Addr->Sp->Prop:=TW K jr jj jc ji jb jd je jf 4
noncomputable def spTab (d:Nat):Sp:=fun vs H Q _=>∃ (p:Addr) (t:Tr) (A:Addr->Prop) (n:Nat),vs = [.ref p,nv n] /\ n <= 6 /\ FT A H d p t /\ jgO (Qa t) n H Q
noncomputable def jiP (_K:PySem.W.Frag):Sp:=spTab 4
theorem jiI:∀ b < 64,partsOf b = jaI b:=by decide +kernel
theorem subs_len:∀ b < 64,0 < (jaI b).length /\ (jaI b).length <= 64:=by decide +kernel
theorem zq {g:Nat->Int} {n x:Nat} (h:x < 2 ^ n):atI ((tab g n).map V.int) (x:Int) = some (V.int (g x)):=by
  have z:=getD_at (ws:=tab g n) (b:=x) (by rw [zb]; exact h)
  rw [tab_at h] at z; exact z
section
variable {P:Program} {w:World} {K:PySem.W.Frag} {mg:Str->Option Value} {base:Heap}
variable {jr jj jc ji jb jd je jf:Addr}
theorem jd4 {f:Addr} {fd:FuncData} (F:Fun K "best_share" "best_share" Yq f fd) (jF:mg "best_share" = some (.ref f)) (QB:mg "max" = none)
    (jao:jE P w K mg base 3 "parts_of" ["bundle"] [] (jcb K)):jE P w K mg base 4 "best_share" ["one", "other", "bundle"] [] (ja2 K):=by
  refine F.jT jF (bnd3 F fun _ _ _ _ _ _ _ _ _=>rfl) jec (fun vs H Q E h=>?_) (fun cdv A outer s H vs Q E hr h=>?_)
  · obtain ⟨a,b,g,h,n,x,rfl,_⟩:=h; rfl
  obtain ⟨a,b,g,h,n,x,rfl,hn,hx,hg,hh,ha,hb,q⟩:=h
  obtain ⟨f1,f2⟩:=pow6 hn
  have x64:x < 64:=by omega
  obtain ⟨p0,p64⟩:=subs_len x x64
  have pe:=jiI x x64
  refine ⟨_,(R.jn (R.jG (R.JM (jjt rfl) rfl QB (boot_max) (R.pa_c (R.Jj (jt Yq) ["one", "other", "bundle"] ["part"] ["one", "other", "bundle"] [0,1,2] rfl rfl rfl ⟨s.heap.objs.size + 1,rfl⟩ rfl rfl (by decide +kernel) (R.JF (R.jw jao hr (by first | decide | omega) rfl (R.pa_c (R.pv 2) R.jh))) (fun C s2 H2 fp=>(R.jP (i:=0) (show List.Nodup (["part", "one", "other", "bundle"]:List Str) from by decide +kernel) rfl (Or.inl rfl))) (fun C s2 H2 fp=>R.JK) (fun C s2 H2 fp=>(R.jD Jy (R.jX (R.ixL K) (R.pv 1) (R.pv 0) (fun _ _=>rfl)) (R.jX (R.ixL K) (R.pv 2) (R.jD (opE0 jaA) (R.pv 3) (R.pv 0)) (fun _ _=>rfl))))) R.jh)))),?_⟩
  refine ⟨_,rfl,x,rfl,x64,fun l H1 s1 hl e1=>⟨l,rfl,⟨_,SqL.of e1⟩,fun l2 h2=>?_⟩⟩
  refine zG nv (partsOf x) (fun _=>true) (fun p=>.int (g p + h (x - p))) (SqL.of e1) (by rw [pe]; omega) h2 ?_ ?_ ?_
  · intro p hp H2 s2 C hC; exact hC _ (Same.refl _)
  · intro p hp _ H2 s2 C hC
    rw [pe] at hp
    have hp':=jak.mp hp
    have ple:p <= x:=by rw [<- hp']; exact Nat.and_le_left
    have S2:=s1.trans s2
    refine ⟨_,rfl,_,rfl,a,_,_,_,rfl,rfl,S2.seq ha,zq (by omega),_,rfl,_,rfl,_,rfl,_,_,nv (x - p),rfl,rfl,?_,b,_,_,_,rfl,rfl,S2.seq hb,zq (by omega),_,_,rfl,rfl,hC _ (Same.refl _)⟩
    show V.int ((x:Int) - (p:Int)) = V.int ((x - p:Nat):Int)
    congr 1; omega
  · intro H2 s2 e2
    refine ⟨l2,(partsOf x).map (fun p=>g p + h (x - p)),rfl,SqL.of ?_,?_,fun m hm=>?_⟩
    · rw [e2,List.map_map,List.filter_eq_self.mpr (fun _ _=>rfl)]; rfl
    · rw [List.length_map,pe]; exact p0
    · rw [pe] at hm
      have em:m = conv g h x:=jgL (fun z hz=>by
        obtain ⟨p,hp,rfl⟩:=List.mem_map.mp hz
        exact jhV hg hh x64 (jak.mp hp)) hm
      rw [em]
      exact q _ (s1.trans s2)
theorem jd9 {f:Addr} {fd:FuncData} (F:Fun K "shared_out" "shared_out" Yv f fd) (jF:mg "shared_out" = some (.ref f)) (jQ:mg "range" = none) (Jl:mg "len" = none)
    (zY:jE P w K mg base 4 "best_share" ["one", "other", "bundle"] [] (ja2 K)):jE P w K mg base 5 "shared_out" ["one", "other"] [] (zE K):=by
  refine F.jT jF (bnd2 F fun _ _ _ _ _ _ _ _=>rfl) jei (fun vs H Q E h=>?_) (fun cdv A outer s H vs Q E hr h=>?_)
  · obtain ⟨a,b,g,h,n,rfl,_⟩:=h; rfl
  obtain ⟨a,b,g,h,n,rfl,hn,hg,hh,ha,hb,q⟩:=h
  obtain ⟨f1,f2⟩:=pow6 hn
  have ln:((tab g n).map V.int).length = 2 ^ n:=by rw [List.length_map,zb]
  refine ⟨_,(R.jn (R.jG (R.Jj (jt Yv) ["one", "other"] ["bundle"] ["one", "other"] [0,1] rfl rfl rfl ⟨s.heap.objs.size + 1,rfl⟩ rfl rfl (by decide +kernel) (R.Ji rfl jQ (R.pa_c (R.JM Jf rfl Jl PySem.boot_len (R.pa_c (R.pv 0) R.jh)) R.jh)) (fun C s2 H2 fp=>(R.jP (i:=0) (show List.Nodup (["bundle", "one", "other"]:List Str) from by decide +kernel) rfl (Or.inl rfl))) (fun C s2 H2 fp=>R.JK) (fun C s2 H2 fp=>(R.jw zY hr (by first | decide | omega) rfl (R.pa_c (R.pv 1) (R.pa_c (R.pv 2) (R.pa_c (R.pv 0) R.jh)))))))),?_⟩
  refine ⟨_,rfl,a,_,rfl,.inl ha,_,rfl,by omega,by omega,fun l hl=>?_⟩
  rw [Int.toNat_natCast,ln]
  refine JD (n:=2 ^ n) (fun _=>true) (fun x=>V.int (conv g h x)) (by omega) hl ?_ ?_ ?_
  · intro x H1 hx s1 C hC; exact hC _ (Same.refl _)
  · intro x H1 hx _ s1 C hC
    rw [Int.zero_add]
    exact ⟨_,rfl,_,rfl,_,rfl,a,b,g,h,n,x,rfl,hn,hx,hg,hh,s1.seq ha,s1.seq hb,fun H2 s2=>hC _ s2⟩
  · intro H1 s1 e1
    refine q l H1 s1 hl ?_
    rw [e1,List.filter_eq_self.mpr (fun _ _=>rfl)]
    unfold tab
    rw [List.map_map]; rfl
theorem jjn {g:Nat->Int} {n k:Nat} {x:Int} (h:(tab g n)[k]? = some x):k < 2 ^ n /\ x = g k:=by
  have hk:=(List.getElem?_eq_some_iff.mp h).1
  rw [zb] at hk
  refine ⟨hk,?_⟩
  unfold tab at h
  rw [List.getElem?_map,List.getElem?_eq_getElem (by rw [List.length_range]; exact hk),List.getElem_range] at h
  exact (Option.some.inj h).symm
theorem jjc {g:Nat->Int} {n k:Nat} (hk:k < 2 ^ n):(tab g n)[k]? = some (g k):=by
  unfold tab
  rw [List.getElem?_map,List.getElem?_eq_getElem (by rw [List.length_range]; exact hk),List.getElem_range]; rfl
theorem jd6 {f:Addr} {fd:FuncData} (F:Fun K "greater_of" "greater_of" Ys f fd) (jF:mg "greater_of" = some (.ref f)) (QB:mg "max" = none) (Z4:mg "zip" = none):jE P w K mg base 1 "greater_of" ["one", "other"] [] (zB K):=by
  refine F.jT jF (bnd2 F fun _ _ _ _ _ _ _ _=>rfl) jee (fun vs H Q E h=>?_) (fun cdv A outer s H vs Q E hr h=>?_)
  · obtain ⟨a,b,g,h,n,rfl,_⟩:=h; rfl
  obtain ⟨a,b,g,h,n,rfl,hn,hg,hh,ha,hb,q⟩:=h
  obtain ⟨f1,f2⟩:=pow6 hn
  refine ⟨_,(R.jn (R.jG (R.Jj (jt Ys) ["one", "other"] ["first", "second"] [] [] rfl rfl rfl ⟨s.heap.objs.size + 1,rfl⟩ rfl rfl (by decide +kernel) (R.jcu rfl Z4 (R.pa_c (R.pv 0) (R.pa_c (R.pv 1) R.jh))) (fun C s2 H2 fp=>(R.Zh K 2 rfl (R.JL (R.jP (i:=0) (show List.Nodup (["first", "second"]:List Str) from by decide +kernel) rfl (Or.inl rfl)) (R.JL (R.jP (i:=1) (show List.Nodup (["first", "second"]:List Str) from by decide +kernel) rfl (Or.inl rfl)) R.Yg)))) (fun C s2 H2 fp=>R.JK) (fun C s2 H2 fp=>(R.JM (jgh rfl) rfl QB (boot_max) (R.pa_c (R.pv 0) (R.pa_c (R.pv 1) R.jh))))))),?_⟩
  refine ⟨_,rfl,_,rfl,a,b,rfl,⟨_,ha⟩,⟨_,hb⟩,fun l hl=>?_⟩
  refine jdj (xs:=(tab g n).map V.int) (ys:=(tab h n).map V.int) (by rw [List.length_map,List.length_map,zb,zb]) (fun k H'=>Same H H' /\ H' l = some (.lst (((tab (mx g h) n).take k).map V.int))) ⟨jA hl _,jm⟩ (fun k H' _ ⟨s,_⟩=>⟨s.seq ha,s.seq hb⟩) ?_ ?_
  · rintro k v u p H1 hv hu ⟨s1,e1⟩ hp K1 K0 k1 k0
    rw [List.getElem?_map] at hv hu
    obtain ⟨x,hx,rfl⟩:=Option.map_eq_some_iff.mp hv
    obtain ⟨y,hy,rfl⟩:=Option.map_eq_some_iff.mp hu
    obtain ⟨hk,rfl⟩:=jjn hx
    obtain ⟨_,rfl⟩:=jjn hy
    have s2:=jA hp (.tup [V.int (g k),V.int (h k)])
    refine ⟨_,rfl,_,rfl,_,_,rfl,k1 _ _ _ (s2 _ _ e1) ?_ ⟨(s1.trans s2).upd hl _,?_⟩⟩
    · rw [List.length_map,List.length_take]
      exact Je (by omega)
    · rw [jm,List.take_succ,jjc hk,List.map_append]; rfl
  · rintro H1 ⟨s1,e1⟩
    refine q l H1 s1 hl ?_
    rw [e1,List.take_of_length_le (by rw [zb,List.length_map,zb]; exact Nat.le_refl _)]
theorem jci (K:PySem.W.Frag) {jr jj jc ji jb jd je jf:Addr} {A:Addr->Prop} {H:Hp} {d n:Nat} {b:Addr} {t:Tr} (hn:n <= 6) (hb:IsTr jr jj jc ji jd je A H d b t) :
    ∃ (C dx:Addr) (fs:List (Str × V)) (sp:Sp),H b = some (.ins C dx fs) /\ fs.lookup ("worths" : Str) = none /\ TW K jr jj jc ji jb jd je jf d C sp /\ ∀ Q:VK,jgO (Qa t) n H Q->sp [.ref b,nv n] H Q E0:=by
  cases d with
  | zero=>exact hb.elim
  | succ d =>
    cases t with
    | leaf f =>
      obtain ⟨ok,hb⟩:=hb
      rw [jbL]
      cases f with
      | none =>
        obtain ⟨dx,e⟩:=hb
        exact ⟨_,dx,_,_,e,rfl,.inl ⟨rfl,rfl⟩,fun Q q=>⟨b,dx,n,rfl,hn,e,q⟩⟩
      | only x m =>
        obtain ⟨dx,e⟩:=hb
        exact ⟨_,dx,_,_,e,rfl,.inr (.inl ⟨rfl,rfl⟩),fun Q q=>⟨b,dx,n,x,m,rfl,hn,ok.2.1,e,q⟩⟩
      | some k l m =>
        obtain ⟨dx,e⟩:=hb
        exact ⟨_,dx,_,_,e,rfl,.inr (.inr (.inl ⟨rfl,rfl⟩)),fun Q q=>⟨b,dx,n,k,l,m,rfl,hn,ok.2.1,e,q⟩⟩
      | most k l m =>
        obtain ⟨dx,e⟩:=hb
        exact ⟨_,dx,_,_,e,rfl,.inr (.inr (.inr (.inl ⟨rfl,rfl⟩))),fun Q q=>⟨b,dx,n,k,l,m,rfl,hn,ok.2.1,e,q⟩⟩
    | node any ts =>
      have hb':=hb
      obtain ⟨dx,l,bs,e1,e2,e3,e4⟩:=hb
      cases any
      · exact ⟨_,dx,_,_,e1,rfl,.inr (.inr (.inr (.inr (.inr ⟨rfl,rfl⟩)))),fun Q q=>⟨b,n,ts,A,rfl,hn,hb',q⟩⟩
      · exact ⟨_,dx,_,_,e1,rfl,.inr (.inr (.inr (.inr (.inl ⟨rfl,rfl⟩)))),fun Q q=>⟨b,n,ts,A,rfl,hn,hb',q⟩⟩
theorem jcQ (d:Nat) {f:Addr} {fd:FuncData} (F:Fun K "worths" "AnyOf.worths" Q7 f fd)
    (j0:jE P w K mg base 1 "worths_of_nothing" ["many"] [] (JP K))
    (Qy:jE P w K mg base 5 "shared_out" ["one", "other"] [] (zE K))
    (jK:Own K mg "Bid" jr [])
    (jC:Own K mg "Only" jj ["bundle", "amount"])
    (jq:Own K mg "SoMany" jc ["kind", "least", "amount"])
    (jB:Own K mg "UpTo" ji ["kind", "most", "each"])
    (ju:Own K mg "Several" jb ["bids"])
    (jy:Own K mg "AnyOf" jd ["bids"])
    (jz:Own K mg "OneOf" je ["bids"])
    (jx:Own K mg "Stock" jf ["numbers", "kinds"])
    (YC:∀ C sp,TW K jr jj jc ji jb jd je jf d C sp->∃ ps,J9 P w K mg base (d + 6) C "worths" ps sp) :
    FnOk P w K mg base CX0 (d + 7) f fd ["self", "many"] (spW true jr jj jc ji jb jd je jf (d + 1)):=by
  refine F.okQ qJ (fun vs H Q E h=>?_) (fun cdv A outer s H vs Q E hr h=>?_)
  · obtain ⟨a,n,ts,A,rfl,_⟩:=h; rfl
  obtain ⟨a,n,ts,A,rfl,hn,hT,q⟩:=h
  have okt:=yq.mp (IsTr.ok _ hT)
  refine ⟨_,(R.jk (R.jO (i:=2) qJ.nd rfl (Or.inl rfl) (R.jw j0 hr (by first | decide | omega) rfl (R.pa_c (R.pv 1) R.jh)))
    (R.jk (R.J4 PassesOwn.never rfl (R.JF (R.Jo K (R.pv 0))) (R.jP (i:=3) qJ.nd rfl (Or.inl rfl)) (R.jn (R.jO (i:=2) qJ.nd rfl (Or.inl rfl) (R.jw Qy hr (by first | decide | omega) rfl (R.pa_c (R.pv 2) (R.pa_c (R.yr (R.pv 3) YC hr (by first | decide | omega) (R.pa_c (R.pv 1) R.jh)) R.jh))))))
    (R.jn (R.jG (R.pv 2))))),?_⟩
  obtain ⟨dx,lb,bs,e1,eA,e2,hB⟩:=hT
  obtain ⟨f1,f2⟩:=pow6 hn
  refine ⟨_,rfl,n,rfl,hn,fun l0 H1 s1 h0 w1=>?_⟩
  refine ⟨_,rfl,a,jd,dx,_,.ref lb,rfl,s1 _ _ e1,jy.cls,jy.no _ (Jr 0 rfl),rfl,lb,rfl,⟨_,SqL.of (s1 _ _ e2)⟩,?_⟩
  refine Yd (xs:=bs.map V.ref) (fun i σ H'=>Same H H' /\ ∃ l y,H l = none /\ H' l = some (.lst ((tab (qW true (ts.take i) fun _=>0) n).map V.int)) /\ σ = [some (.ref a),some (nv n),some (.ref l),y]) ?_ ?_ ?_ ?_
  · refine ⟨s1,l0,none,h0,?_,rfl⟩
    rw [List.take_zero,ZZ]; exact w1
  · rintro i σ H' _ ⟨s',_⟩; exact SqL.of (s' _ _ e2)
  · rintro i v σ H2 hv ⟨s2,l,y,hl,el,rfl⟩
    obtain ⟨b,t,rfl,hb,ht,ib⟩:=hB.at hv
    obtain ⟨C,dx',ff,sp,g1,g2,g3,g4⟩:=jci K (jb:=jb) hn (ib.same s2)
    refine ⟨_,rfl,_,rfl,b,C,dx',ff,sp,rfl,g1,g2,g3,_,rfl,g4 _ fun l3 H3 s3 h3 w3=>?_⟩
    refine ⟨l,l3,_,Qa t,n,rfl,hn,Za true _ _ good0 (je8 okt i),ZF t (Y4 okt t (List.mem_of_getElem? ht)),SqL.of (s3 _ _ el),SqL.of w3,fun l4 H4 s4 h4 w4=>?_⟩
    refine ⟨(s2.trans s3).trans s4,l4,some (.ref b),(s2.trans s3).free h4,?_,rfl⟩
    rw [jar true ts i t ht]; exact w4
  · rintro σ H2 ⟨s2,l,y,hl,el,rfl⟩
    rw [List.length_map,hB.1,List.take_length,<- zr] at el
    exact ⟨_,rfl,q l H2 s2 hl el⟩
theorem jcR (d:Nat) {f:Addr} {fd:FuncData} (F:Fun K "worths" "OneOf.worths" Q8 f fd)
    (j0:jE P w K mg base 1 "worths_of_nothing" ["many"] [] (JP K))
    (Qw:jE P w K mg base 1 "greater_of" ["one", "other"] [] (zB K))
    (jK:Own K mg "Bid" jr [])
    (jC:Own K mg "Only" jj ["bundle", "amount"])
    (jq:Own K mg "SoMany" jc ["kind", "least", "amount"])
    (jB:Own K mg "UpTo" ji ["kind", "most", "each"])
    (ju:Own K mg "Several" jb ["bids"])
    (jy:Own K mg "AnyOf" jd ["bids"])
    (jz:Own K mg "OneOf" je ["bids"])
    (jx:Own K mg "Stock" jf ["numbers", "kinds"])
    (YC:∀ C sp,TW K jr jj jc ji jb jd je jf d C sp->∃ ps,J9 P w K mg base (d + 6) C "worths" ps sp) :
    FnOk P w K mg base CX0 (d + 7) f fd ["self", "many"] (spW false jr jj jc ji jb jd je jf (d + 1)):=by
  refine F.okQ qK (fun vs H Q E h=>?_) (fun cdv A outer s H vs Q E hr h=>?_)
  · obtain ⟨a,n,ts,A,rfl,_⟩:=h; rfl
  obtain ⟨a,n,ts,A,rfl,hn,hT,q⟩:=h
  have okt:=yq.mp (IsTr.ok _ hT)
  refine ⟨_,(R.jk (R.jO (i:=2) qK.nd rfl (Or.inl rfl) (R.jw j0 hr (by first | decide | omega) rfl (R.pa_c (R.pv 1) R.jh)))
    (R.jk (R.J4 PassesOwn.never rfl (R.JF (R.Jo K (R.pv 0))) (R.jP (i:=3) qK.nd rfl (Or.inl rfl)) (R.jn (R.jO (i:=2) qK.nd rfl (Or.inl rfl) (R.jw Qw hr (by first | decide | omega) rfl (R.pa_c (R.pv 2) (R.pa_c (R.yr (R.pv 3) YC hr (by first | decide | omega) (R.pa_c (R.pv 1) R.jh)) R.jh))))))
    (R.jn (R.jG (R.pv 2))))),?_⟩
  obtain ⟨dx,lb,bs,e1,eA,e2,hB⟩:=hT
  obtain ⟨f1,f2⟩:=pow6 hn
  refine ⟨_,rfl,n,rfl,hn,fun l0 H1 s1 h0 w1=>?_⟩
  refine ⟨_,rfl,a,je,dx,_,.ref lb,rfl,s1 _ _ e1,jz.cls,jz.no _ (Jr 0 rfl),rfl,lb,rfl,⟨_,SqL.of (s1 _ _ e2)⟩,?_⟩
  refine Yd (xs:=bs.map V.ref) (fun i σ H'=>Same H H' /\ ∃ l y,H l = none /\ H' l = some (.lst ((tab (qW false (ts.take i) fun _=>0) n).map V.int)) /\ σ = [some (.ref a),some (nv n),some (.ref l),y]) ?_ ?_ ?_ ?_
  · refine ⟨s1,l0,none,h0,?_,rfl⟩
    rw [List.take_zero,ZZ]; exact w1
  · rintro i σ H' _ ⟨s',_⟩; exact SqL.of (s' _ _ e2)
  · rintro i v σ H2 hv ⟨s2,l,y,hl,el,rfl⟩
    obtain ⟨b,t,rfl,hb,ht,ib⟩:=hB.at hv
    obtain ⟨C,dx',ff,sp,g1,g2,g3,g4⟩:=jci K (jb:=jb) hn (ib.same s2)
    refine ⟨_,rfl,_,rfl,b,C,dx',ff,sp,rfl,g1,g2,g3,_,rfl,g4 _ fun l3 H3 s3 h3 w3=>?_⟩
    refine ⟨l,l3,_,Qa t,n,rfl,hn,Za false _ _ good0 (je8 okt i),ZF t (Y4 okt t (List.mem_of_getElem? ht)),SqL.of (s3 _ _ el),SqL.of w3,fun l4 H4 s4 h4 w4=>?_⟩
    refine ⟨(s2.trans s3).trans s4,l4,some (.ref b),(s2.trans s3).free h4,?_,rfl⟩
    rw [jar false ts i t ht]; exact w4
  · rintro σ H2 ⟨s2,l,y,hl,el,rfl⟩
    rw [List.length_map,hB.1,List.take_length,<- zr] at el
    exact ⟨_,rfl,q l H2 s2 hl el⟩
theorem jiq {f1 f2 f3 f4 f5 f6:Addr} {d1 d2 d3 d4 d5 d6:FuncData} (F1:Fun K "worths" "Bid.worths" Yk f1 d1) (F2:Fun K "worths" "Only.worths" Qd f2 d2) (F3:Fun K "worths" "SoMany.worths" qI f3 d3) (F4:Fun K "worths" "UpTo.worths" Qe f4 d4)
    (F5:Fun K "worths" "AnyOf.worths" Q7 f5 d5) (F6:Fun K "worths" "OneOf.worths" Q8 f6 d6)
    (j0:jE P w K mg base 1 "worths_of_nothing" ["many"] [] (JP K))
    (qF:jE P w K mg base 1 "holds" ["one", "other"] [] (Zr K)) (J8:jE P w K mg base 3 "size_of" ["bundle"] [] (zO K))
    (Qy:jE P w K mg base 5 "shared_out" ["one", "other"] [] (zE K))
    (Qw:jE P w K mg base 1 "greater_of" ["one", "other"] [] (zB K)) (jQ:mg "range" = none) (jaN:mg "min" = none)
    (jK:Own K mg "Bid" jr [])
    (jC:Own K mg "Only" jj ["bundle", "amount"])
    (jq:Own K mg "SoMany" jc ["kind", "least", "amount"])
    (jB:Own K mg "UpTo" ji ["kind", "most", "each"])
    (ju:Own K mg "Several" jb ["bids"])
    (jy:Own K mg "AnyOf" jd ["bids"])
    (jz:Own K mg "OneOf" je ["bids"])
    (jx:Own K mg "Stock" jf ["numbers", "kinds"])
    (M1:Meth K jr "worths" f1) (M2:Meth K jj "worths" f2) (M3:Meth K jc "worths" f3) (M4:Meth K ji "worths" f4) (M5:Meth K jd "worths" f5) (M6:Meth K je "worths" f6) :
    ∀ d,∀ C sp,TW K jr jj jc ji jb jd je jf d C sp->∃ ps,J9 P w K mg base (d + 6) C "worths" ps sp:=by
  have l1:=jaP (P:=P) (w:=w) (base:=base) (mg:=mg) F1 j0 jK jC jq jB ju jy jz jx
  have l2:=Z7 (P:=P) (w:=w) (base:=base) (mg:=mg) F2 jQ qF jK jC jq jB ju jy jz jx
  have l3:=Ze (P:=P) (w:=w) (base:=base) (mg:=mg) F3 jQ J8 jK jC jq jB ju jy jz jx
  have l4:=Z9 (P:=P) (w:=w) (base:=base) (mg:=mg) F4 jaN jQ J8 jK jC jq jB ju jy jz jx
  have b1:Binds K d1 ["self", "many"] []:=bnd2 F1 fun _ _ _ _ _ _ _ _=>rfl
  have b2:Binds K d2 ["self", "many"] []:=bnd2 F2 fun _ _ _ _ _ _ _ _=>rfl
  have b3:Binds K d3 ["self", "many"] []:=bnd2 F3 fun _ _ _ _ _ _ _ _=>rfl
  have b4:Binds K d4 ["self", "many"] []:=bnd2 F4 fun _ _ _ _ _ _ _ _=>rfl
  have b5:Binds K d5 ["self", "many"] []:=bnd2 F5 fun _ _ _ _ _ _ _ _=>rfl
  have b6:Binds K d6 ["self", "many"] []:=bnd2 F6 fun _ _ _ _ _ _ _ _=>rfl
  have put:∀ d,FnOk P w K mg base CX0 (d + 6) f5 d5 ["self", "many"] (spW true jr jj jc ji jb jd je jf d)->FnOk P w K mg base CX0 (d + 6) f6 d6 ["self", "many"] (spW false jr jj jc ji jb jd je jf d)->∀ C sp,TW K jr jj jc ji jb jd je jf d C sp->∃ ps,J9 P w K mg base (d + 6) C "worths" ps sp:=by
    intro d h5 h6 C sp hT
    rcases hT with ⟨rfl,rfl⟩ | ⟨rfl,rfl⟩ | ⟨rfl,rfl⟩ | ⟨rfl,rfl⟩ | ⟨rfl,rfl⟩ | ⟨rfl,rfl⟩
    · exact ⟨_,f1,d1,l1.mono (by omega),b1,M1,jK.cls⟩
    · exact ⟨_,f2,d2,l2.mono (by omega),b2,M2,jC.cls⟩
    · exact ⟨_,f3,d3,l3.mono (by omega),b3,M3,jq.cls⟩
    · exact ⟨_,f4,d4,l4.mono (by omega),b4,M4,jB.cls⟩
    · exact ⟨_,f5,d5,h5,b5,M5,jy.cls⟩
    · exact ⟨_,f6,d6,h6,b6,M6,jz.cls⟩
  intro d
  induction d with
  | zero =>
    refine put 0 (F5.okQ qJ (fun vs H Q E h=>?_) (fun cdv A outer s H vs Q E hr h=>?_)) (F6.okQ qK (fun vs H Q E h=>?_) (fun cdv A outer s H vs Q E hr h=>?_))
    · obtain ⟨a,n,ts,A,rfl,_⟩:=h; rfl
    · obtain ⟨a,n,ts,A,rfl,hn,hT,_⟩:=h; exact hT.elim
    · obtain ⟨a,n,ts,A,rfl,_⟩:=h; rfl
    · obtain ⟨a,n,ts,A,rfl,hn,hT,_⟩:=h; exact hT.elim
  | succ d ih=>exact put (d + 1) (jcQ d F5 j0 Qy jK jC jq jB ju jy jz jx ih) (jcR d F6 j0 Qw jK jC jq jB ju jy jz jx ih)
theorem jhR {f:Addr} {fd:FuncData} (F:Fun K "_law_shared" "_law_shared" jcx f fd) (jF:mg "_law_shared" = some (.ref f)) (jQ:mg "range" = none) (Jl:mg "len" = none):jE P w K mg base 1 "_law_shared" ["_law_one", "_law_other"] [] (jbB K):=by
  refine F.jT jF (bnd2 F fun _ _ _ _ _ _ _ _=>rfl) yS (fun vs H Q E h=>?_) (fun cdv A outer s H vs Q E hr h=>?_)
  · obtain ⟨a,b,g,h,n,rfl,_⟩:=h; rfl
  obtain ⟨a,b,g,h,n,rfl,hn,hg,hh,ha,hb,q⟩:=h
  obtain ⟨f1,f2⟩:=pow6 hn
  have ln:((tab g n).map V.int).length = 2 ^ n:=by rw [List.length_map,zb]
  refine ⟨_,(R.jk (R.jO (i:=2) yS.nd rfl (Or.inl rfl) (R.Jz R.jh))
    (R.jk (R.J4 PassesOwn.never rfl (R.Ji rfl jQ (R.pa_c (R.JM Jf rfl Jl PySem.boot_len (R.pa_c (R.pv 0) R.jh)) R.jh)) (R.jP (i:=3) yS.nd rfl (Or.inl rfl)) (R.jk (R.jO (i:=4) yS.nd rfl (Or.inl rfl) R.jg)
      (R.jk (R.J4 PassesOwn.never rfl (R.Ji rfl jQ (R.pa_c (R.jD Jy (R.pv 3) R.jg) R.jh)) (R.jP (i:=5) yS.nd rfl (Or.inl rfl)) (R.jn (R.j8 (R.pt (R.jcv (R.jR JN (R.jD jdx (R.pv 3) (R.pv 5)) (R.pv 3) (jZ _)) (R.jaB (R.jR jdW (R.jD Jy (R.jX (R.ixL K) (R.pv 0) (R.pv 5) (fun _ _=>rfl)) (R.jX (R.ixL K) (R.pv 1) (R.jD (opE0 jaA) (R.pv 3) (R.pv 5)) (fun _ _=>rfl))) (R.pv 4) (jZ _))))) (R.jn (R.jO (i:=4) yS.nd rfl (Or.inl rfl) (R.jD Jy (R.jX (R.ixL K) (R.pv 0) (R.pv 5) (fun _ _=>rfl)) (R.jX (R.ixL K) (R.pv 1) (R.jD (opE0 jaA) (R.pv 3) (R.pv 5)) (fun _ _=>rfl))))) R.jL)))
      (R.jn (R.JQ (R.qg (R.pv 2) (R.pa_c (R.pv 4) R.jh)))))))
    (R.jn (R.jG (R.pv 2))))),?_⟩
  refine ⟨(by show 0 <= sizeLine; decide),fun lf hf=>?_⟩
  have s0:=jA hf (.lst [])
  refine ⟨_,rfl,a,_,rfl,.inl (s0.seq ha),_,rfl,by omega,by omega,?_⟩
  rw [Int.toNat_natCast,ln]
  refine Q3 (n:=2 ^ n) (lo:=0) (fun i σ H'=>Same H H' /\ H' lf = some (.lst (((tab (conv g h) n).take i).map V.int)) /\ ∃ y3 y4 y5,σ = [some (.ref a),some (.ref b),some (.ref lf),y3,y4,y5]) ?_ ?_ ?_
  · exact ⟨s0,jm,_,_,_,rfl⟩
  · rintro x σ H1 hx ⟨s1,e1,y3,y4,y5,rfl⟩
    rw [Int.zero_add]
    have x64:x < 64:=by omega
    have ha1:=s1.seq ha
    have hb1:=s1.seq hb
    refine ⟨_,rfl,_,_,rfl,rfl,_,rfl,by omega,by omega,?_⟩
    rw [show ((x:Int) + 1).toNat = x + 1 by omega]
    refine Q3 (n:=x + 1) (lo:=0) (fun i σ H'=>H' = H1 /\ ∃ (m:Int) (y5:Option V),σ = [some (.ref a),some (.ref b),some (.ref lf),some (nv x),some (.int m),y5] /\ Zw (fun q=>x &&& q = q /\ q < i) (fun q=>g q + h (x - q)) m) ?_ ?_ ?_
    · exact ⟨rfl,0,_,rfl,⟨Int.le_refl _,fun q hq=>absurd hq.2 (Nat.not_lt_zero _),.inl rfl⟩⟩
    · rintro k σ H' hk ⟨rfl,m,y,rfl,top⟩
      rw [Int.zero_add]
      have stay:¬ x &&& k = k->Zw (fun q=>x &&& q = q /\ q < k + 1) (fun q=>g q + h (x - q)) m:=fun z=>by
        refine top.eqv fun q=>⟨fun w=>⟨w.1,?_⟩,fun w=>⟨w.1,by have:=w.2; omega⟩⟩
        have:q ≠ k:=fun e=>z (by rw [<- e]; exact w.1)
        have:=w.2; omega
      refine ⟨_,rfl,_,rfl,x,k,rfl,rfl,_,rfl,rfl,_,rfl,?_⟩
      rw [jav]
      by_cases hk1:x &&& k = k
      · rw [decide_eq_true (sub_or.mpr hk1)]
        have grow:Zw (fun q=>x &&& q = q /\ q < k + 1) (fun q=>g q + h (x - q)) (if g k + h (x - k) > m then g k + h (x - k) else m):=by
          refine top.add k fun q=>⟨fun w=>?_,fun w=>?_⟩
          · by_cases e:q = k
            · exact .inr e
            · exact .inl ⟨w.1,by have:=w.2; omega⟩
          · rcases w with w | rfl
            · exact ⟨w.1,by have:=w.2; omega⟩
            · exact ⟨hk1,Nat.lt_succ_self _⟩
        have sb:V.int ((x:Int) - (k:Int)) = nv (x - k):=by show V.int _ = V.int ((x - k:Nat):Int); congr 1; omega
        refine iteT ⟨_,rfl,_,rfl,a,_,_,_,rfl,rfl,ha1,zq (by omega),_,rfl,_,rfl,_,rfl,_,_,nv (x - k),rfl,rfl,sb,b,_,_,_,rfl,rfl,hb1,zq (by omega),_,_,rfl,rfl,_,rfl,_,_,rfl,rfl,_,rfl,?_⟩
        by_cases c:m < g k + h (x - k)
        · rw [decide_eq_true c]
          refine iteT ⟨_,rfl,_,rfl,a,_,_,_,rfl,rfl,ha1,zq (by omega),_,rfl,_,rfl,_,rfl,_,_,nv (x - k),rfl,rfl,sb,b,_,_,_,rfl,rfl,hb1,zq (by omega),_,_,rfl,rfl,?_⟩
          rw [if_pos c] at grow
          exact ⟨rfl,_,_,rfl,grow⟩
        · rw [decide_eq_false c]
          rw [if_neg c] at grow
          exact iteF ⟨rfl,_,_,rfl,grow⟩
      · rw [decide_eq_false (fun e=>hk1 (sub_or.mp e))]
        exact iteF ⟨rfl,_,_,rfl,stay hk1⟩
    · rintro σ H' ⟨rfl,m,y,rfl,top⟩
      have em:m = conv g h x:=Zw.uniq (top.eqv (S':=fun q=>x &&& q = q) fun q=>⟨fun z=>⟨z,by have:q <= x:=(by rw [<- z]; exact Nat.and_le_left); omega⟩,fun z=>z.1⟩) (conv_top g h x)
      subst em
      refine ⟨_,rfl,.inl ⟨rfl,_,SqL.of e1⟩,_,rfl,lf,_,_,rfl,rfl,e1,?_,s1.upd hf _,?_,_,_,_,rfl⟩
      · rw [List.length_map,List.length_take]; exact Je (by omega)
      · rw [jm,List.take_succ,jjc hx,List.map_append]; rfl
  · rintro σ H1 ⟨s1,e1,y3,y4,y5,rfl⟩
    refine ⟨_,rfl,q lf H1 s1 hf ?_⟩
    rw [e1,List.take_of_length_le (by rw [zb]; exact Nat.le_refl _)]
theorem jiE (d:Nat) {f:Addr} {fd:FuncData} (F:Fun K "_law_table" "_law_table" YJ f fd) (jF:mg "_law_table" = some (.ref f)) (jQ:mg "range" = none) (QB:mg "max" = none) (Jl:mg "len" = none)
    (ZR:jE P w K mg base 2 "_law_gives" ["_law_form_here", "_law_bundle"] [] (jcF K))
    (zW:jE P w K mg base 1 "_law_shared" ["_law_one", "_law_other"] [] (jbB K)) (zQ:jE P w K mg base (d + 3) "_law_table" ["_law_form_here", "_law_things"] [] (spTab d)):jE P w K mg base (d + 4) "_law_table" ["_law_form_here", "_law_things"] [] (spTab (d + 1)):=by
  refine F.jT jF (bnd2 F fun _ _ _ _ _ _ _ _=>rfl) QM (fun vs H Q E h=>?_) (fun cdv A outer s H vs Q E hr h=>?_)
  · obtain ⟨p,t,A,n,rfl,_⟩:=h; rfl
  obtain ⟨p,t,A,n,rfl,hn,hF,q⟩:=h
  have okt:=FT.ok _ hF
  obtain ⟨f1,f2⟩:=pow6 hn
  refine ⟨_,(R.jk (R.jji (i:=2) QM.nd rfl (Or.inr rfl) (R.Jj (jt YJ) ["_law_form_here", "_law_things", "_law_found", "_law_part", "_law_table_here"] ["_law_bundle"] [] [] rfl rfl rfl ⟨s.heap.objs.size + 1,rfl⟩ rfl rfl (by decide +kernel) (R.Ji rfl jQ (R.pa_c (R.jD yx R.jg (R.pv 1)) R.jh)) (fun C s2 H2 fp=>(R.jP (i:=0) (show List.Nodup (["_law_bundle"]:List Str) from by decide +kernel) rfl (Or.inl rfl))) (fun C s2 H2 fp=>R.JK) (fun C s2 H2 fp=>R.jg)))
    (R.jk (R.j8 (R.jR JN (R.jX (R.ixT K) (R.pv 0) R.jg (fun _ _=>rfl)) R.jJ (jZ _)) (R.jk (R.J4 PassesOwn.never rfl (R.JF (R.jX (R.ixT K) (R.pv 0) R.jg (fun _ _=>rfl))) (R.jP (i:=3) QM.nd rfl (Or.inl rfl)) (R.jn (R.jO (i:=2) QM.nd rfl (Or.inr rfl) (R.jw zW hr (by first | decide | omega) rfl (R.pa_c (R.pv 2) (R.pa_c (R.jw zQ hr (by first | decide | omega) rfl (R.pa_c (R.pv 3) (R.pa_c (R.pv 1) R.jh))) R.jh))))))
      (R.jn (R.jG (R.pv 2)))) R.jL)
    (R.jk (R.j8 (R.jR JN (R.jX (R.ixT K) (R.pv 0) R.jg (fun _ _=>rfl)) R.jJ (jZ _)) (R.jk (R.J4 PassesOwn.never rfl (R.JF (R.jX (R.ixT K) (R.pv 0) R.jg (fun _ _=>rfl))) (R.jP (i:=3) QM.nd rfl (Or.inl rfl)) (R.jk (R.jO (i:=4) QM.nd rfl (Or.inr rfl) (R.jw zQ hr (by first | decide | omega) rfl (R.pa_c (R.pv 3) (R.pa_c (R.pv 1) R.jh))))
        (R.jn (R.jji (i:=2) QM.nd rfl (Or.inr rfl) (R.Jj (jt YJ) ["_law_form_here", "_law_things", "_law_found", "_law_part", "_law_table_here"] ["_law_bundle"] ["_law_found", "_law_table_here"] [2,4] rfl rfl rfl ⟨s.heap.objs.size + 1,rfl⟩ rfl rfl (by decide +kernel) (R.Ji rfl jQ (R.pa_c (R.JM Jf rfl Jl PySem.boot_len (R.pa_c (R.pv 2) R.jh)) R.jh)) (fun C s2 H2 fp=>(R.jP (i:=0) (show List.Nodup (["_law_bundle", "_law_found", "_law_table_here"]:List Str) from by decide +kernel) rfl (Or.inl rfl))) (fun C s2 H2 fp=>R.JK) (fun C s2 H2 fp=>(R.JM (jgh rfl) rfl QB (boot_max) (R.pa_c (R.jX (R.ixL K) (R.pv 1) (R.pv 0) (fun _ _=>rfl)) (R.pa_c (R.jX (R.ixL K) (R.pv 2) (R.pv 0) (fun _ _=>rfl)) R.jh)))))))))
      (R.jn (R.jG (R.pv 2)))) R.jL)
    (R.jn (R.jG (R.Jj (jt YJ) ["_law_form_here", "_law_things", "_law_found", "_law_part", "_law_table_here"] ["_law_bundle"] ["_law_form_here"] [0] rfl rfl rfl ⟨s.heap.objs.size + 1,rfl⟩ rfl rfl (by decide +kernel) (R.Ji rfl jQ (R.pa_c (R.jD yx R.jg (R.pv 1)) R.jh)) (fun C s2 H2 fp=>(R.jP (i:=0) (show List.Nodup (["_law_bundle", "_law_form_here"]:List Str) from by decide +kernel) rfl (Or.inl rfl))) (fun C s2 H2 fp=>R.JK) (fun C s2 H2 fp=>(R.jw ZR hr (by first | decide | omega) rfl (R.pa_c (R.pv 1) (R.pa_c (R.pv 0) R.jh)))))))))),?_⟩
  refine ⟨_,rfl,n,rfl,rfl,by omega,_,rfl,(rng6 hn).1,(rng6 hn).2,fun l0 h0=>?_⟩
  rw [Int.toNat_natCast]
  refine JD (n:=2 ^ n) (fun _=>true) (fun _=>V.int 0) (by omega) h0 ?_ ?_ ?_
  · intro k H1 hk s1 C hC; exact hC _ (Same.refl _)
  · intro k H1 hk _ s1 C hC; exact hC _ (Same.refl _)
  intro H1 s1 e1
  have w1:H1 l0 = some (.lst ((tab (fun _=>0) n).map V.int)):=by
    rw [e1,List.filter_eq_self.mpr (fun _ _=>rfl)]; unfold tab; rw [List.map_map]; rfl
  cases t with
  | leaf f =>
    obtain ⟨okf,fa⟩:=hF
    have fa':=fa
    obtain ⟨k0,m0,z0,hp,h63,fit⟩:=fa'
    have hp1:=s1 _ _ hp
    have nAny:decide (V.str (word f) = V.str "any") = false:=by cases f <;> rfl
    have nOne:decide (V.str (word f) = V.str "one") = false:=by cases f <;> rfl
    refine ⟨_,rfl,p,_,_,_,rfl,rfl,SqT.of hp1,rfl,rfl,_,rfl,?_⟩
    rw [nAny]
    refine iteF ⟨_,rfl,p,_,_,_,rfl,rfl,SqT.of hp1,rfl,rfl,_,rfl,?_⟩
    rw [nOne]
    refine iteF ⟨_,rfl,n,rfl,rfl,by omega,_,rfl,(rng6 hn).1,(rng6 hn).2,fun l2 h2=>?_⟩
    rw [Int.toNat_natCast]
    refine JD (n:=2 ^ n) (fun _=>true) (fun x=>V.int (Q0 f x)) (by omega) h2 ?_ ?_ ?_
    · intro x H2 hx s2 C hC; exact hC _ (Same.refl _)
    · intro x H2 hx _ s2 C hC
      rw [Int.zero_add]
      exact ⟨_,rfl,_,rfl,p,f,x,rfl,okf,(fa.same s1).same s2,by omega,fun H3 s3=>hC _ s3⟩
    · intro H2 s2 e2
      refine q l2 H2 (s1.trans s2) (s1.free h2) ?_
      rw [e2,List.filter_eq_self.mpr (fun _ _=>rfl),jbL]; unfold tab; rw [List.map_map]; rfl
  | node any ts =>
    obtain ⟨lp,ps,hp,hA,hl,hPs⟩:=hF
    have okl:=yq.mp okt
    have hp1:=s1 _ _ hp
    cases any
    · refine ⟨_,rfl,p,_,_,_,rfl,rfl,SqT.of hp1,rfl,rfl,_,rfl,iteF ?_⟩
      refine ⟨_,rfl,p,_,_,_,rfl,rfl,SqT.of hp1,rfl,rfl,_,rfl,iteT ?_⟩
      refine ⟨_,rfl,p,_,_,_,rfl,rfl,SqT.of hp1,rfl,lp,rfl,⟨_,SqL.of (s1 _ _ hl)⟩,?_⟩
      refine Yd (xs:=ps.map V.ref) (fun i σ H'=>Same H H' /\ ∃ l y3 y4,H l = none /\ H' l = some (.lst ((tab (qW false (ts.take i) fun _=>0) n).map V.int)) /\ σ = [some (.ref p),some (nv n),some (.ref l),y3,y4]) ?_ ?_ ?_ ?_
      · refine ⟨s1,l0,none,none,h0,?_,rfl⟩
        rw [List.take_zero,ZZ]; exact w1
      · rintro i σ H' _ ⟨s',_⟩; exact SqL.of (s' _ _ hl)
      · rintro i v σ H2 hv ⟨s2,l,y3,y4,hnl,el,rfl⟩
        obtain ⟨b,t,rfl,hb,ht,ib⟩:=hPs.at hv
        refine ⟨_,rfl,_,rfl,b,t,A,n,rfl,hn,ib.same s2,fun l3 H3 s3 h3 w3=>?_⟩
        have S3:=s2.trans s3
        have el3:=s3 _ _ el
        have ln:((tab (qW false (ts.take i) fun _=>0) n).map V.int).length = 2 ^ n:=by rw [List.length_map,zb]
        refine ⟨_,rfl,l,_,rfl,.inl (SqL.of el3),_,rfl,by omega,by omega,fun l4 h4=>?_⟩
        rw [Int.toNat_natCast,ln]
        refine JD (n:=2 ^ n) (fun _=>true) (fun x=>V.int (mx (qW false (ts.take i) fun _=>0) (Qa t) x)) (by omega) h4 ?_ ?_ ?_
        · intro x H5 hx s5 C hC; exact hC _ (Same.refl _)
        · intro x H5 hx _ s5 C hC
          rw [Int.zero_add]
          exact ⟨_,rfl,_,rfl,l,_,_,_,rfl,rfl,SqL.of (s5 _ _ el3),zq hx,_,rfl,_,rfl,l3,_,_,_,rfl,rfl,SqL.of (s5 _ _ w3),zq hx,_,_,rfl,hC _ (Same.refl _)⟩
        · intro H5 s5 e5
          refine ⟨S3.trans s5,l4,some (.ref b),some (.ref l3),S3.free h4,?_,rfl⟩
          rw [e5,List.filter_eq_self.mpr (fun _ _=>rfl),jar false ts i t ht]; unfold tab; rw [List.map_map]; rfl
      · rintro σ H2 ⟨s2,l,y3,y4,hnl,el,rfl⟩
        rw [List.length_map,hPs.1,List.take_length,<- zr] at el
        exact ⟨_,rfl,q l H2 s2 hnl el⟩
    · refine ⟨_,rfl,p,_,_,_,rfl,rfl,SqT.of hp1,rfl,rfl,_,rfl,iteT ?_⟩
      refine ⟨_,rfl,p,_,_,_,rfl,rfl,SqT.of hp1,rfl,lp,rfl,⟨_,SqL.of (s1 _ _ hl)⟩,?_⟩
      refine Yd (xs:=ps.map V.ref) (fun i σ H'=>Same H H' /\ ∃ l y3 y4,H l = none /\ H' l = some (.lst ((tab (qW true (ts.take i) fun _=>0) n).map V.int)) /\ σ = [some (.ref p),some (nv n),some (.ref l),y3,y4]) ?_ ?_ ?_ ?_
      · refine ⟨s1,l0,none,none,h0,?_,rfl⟩
        rw [List.take_zero,ZZ]; exact w1
      · rintro i σ H' _ ⟨s',_⟩; exact SqL.of (s' _ _ hl)
      · rintro i v σ H2 hv ⟨s2,l,y3,y4,hnl,el,rfl⟩
        obtain ⟨b,t,rfl,hb,ht,ib⟩:=hPs.at hv
        refine ⟨_,rfl,_,rfl,_,rfl,b,t,A,n,rfl,hn,ib.same s2,fun l3 H3 s3 h3 w3=>?_⟩
        refine ⟨l,l3,_,Qa t,n,rfl,hn,Za true _ _ good0 (je8 okl i),ZF t (Y4 okl t (List.mem_of_getElem? ht)),SqL.of (s3 _ _ el),SqL.of w3,fun l4 H4 s4 h4 w4=>?_⟩
        refine ⟨(s2.trans s3).trans s4,l4,some (.ref b),y4,(s2.trans s3).free h4,?_,rfl⟩
        rw [jar true ts i t ht]; exact w4
      · rintro σ H2 ⟨s2,l,y3,y4,hnl,el,rfl⟩
        rw [List.length_map,hPs.1,List.take_length,<- zr] at el
        exact ⟨_,rfl,q l H2 s2 hnl el⟩
theorem jhB {f:Addr} {fd:FuncData} (F:Fun K "_law_table" "_law_table" YJ f fd) (jF:mg "_law_table" = some (.ref f)) (jQ:mg "range" = none) (QB:mg "max" = none) (Jl:mg "len" = none)
    (ZR:jE P w K mg base 2 "_law_gives" ["_law_form_here", "_law_bundle"] [] (jcF K))
    (zW:jE P w K mg base 1 "_law_shared" ["_law_one", "_law_other"] [] (jbB K)):∀ d,jE P w K mg base (d + 3) "_law_table" ["_law_form_here", "_law_things"] [] (spTab d):=by
  intro d
  induction d with
  | zero =>
    refine F.jT jF (bnd2 F fun _ _ _ _ _ _ _ _=>rfl) QM (fun vs H Q E h=>?_) (fun cdv A outer s H vs Q E hr h=>?_)
    · obtain ⟨p,t,A,n,rfl,_⟩:=h; rfl
    · obtain ⟨p,t,A,n,rfl,hn,hT,_⟩:=h; exact hT.elim
  | succ d ih=>exact jiE d F jF jQ QB Jl ZR zW ih
end
end My
set_option Elab.async false
set_option linter.all false
set_option maxRecDepth 100000
set_option maxHeartbeats 4000000
namespace My
open PySem PySem.Spec PyProof.Rows L2 GM
noncomputable def jaY (_K:PySem.W.Frag) (_c:Addr):Sp:=fun vs H Q _=>∃ a:Addr,vs = [.ref a] /\ Q (.int 0) H
noncomputable def jae (_K:PySem.W.Frag) (c:Addr):Sp:=fun vs H Q _=>∃ (a dx:Addr) (b:Nat) (m:Int),vs = [.ref a] /\ H a = some (.ins c dx (jeY b m)) /\ Q (nv b) H
noncomputable def Zo (_K:PySem.W.Frag) (c:Addr):Sp:=fun vs H Q _=>∃ (a dx:Addr) (b k:Nat) (m:Int),vs = [.ref a] /\ H a = some (.ins c dx (jeZ b k m)) /\ Q (nv b) H
noncomputable def jag (_K:PySem.W.Frag) (c:Addr):Sp:=fun vs H Q _=>∃ (a dx:Addr) (b k:Nat) (m:Int),vs = [.ref a] /\ H a = some (.ins c dx (jeX b k m)) /\ Q (nv b) H
noncomputable def T3 (K:PySem.W.Frag) (jr jj jc ji jb jd je jf:Addr) (d:Nat):Addr->Sp->Prop:=fun C sp=>(C = jr /\ sp = jaY K jr) ∨ (C = jj /\ sp = jae K jj) ∨ (C = jc /\ sp = Zo K jc) ∨ (C = ji /\ sp = jag K ji) ∨ ((C = jd ∨ C = je) /\ sp = jdZ Ja jr jj jc ji jb jd je jf d)
noncomputable def T_spoken (K:PySem.W.Frag) (jr jj jc ji jb jd je jf:Addr):Addr->Sp->Prop:=T3 K jr jj jc ji jb jd je jf 5
noncomputable def jaX (val:Tr->Nat) (d:Nat):Sp:=fun vs H Q _=>∃ (p:Addr) (t:Tr) (A:Addr->Prop),vs = [.ref p] /\ FT A H d p t /\ jV t <= 100 /\ ∀ H',Same H H'->Q (nv (val t)) H'
noncomputable def jiO (_K:PySem.W.Frag):Sp:=jaX j7 5
noncomputable def jiQ (_K:PySem.W.Frag):Sp:=jaX jV 5
noncomputable def jh1 (_K:PySem.W.Frag):Sp:=jaX Ja 5
section
variable {P:Program} {w:World} {K:PySem.W.Frag} {mg:Str->Option Value} {base:Heap}
variable {jr jj jc ji jb jd je jf:Addr}
theorem jaO {f:Addr} {fd:FuncData} (F:Fun K "spoken" "Bid.spoken" Yj f fd)
    (jK:Own K mg "Bid" jr [])
    (jC:Own K mg "Only" jj ["bundle", "amount"])
    (jq:Own K mg "SoMany" jc ["kind", "least", "amount"])
    (jB:Own K mg "UpTo" ji ["kind", "most", "each"])
    (ju:Own K mg "Several" jb ["bids"])
    (jy:Own K mg "AnyOf" jd ["bids"])
    (jz:Own K mg "OneOf" je ["bids"])
    (jx:Own K mg "Stock" jf ["numbers", "kinds"]):FnOk P w K mg base CX0 1 f fd ["self"] (jaY K jr):=by
  refine F.okQ jea (fun vs H Q E h=>?_) (fun cdv A outer s H vs Q E hr h=>?_)
  · obtain ⟨a,rfl,_⟩:=h; rfl
  obtain ⟨a,rfl,q⟩:=h
  refine ⟨_,(R.jn (R.jG R.jg)),?_⟩
  exact q
theorem Z6 {f:Addr} {fd:FuncData} (F:Fun K "spoken" "Only.spoken" yE f fd)
    (jK:Own K mg "Bid" jr [])
    (jC:Own K mg "Only" jj ["bundle", "amount"])
    (jq:Own K mg "SoMany" jc ["kind", "least", "amount"])
    (jB:Own K mg "UpTo" ji ["kind", "most", "each"])
    (ju:Own K mg "Several" jb ["bids"])
    (jy:Own K mg "AnyOf" jd ["bids"])
    (jz:Own K mg "OneOf" je ["bids"])
    (jx:Own K mg "Stock" jf ["numbers", "kinds"]):FnOk P w K mg base CX0 1 f fd ["self"] (jae K jj):=by
  refine F.okQ jdF (fun vs H Q E h=>?_) (fun cdv A outer s H vs Q E hr h=>?_)
  · obtain ⟨a,dx,b,m,rfl,_⟩:=h; rfl
  obtain ⟨a,dx,b,m,rfl,e,q⟩:=h
  refine ⟨_,(R.jn (R.jG (R.Jo K (R.pv 0)))),?_⟩
  exact ⟨_,rfl,a,jj,dx,_,nv b,rfl,e,jC.cls,jC.no _ (Jr 0 rfl),rfl,q⟩
theorem Zd {f:Addr} {fd:FuncData} (F:Fun K "spoken" "SoMany.spoken" Qo f fd)
    (jK:Own K mg "Bid" jr [])
    (jC:Own K mg "Only" jj ["bundle", "amount"])
    (jq:Own K mg "SoMany" jc ["kind", "least", "amount"])
    (jB:Own K mg "UpTo" ji ["kind", "most", "each"])
    (ju:Own K mg "Several" jb ["bids"])
    (jy:Own K mg "AnyOf" jd ["bids"])
    (jz:Own K mg "OneOf" je ["bids"])
    (jx:Own K mg "Stock" jf ["numbers", "kinds"]):FnOk P w K mg base CX0 1 f fd ["self"] (Zo K jc):=by
  refine F.okQ jcA (fun vs H Q E h=>?_) (fun cdv A outer s H vs Q E hr h=>?_)
  · obtain ⟨a,dx,b,k,m,rfl,_⟩:=h; rfl
  obtain ⟨a,dx,b,k,m,rfl,e,q⟩:=h
  refine ⟨_,(R.jn (R.jG (R.Jo K (R.pv 0)))),?_⟩
  exact ⟨_,rfl,a,jc,dx,_,nv b,rfl,e,jq.cls,jq.no _ (Jr 0 rfl),rfl,q⟩
theorem Z8 {f:Addr} {fd:FuncData} (F:Fun K "spoken" "UpTo.spoken" yF f fd)
    (jK:Own K mg "Bid" jr [])
    (jC:Own K mg "Only" jj ["bundle", "amount"])
    (jq:Own K mg "SoMany" jc ["kind", "least", "amount"])
    (jB:Own K mg "UpTo" ji ["kind", "most", "each"])
    (ju:Own K mg "Several" jb ["bids"])
    (jy:Own K mg "AnyOf" jd ["bids"])
    (jz:Own K mg "OneOf" je ["bids"])
    (jx:Own K mg "Stock" jf ["numbers", "kinds"]):FnOk P w K mg base CX0 1 f fd ["self"] (jag K ji):=by
  refine F.okQ jdI (fun vs H Q E h=>?_) (fun cdv A outer s H vs Q E hr h=>?_)
  · obtain ⟨a,dx,b,k,m,rfl,_⟩:=h; rfl
  obtain ⟨a,dx,b,k,m,rfl,e,q⟩:=h
  refine ⟨_,(R.jn (R.jG (R.Jo K (R.pv 0)))),?_⟩
  exact ⟨_,rfl,a,ji,dx,_,nv b,rfl,e,jB.cls,jB.no _ (Jr 0 rfl),rfl,q⟩
theorem jeI (K:PySem.W.Frag) {jr jj jc ji jb jd je jf:Addr} {A:Addr->Prop} {H:Hp} {d:Nat} {b:Addr} {t:Tr} (hb:IsTr jr jj jc ji jd je A H d b t) (few:jV t <= 100) :
    ∃ (C dx:Addr) (fs:List (Str × V)) (sp:Sp),H b = some (.ins C dx fs) /\ fs.lookup ("spoken" : Str) = none /\ T3 K jr jj jc ji jb jd je jf d C sp /\ ∀ Q:VK,(∀ H',Same H H'->Q (nv (Ja t)) H')->sp [.ref b] H Q E0:=by
  cases d with
  | zero=>exact hb.elim
  | succ d =>
    cases t with
    | leaf f =>
      obtain ⟨_,hb⟩:=hb
      cases f <;> obtain ⟨dx,e⟩:=hb
      · exact ⟨_,dx,_,_,e,rfl,.inl ⟨rfl,rfl⟩,fun Q q=>⟨b,rfl,q H (Same.refl H)⟩⟩
      · exact ⟨_,dx,_,_,e,rfl,.inr (.inl ⟨rfl,rfl⟩),fun Q q=>⟨b,dx,_,_,rfl,e,q H (Same.refl H)⟩⟩
      · exact ⟨_,dx,_,_,e,rfl,.inr (.inr (.inl ⟨rfl,rfl⟩)),fun Q q=>⟨b,dx,_,_,_,rfl,e,q H (Same.refl H)⟩⟩
      · exact ⟨_,dx,_,_,e,rfl,.inr (.inr (.inr (.inl ⟨rfl,rfl⟩))),fun Q q=>⟨b,dx,_,_,_,rfl,e,q H (Same.refl H)⟩⟩
    | node any ts =>
      have hb':=hb
      obtain ⟨dx,l,bs,e1,e2,e3,e4⟩:=hb
      have few2:jN ts <= 100:=by have:1 + jN ts <= 100:=few; omega
      refine ⟨_,dx,_,_,e1,rfl,.inr (.inr (.inr (.inr ⟨?_,rfl⟩))),fun Q q=>⟨b,any,ts,A,rfl,hb',few2,q⟩⟩
      cases any
      · exact .inr rfl
      · exact .inl rfl
theorem jb1 (d:Nat) {f:Addr} {fd:FuncData} (F:Fun K "spoken" "Several.spoken" qY f fd) (Z0:∀ C sp,T3 K jr jj jc ji jb jd je jf d C sp->∃ ps,J9 P w K mg base (d + 1) C "spoken" ps sp)
    (jK:Own K mg "Bid" jr [])
    (jC:Own K mg "Only" jj ["bundle", "amount"])
    (jq:Own K mg "SoMany" jc ["kind", "least", "amount"])
    (jB:Own K mg "UpTo" ji ["kind", "most", "each"])
    (ju:Own K mg "Several" jb ["bids"])
    (jy:Own K mg "AnyOf" jd ["bids"])
    (jz:Own K mg "OneOf" je ["bids"])
    (jx:Own K mg "Stock" jf ["numbers", "kinds"]) :
    FnOk P w K mg base CX0 (d + 2) f fd ["self"] (jdZ Ja jr jj jc ji jb jd je jf (d + 1)):=by
  refine F.okQ J1 (fun vs H Q E h=>?_) (fun cdv A outer s H vs Q E hr h=>?_)
  · obtain ⟨a,any,ts,A,rfl,_⟩:=h; rfl
  obtain ⟨a,any,ts,A,rfl,hT,few,q⟩:=h
  obtain ⟨dx,l,bs,e1,e2,e3,e4⟩:=hT
  obtain ⟨hc,hn⟩:=own2 jK jC jq jB ju jy jz jx any
  refine ⟨_,(R.jk (R.jO (i:=1) J1.nd rfl (Or.inl rfl) R.jg)
    (R.jk (R.J4 PassesOwn.never rfl (R.JF (R.Jo K (R.pv 0))) (R.jP (i:=2) J1.nd rfl (Or.inl rfl)) (R.jn (R.jO (i:=1) J1.nd rfl (Or.inl rfl) (R.jD jdx (R.pv 1) (R.Q6 (R.pv 2) Z0 hr (by first | decide | omega))))))
    (R.jn (R.jG (R.pv 1))))),?_⟩
  refine ⟨_,rfl,a,_,dx,_,.ref l,rfl,e1,hc,hn,rfl,l,rfl,⟨_,SqL.of e3⟩,?_⟩
  refine Yd (xs:=bs.map V.ref) (fun i σ H'=>Same H H' /\ ∃ y,σ = [some (.ref a),some (nv (Jg (ts.take i))),y]) ?_ ?_ ?_ ?_
  · exact ⟨Same.refl _,_,rfl⟩
  · rintro i σ H' _ ⟨s',_⟩; exact SqL.of (s' _ _ e3)
  · rintro i v σ H1 hv ⟨s1,y,rfl⟩
    obtain ⟨b,t,rfl,hb,ht,ib⟩:=e4.at hv
    have mt:=qG (List.mem_of_getElem? ht)
    obtain ⟨C,dx',ff,sp,g1,g2,g3,g4⟩:=jeI K (jb:=jb) (ib.same s1) (by omega)
    refine ⟨_,rfl,_,rfl,b,C,dx',ff,sp,rfl,g1,g2,g3,g4 _ fun H3 s3=>⟨_,_,rfl,rfl,s1.trans s3,some (.ref b),?_⟩⟩
    rw [jaH ts i t ht]; rfl
  · rintro σ H1 ⟨s1,y,rfl⟩
    refine ⟨_,rfl,?_⟩
    rw [List.length_map,e4.1,List.take_length]
    exact q _ s1
theorem jip {fB fS f2 f3 f4:Addr} {dB dS d2 d3 d4:FuncData} (FB:Fun K "spoken" "Bid.spoken" Yj fB dB) (FS:Fun K "spoken" "Several.spoken" qY fS dS)
    (F2:Fun K "spoken" "Only.spoken" yE f2 d2) (F3:Fun K "spoken" "SoMany.spoken" Qo f3 d3) (F4:Fun K "spoken" "UpTo.spoken" yF f4 d4)
    (jK:Own K mg "Bid" jr [])
    (jC:Own K mg "Only" jj ["bundle", "amount"])
    (jq:Own K mg "SoMany" jc ["kind", "least", "amount"])
    (jB:Own K mg "UpTo" ji ["kind", "most", "each"])
    (ju:Own K mg "Several" jb ["bids"])
    (jy:Own K mg "AnyOf" jd ["bids"])
    (jz:Own K mg "OneOf" je ["bids"])
    (jx:Own K mg "Stock" jf ["numbers", "kinds"])
    (M1:Meth K jr "spoken" fB) (M2:Meth K jj "spoken" f2) (M3:Meth K jc "spoken" f3) (M4:Meth K ji "spoken" f4) (M5:Meth K jd "spoken" fS) (M6:Meth K je "spoken" fS) :
    ∀ d,∀ C sp,T3 K jr jj jc ji jb jd je jf d C sp->∃ ps,J9 P w K mg base (d + 1) C "spoken" ps sp:=by
  have l1:=jaO (P:=P) (w:=w) (base:=base) (mg:=mg) FB jK jC jq jB ju jy jz jx
  have l2:=Z6 (P:=P) (w:=w) (base:=base) (mg:=mg) F2 jK jC jq jB ju jy jz jx
  have l3:=Zd (P:=P) (w:=w) (base:=base) (mg:=mg) F3 jK jC jq jB ju jy jz jx
  have l4:=Z8 (P:=P) (w:=w) (base:=base) (mg:=mg) F4 jK jC jq jB ju jy jz jx
  have bB:Binds K dB ["self"] []:=bnd1 FB fun _ _ _ _ _ _ _=>rfl
  have b2:Binds K d2 ["self"] []:=bnd1 F2 fun _ _ _ _ _ _ _=>rfl
  have b3:Binds K d3 ["self"] []:=bnd1 F3 fun _ _ _ _ _ _ _=>rfl
  have b4:Binds K d4 ["self"] []:=bnd1 F4 fun _ _ _ _ _ _ _=>rfl
  have bS:Binds K dS ["self"] []:=bnd1 FS fun _ _ _ _ _ _ _=>rfl
  have put:∀ d,FnOk P w K mg base CX0 (d + 1) fS dS ["self"] (jdZ Ja jr jj jc ji jb jd je jf d)->∀ C sp,T3 K jr jj jc ji jb jd je jf d C sp->∃ ps,J9 P w K mg base (d + 1) C "spoken" ps sp:=by
    intro d hS C sp hT
    rcases hT with ⟨rfl,rfl⟩ | ⟨rfl,rfl⟩ | ⟨rfl,rfl⟩ | ⟨rfl,rfl⟩ | ⟨hC,rfl⟩
    · exact ⟨_,fB,dB,l1.mono (by omega),bB,M1,jK.cls⟩
    · exact ⟨_,f2,d2,l2.mono (by omega),b2,M2,jC.cls⟩
    · exact ⟨_,f3,d3,l3.mono (by omega),b3,M3,jq.cls⟩
    · exact ⟨_,f4,d4,l4.mono (by omega),b4,M4,jB.cls⟩
    · rcases hC with rfl | rfl
      · exact ⟨_,fS,dS,hS,bS,M5,jy.cls⟩
      · exact ⟨_,fS,dS,hS,bS,M6,jz.cls⟩
  intro d
  induction d with
  | zero =>
    refine put 0 (FS.okQ J1 (fun vs H Q E h=>?_) (fun cdv A outer s H vs Q E hr h=>?_))
    · obtain ⟨a,any,ts,A,rfl,_⟩:=h; rfl
    · obtain ⟨a,any,ts,A,rfl,hT,_⟩:=h; exact hT.elim
  | succ d ih=>exact put (d + 1) (jb1 d FS ih jK jC jq jB ju jy jz jx)
theorem jiy (d:Nat) {f:Addr} {fd:FuncData} (F:Fun K "_law_depth" "_law_depth" jaa f fd) (jF:mg "_law_depth" = some (.ref f)) (QB:mg "max" = none) (ZQ:jE P w K mg base (d + 1) "_law_depth" ["_law_form_here"] [] (jaX j7 d)):jE P w K mg base (d + 2) "_law_depth" ["_law_form_here"] [] (jaX j7 (d + 1)):=by
  refine F.jT jF (bnd1 F fun _ _ _ _ _ _ _=>rfl) jfx (fun vs H Q E h=>?_) (fun cdv A outer s H vs Q E hr h=>?_)
  · obtain ⟨p,t,A,rfl,_⟩:=h; rfl
  obtain ⟨p,t,A,rfl,hF,few,q⟩:=h
  refine ⟨_,(R.jk (R.j8 (R.jR jaz (R.jX Jq (R.pv 0) R.jg (fun _ _=>rfl)) (R.yI (R.pa_c R.jJ (R.pa_c R.jJ R.jh))) (by with_unfolding_all rfl)) (R.jn (R.jG R.jg)) R.jL)
    (R.jn (R.jG (R.jD (opE0 Jy) R.jg (R.jet K rfl rfl QB (R.Jj (jt jaa) ["_law_form_here"] ["_law_part"] [] [] rfl rfl rfl ⟨s.heap.objs.size + 1,rfl⟩ rfl rfl (by decide +kernel) (R.JF (R.jX Jq (R.pv 0) R.jg (fun _ _=>rfl))) (fun C s2 H2 fp=>(R.jP (i:=0) (show List.Nodup (["_law_part"]:List Str) from by decide +kernel) rfl (Or.inl rfl))) (fun C s2 H2 fp=>R.JK) (fun C s2 H2 fp=>(R.jw ZQ hr (by first | decide | omega) rfl (R.pa_c (R.pv 0) R.jh)))) R.jg))))),?_⟩
  cases t with
  | leaf f =>
    obtain ⟨okf,k0,l0,z0,hp,h63,fit⟩:=hF
    cases f <;> (refine ⟨_,rfl,p,_,_,_,rfl,rfl,SqT.of hp,rfl,(by show 2 <= sizeLine; decide),fun pt hpt=>⟨pt,_,rfl,.inr (SqT.of jm),rfl,rfl,_,rfl,iteT ?_⟩⟩) <;> exact q _ (jA hpt _)
  | node any ts =>
    obtain ⟨l,ps,hp,hA,hl,hPs⟩:=hF
    have few':1 + jN ts <= 100:=few
    have tl:=yd ts
    cases any <;> (refine ⟨_,rfl,p,_,_,_,rfl,rfl,SqT.of hp,rfl,(by show 2 <= sizeLine; decide),fun pt hpt=>⟨pt,_,rfl,.inr (SqT.of jm),rfl,rfl,_,rfl,iteF ?_⟩⟩)
    all_goals
      have s0:=jA hpt (.tup [V.str "any",V.str "one"])
      refine ⟨_,rfl,p,_,_,_,rfl,rfl,SqT.of (s0 _ _ hp),rfl,l,rfl,⟨_,SqL.of (s0 _ _ hl)⟩,fun l2 h2=>?_⟩
      refine qQ (xs:=ps.map V.ref) (fun k H'=>Same (upd H pt (.tup [V.str "any",V.str "one"])) H' /\ H' l2 = some (.lst (((ts.take k).map fun t=>((j7 t:Nat):Int)).map V.int))) ⟨jA h2 _,jm⟩ (fun k H' _ ⟨s',_⟩=>SqL.of (s' _ _ (s0 _ _ hl))) (fun k v H1 hv=>?_) (fun H1=>?_)
      rintro ⟨s1,e1⟩ K1 K0 k1 k0
      obtain ⟨b,t,rfl,hb,ht,ib⟩:=hPs.at hv
      have mt:=qG (List.mem_of_getElem? ht)
      refine ⟨_,rfl,b,t,A,rfl,(ib.same s0).same s1,by omega,fun H3 s3=>k1 _ _ _ (s3 _ _ e1) ?_ ⟨(s1.trans s3).upd h2 _,?_⟩⟩
      rw [List.length_map,List.length_map,List.length_take]; exact Je (by omega)
      rw [jm,List.take_succ,ht,List.map_append,List.map_append]; rfl
      rintro ⟨s1,e1⟩
      rw [List.length_map,hPs.1,List.take_length] at e1
      refine ⟨l2,_,0,rfl,rfl,SqL.of e1,fun e0=>⟨_,_,nv (1 + jW ts),rfl,rfl,?_,q H1 (s0.trans s1)⟩,fun m hm=>⟨_,_,nv (1 + jW ts),rfl,rfl,?_,q H1 (s0.trans s1)⟩⟩
      · have:ts = []:=List.map_eq_nil_iff.mp e0
        subst this; rfl
      · rw [jeS hm]; show V.int (1 + ((jW ts:Nat):Int)) = V.int ((1 + jW ts:Nat):Int)
        congr 1
theorem jhA {f:Addr} {fd:FuncData} (F:Fun K "_law_depth" "_law_depth" jaa f fd) (jF:mg "_law_depth" = some (.ref f)) (QB:mg "max" = none):∀ d,jE P w K mg base (d + 1) "_law_depth" ["_law_form_here"] [] (jaX j7 d):=by
  intro d
  induction d with
  | zero =>
    refine F.jT jF (bnd1 F fun _ _ _ _ _ _ _=>rfl) jfx (fun vs H Q E h=>?_) (fun cdv A outer s H vs Q E hr h=>?_)
    · obtain ⟨p,t,A,rfl,_⟩:=h; rfl
    · obtain ⟨p,t,A,rfl,hT,_⟩:=h; exact hT.elim
  | succ d ih=>exact jiy d F jF QB ih
theorem jiF (d:Nat) {f:Addr} {fd:FuncData} (F:Fun K "_law_tally" "_law_tally" jac f fd) (jF:mg "_law_tally" = some (.ref f)) (Zc:mg "sum" = none) (ZX:jE P w K mg base (d + 1) "_law_tally" ["_law_form_here"] [] (jaX jV d)):jE P w K mg base (d + 2) "_law_tally" ["_law_form_here"] [] (jaX jV (d + 1)):=by
  refine F.jT jF (bnd1 F fun _ _ _ _ _ _ _=>rfl) jfA (fun vs H Q E h=>?_) (fun cdv A outer s H vs Q E hr h=>?_)
  · obtain ⟨p,t,A,rfl,_⟩:=h; rfl
  obtain ⟨p,t,A,rfl,hF,few,q⟩:=h
  refine ⟨_,(R.jk (R.j8 (R.jR jaz (R.jX Jq (R.pv 0) R.jg (fun _ _=>rfl)) (R.yI (R.pa_c R.jJ (R.pa_c R.jJ R.jh))) (by with_unfolding_all rfl)) (R.jn (R.jG R.jg)) R.jL)
    (R.jn (R.jG (R.jD (opE0 Jy) R.jg (R.JM (jdi rfl) rfl Zc (boot_sum) (R.pa_c (R.Jj (jt jac) ["_law_form_here"] ["_law_part"] [] [] rfl rfl rfl ⟨s.heap.objs.size + 1,rfl⟩ rfl rfl (by decide +kernel) (R.JF (R.jX Jq (R.pv 0) R.jg (fun _ _=>rfl))) (fun C s2 H2 fp=>(R.jP (i:=0) (show List.Nodup (["_law_part"]:List Str) from by decide +kernel) rfl (Or.inl rfl))) (fun C s2 H2 fp=>R.JK) (fun C s2 H2 fp=>(R.jw ZX hr (by first | decide | omega) rfl (R.pa_c (R.pv 0) R.jh)))) R.jh)))))),?_⟩
  cases t with
  | leaf f =>
    obtain ⟨okf,k0,l0,z0,hp,h63,fit⟩:=hF
    cases f <;> (refine ⟨_,rfl,p,_,_,_,rfl,rfl,SqT.of hp,rfl,(by show 2 <= sizeLine; decide),fun pt hpt=>⟨pt,_,rfl,.inr (SqT.of jm),rfl,rfl,_,rfl,iteT ?_⟩⟩) <;> exact q _ (jA hpt _)
  | node any ts =>
    obtain ⟨l,ps,hp,hA,hl,hPs⟩:=hF
    have few':1 + jN ts <= 100:=few
    have tl:=yd ts
    cases any <;> (refine ⟨_,rfl,p,_,_,_,rfl,rfl,SqT.of hp,rfl,(by show 2 <= sizeLine; decide),fun pt hpt=>⟨pt,_,rfl,.inr (SqT.of jm),rfl,rfl,_,rfl,iteF ?_⟩⟩)
    all_goals
      have s0:=jA hpt (.tup [V.str "any",V.str "one"])
      refine ⟨_,rfl,p,_,_,_,rfl,rfl,SqT.of (s0 _ _ hp),rfl,l,rfl,⟨_,SqL.of (s0 _ _ hl)⟩,fun l2 h2=>?_⟩
      refine qQ (xs:=ps.map V.ref) (fun k H'=>Same (upd H pt (.tup [V.str "any",V.str "one"])) H' /\ H' l2 = some (.lst (((ts.take k).map fun t=>((jV t:Nat):Int)).map V.int))) ⟨jA h2 _,jm⟩ (fun k H' _ ⟨s',_⟩=>SqL.of (s' _ _ (s0 _ _ hl))) (fun k v H1 hv=>?_) (fun H1=>?_)
      rintro ⟨s1,e1⟩ K1 K0 k1 k0
      obtain ⟨b,t,rfl,hb,ht,ib⟩:=hPs.at hv
      have mt:=qG (List.mem_of_getElem? ht)
      refine ⟨_,rfl,b,t,A,rfl,(ib.same s0).same s1,by omega,fun H3 s3=>k1 _ _ _ (s3 _ _ e1) ?_ ⟨(s1.trans s3).upd h2 _,?_⟩⟩
      rw [List.length_map,List.length_map,List.length_take]; exact Je (by omega)
      rw [jm,List.take_succ,ht,List.map_append,List.map_append]; rfl
      rintro ⟨s1,e1⟩
      rw [List.length_map,hPs.1,List.take_length] at e1
      refine ⟨l2,_,rfl,SqL.of e1,_,_,nv (1 + jN ts),rfl,rfl,?_,q H1 (s0.trans s1)⟩
      rw [<- jcH]; show V.int (1 + ((jN ts:Nat):Int)) = V.int ((1 + jN ts:Nat):Int)
      congr 1
theorem jhC {f:Addr} {fd:FuncData} (F:Fun K "_law_tally" "_law_tally" jac f fd) (jF:mg "_law_tally" = some (.ref f)) (Zc:mg "sum" = none):∀ d,jE P w K mg base (d + 1) "_law_tally" ["_law_form_here"] [] (jaX jV d):=by
  intro d
  induction d with
  | zero =>
    refine F.jT jF (bnd1 F fun _ _ _ _ _ _ _=>rfl) jfA (fun vs H Q E h=>?_) (fun cdv A outer s H vs Q E hr h=>?_)
    · obtain ⟨p,t,A,rfl,_⟩:=h; rfl
    · obtain ⟨p,t,A,rfl,hT,_⟩:=h; exact hT.elim
  | succ d ih=>exact jiF d F jF Zc ih
theorem jhS (d:Nat) {f:Addr} {fd:FuncData} (F:Fun K "_law_spoken" "_law_spoken" jaC f fd) (jF:mg "_law_spoken" = some (.ref f)) (zX:jE P w K mg base (d + 1) "_law_spoken" ["_law_form_here"] [] (jaX Ja d)):jE P w K mg base (d + 2) "_law_spoken" ["_law_form_here"] [] (jaX Ja (d + 1)):=by
  refine F.jT jF (bnd1 F fun _ _ _ _ _ _ _=>rfl) zm (fun vs H Q E h=>?_) (fun cdv A outer s H vs Q E hr h=>?_)
  · obtain ⟨p,t,A,rfl,_⟩:=h; rfl
  obtain ⟨p,t,A,rfl,hF,few,q⟩:=h
  refine ⟨_,(R.jk (R.j8 (R.jR JN (R.jX Jq (R.pv 0) R.jg (fun _ _=>rfl)) R.jJ (jZ _)) (R.jn (R.jG R.jg)) R.jL)
    (R.jk (R.j8 (R.jR jaz (R.jX Jq (R.pv 0) R.jg (fun _ _=>rfl)) (R.yI (R.pa_c R.jJ (R.pa_c R.jJ R.jh))) (by with_unfolding_all rfl)) (R.jn (R.jG (R.jX Jq (R.pv 0) R.jg (fun _ _=>rfl)))) R.jL)
    (R.jk (R.jO (i:=1) zm.nd rfl (Or.inl rfl) R.jg)
    (R.jk (R.J4 PassesOwn.never rfl (R.JF (R.jX Jq (R.pv 0) R.jg (fun _ _=>rfl))) (R.jP (i:=2) zm.nd rfl (Or.inl rfl)) (R.jn (R.jO (i:=1) zm.nd rfl (Or.inl rfl) (R.jD jdx (R.pv 1) (R.jw zX hr (by first | decide | omega) rfl (R.pa_c (R.pv 2) R.jh))))))
    (R.jn (R.jG (R.pv 1))))))),?_⟩
  cases t with
  | leaf f =>
    obtain ⟨okf,k0,l0,z0,hp,h63,fit⟩:=hF
    cases f with
    | none=>exact ⟨_,rfl,p,_,_,_,rfl,rfl,SqT.of hp,rfl,rfl,_,rfl,iteT (q _ (Same.refl _))⟩
    | only b m =>
      obtain ⟨rfl,rfl⟩:=fit
      refine ⟨_,rfl,p,_,_,_,rfl,rfl,SqT.of hp,rfl,rfl,_,rfl,iteF ?_⟩
      refine ⟨_,rfl,p,_,_,_,rfl,rfl,SqT.of hp,rfl,(by show 2 <= sizeLine; decide),fun pt hpt=>⟨pt,_,rfl,.inr (SqT.of jm),rfl,rfl,_,rfl,iteT ?_⟩⟩
      exact ⟨_,rfl,p,_,_,_,rfl,rfl,SqT.of (jA hpt _ _ _ hp),rfl,q _ (jA hpt _)⟩
    | some b k m =>
      obtain ⟨rfl,rfl,rfl⟩:=fit
      refine ⟨_,rfl,p,_,_,_,rfl,rfl,SqT.of hp,rfl,rfl,_,rfl,iteF ?_⟩
      refine ⟨_,rfl,p,_,_,_,rfl,rfl,SqT.of hp,rfl,(by show 2 <= sizeLine; decide),fun pt hpt=>⟨pt,_,rfl,.inr (SqT.of jm),rfl,rfl,_,rfl,iteT ?_⟩⟩
      exact ⟨_,rfl,p,_,_,_,rfl,rfl,SqT.of (jA hpt _ _ _ hp),rfl,q _ (jA hpt _)⟩
    | most b k m =>
      obtain ⟨rfl,rfl,rfl⟩:=fit
      refine ⟨_,rfl,p,_,_,_,rfl,rfl,SqT.of hp,rfl,rfl,_,rfl,iteF ?_⟩
      refine ⟨_,rfl,p,_,_,_,rfl,rfl,SqT.of hp,rfl,(by show 2 <= sizeLine; decide),fun pt hpt=>⟨pt,_,rfl,.inr (SqT.of jm),rfl,rfl,_,rfl,iteT ?_⟩⟩
      exact ⟨_,rfl,p,_,_,_,rfl,rfl,SqT.of (jA hpt _ _ _ hp),rfl,q _ (jA hpt _)⟩
  | node any ts =>
    obtain ⟨l,ps,hp,hA,hl,hPs⟩:=hF
    have few':1 + jN ts <= 100:=few
    cases any <;> refine ⟨_,rfl,p,_,_,_,rfl,rfl,SqT.of hp,rfl,rfl,_,rfl,iteF ?_⟩ <;> (refine ⟨_,rfl,p,_,_,_,rfl,rfl,SqT.of hp,rfl,(by show 2 <= sizeLine; decide),fun pt hpt=>⟨pt,_,rfl,.inr (SqT.of jm),rfl,rfl,_,rfl,iteF ?_⟩⟩)
    all_goals
      have s0:=jA hpt (.tup [V.str "any",V.str "one"])
      refine ⟨_,rfl,p,_,_,_,rfl,rfl,SqT.of (s0 _ _ hp),rfl,l,rfl,⟨_,SqL.of (s0 _ _ hl)⟩,?_⟩
      refine Yd (xs:=ps.map V.ref) (fun i σ H'=>Same (upd H pt (.tup [V.str "any",V.str "one"])) H' /\ ∃ y,σ = [some (.ref p),some (nv (Jg (ts.take i))),y]) ⟨Same.refl _,_,rfl⟩ (fun i σ H' _ z=>SqL.of (z.1 _ _ (s0 _ _ hl))) (fun i v σ H1 hv=>?_) (fun σ H1=>?_)
      rintro ⟨s1,y,rfl⟩
      obtain ⟨b,t,rfl,hb,ht,ib⟩:=hPs.at hv
      have mt:=qG (List.mem_of_getElem? ht)
      refine ⟨_,rfl,_,rfl,b,t,A,rfl,(ib.same s0).same s1,by omega,fun H3 s3=>⟨_,_,rfl,rfl,s1.trans s3,some (.ref b),?_⟩⟩
      rw [jaH ts i t ht]; rfl
      rintro ⟨s1,y,rfl⟩
      refine ⟨_,rfl,?_⟩
      rw [List.length_map,hPs.1,List.take_length]
      exact q _ (s0.trans s1)
theorem jgU {f:Addr} {fd:FuncData} (F:Fun K "_law_spoken" "_law_spoken" jaC f fd) (jF:mg "_law_spoken" = some (.ref f)):∀ d,jE P w K mg base (d + 1) "_law_spoken" ["_law_form_here"] [] (jaX Ja d):=by
  intro d
  induction d with
  | zero =>
    refine F.jT jF (bnd1 F fun _ _ _ _ _ _ _=>rfl) zm (fun vs H Q E h=>?_) (fun cdv A outer s H vs Q E hr h=>?_)
    · obtain ⟨p,t,A,rfl,_⟩:=h; rfl
    · obtain ⟨p,t,A,rfl,hT,_⟩:=h; exact hT.elim
  | succ d ih=>exact jhS d F jF ih
end
end My
set_option Elab.async false
set_option linter.all false
set_option maxRecDepth 100000
set_option maxHeartbeats 4000000
namespace My
open PySem PySem.Spec PyProof.Rows L2 GM
noncomputable def kdOf (ks:List (List Nat)):List Nat->Nat->Prop:=fun k b=>k ∈ ks /\ b = Z5 ks k ks.length
noncomputable def fits1 (o:Option Str) (w:Str):Bool:=match o with | none=>true | some s=>decide (s = w)
noncomputable def hasF (ws:List Str) (os:List (Option Str)):Bool:=decide (ws.length = os.length) && ((ws.zip os).all fun p=>fits1 p.2 p.1)
noncomputable def oV:Option Str->V | none=>.non | some s=>.str s
theorem jjf {n:List Nat} (h:JH n = true):jbd n:=by
  have l:=jdw h
  unfold JH at h
  rw [Bool.and_eq_true] at h
  refine ⟨l.1,l.2,fun c hc=>?_⟩
  have:=List.all_eq_true.mp h.2 c hc
  rw [Bool.and_eq_true] at this
  exact ⟨of_decide_eq_true this.1,of_decide_eq_true this.2⟩
noncomputable def ja4 (_K:PySem.W.Frag):Sp:=fun vs H Q _=>∃ m:Int,vs = [.str (Str.ofString (toString m))] /\ 0 <= m /\ m < 10 ^ 10 /\ ∀ H',Same H H'->Q (.bl true) H'
noncomputable def jai (_K:PySem.W.Frag):Sp:=fun vs H Q _=>∃ m:Int,vs = [.str (Str.ofString (toString m))] /\ 0 <= m /\ m < 10 ^ 10 /\ ∀ H',Same H H'->Q (.int m) H'
noncomputable def jdR (K:PySem.W.Frag) (jr jj jc ji jb jd je jf:Addr):Addr->Sp->Prop:=fun C sp=>(C = jf /\ sp = QQ K jf)
noncomputable def jf8 (K:PySem.W.Frag) (jr jj jc ji jb jd je jf:Addr):Addr->Sp->Prop:=fun C sp=>(C = jf /\ sp = yL K jf)
noncomputable def ja5 (_K:PySem.W.Frag) (jr jj jc ji jb jd je jf:Addr):Sp:=fun vs H Q _=>∃ (pl:List Nat) (a:Addr) (ns ks:List (List Nat)) (b:Nat),vs = [.str (tx pl),.ref a] /\ JC jf H a ns ks /\ jbN ns (kdOf ks) b pl /\ ∀ H',Same H H'->Q (nv b) H'
noncomputable def jb9 (K:PySem.W.Frag):Sp:=fun vs H Q _=>∃ (wl fl:Addr) (ws:List Str) (os:List (Option Str)),vs = [.ref wl,.ref fl] /\ SqL K H wl (ws.map V.str) /\ SqL K H fl (os.map oV) /\ ws.length <= 20 /\ ∀ H',Same H H'->Q (.bl (hasF ws os)) H'
noncomputable def yj (K:PySem.W.Frag) (jr jj jc ji jb jd je jf:Addr):Sp:=fun vs H Q _=>∃ (wl a:Addr) (ns ks ws:List (List Nat)) (f:Form),vs = [.ref wl,.ref a] /\ SqL K H wl ((ws.map tx).map V.str) /\ JC jf H a ns ks /\ Qk f /\ jem ns (kdOf ks) f ws /\ ∀ x H',Same H H'->IsBid jr jj jc ji H' x f->Q (.ref x) H'
noncomputable def jbE (_K:PySem.W.Frag):Sp:=fun vs H Q _=>∃ xs:List (List Nat),vs = [.str (tx (j6 [59,32] xs))] /\ xs ≠ [] /\ (∀ x ∈ xs,Piece x) /\ (∀ c ∈ j6 [59,32] xs,c < 128) /\ (j6 [59,32] xs).length <= 2000 /\ ∀ l H',Same H H'->H l = none->H' l = some (.lst ((xs.map tx).map V.str))->Q (.ref l) H'
noncomputable def spBids (_K:PySem.W.Frag) (jr jj jc ji jb jd je jf:Addr) (d:Nat):Sp:=fun vs H Q _=>∃ (xs:List (List Nat)) (a:Addr) (ns ks:List (List Nat)) (lv:Nat) (ts:List Tr),vs = [.str (tx (j6 [59,32] xs)),.ref a,nv lv] /\ JC jf H a ns ks /\ All2 (fun y t=>z8 ns (kdOf ks) d t y) xs ts /\ lv + d <= 5 /\ jW ts <= 3 /\ jN ts <= 23 /\ (j6 [59,32] xs).length <= 2000 /\
  ∀ l H' (bs:List Addr),Same H H'->H l = none->H' l = some (.lst (bs.map V.ref))->All2 (IsTr jr jj jc ji jd je (fun x=>H x = none /\ x ≠ l) H' d) bs ts->Q (.ref l) H'
noncomputable def spBid (_K:PySem.W.Frag) (jr jj jc ji jb jd je jf:Addr) (d:Nat):Sp:=fun vs H Q _=>∃ (x:List Nat) (a:Addr) (ns ks:List (List Nat)) (lv:Nat) (t:Tr),vs = [.str (tx x),.ref a,nv lv] /\ JC jf H a ns ks /\ z8 ns (kdOf ks) d t x /\ lv + d <= 5 /\ j7 t <= 4 /\ jV t <= 24 /\ x.length <= 2000 /\ ∀ b H',Same H H'->IsTr jr jj jc ji jd je (fun l=>H l = none) H' d b t->Q (.ref b) H'
noncomputable def jf6 (K:PySem.W.Frag) (jr jj jc ji jb jd je jf:Addr):Sp:=spBid K jr jj jc ji jb jd je jf 4
noncomputable def jcc (_K:PySem.W.Frag) (jr jj jc ji jb jd je jf:Addr):Sp:=fun vs H Q _=>∃ (x:List Nat) (a:Addr) (ns ks:List (List Nat)) (t:Tr),vs = [.str (tx x),.ref a] /\ JC jf H a ns ks /\ z8 ns (kdOf ks) 4 t x /\ j7 t <= 4 /\ jV t <= 24 /\ ∀ b H',Same H H'->IsTr jr jj jc ji jd je (fun l=>H l = none) H' 4 b t->Q (.ref b) H'
theorem jjj (c k:Nat):decide (V.str (tx [c]) = V.str (tx [k])) = decide (c = k):=by
  by_cases h:c = k
  · rw [h,decide_eq_true rfl,decide_eq_true rfl]
  · rw [decide_eq_false h,decide_eq_false]
    intro z
    exact h (List.cons.inj (jhq (V.str.inj z))).1
theorem ZD {H:Hp} {a c:Addr} {ns ks:List (List Nat)} (h:JC c H a ns ks):∀ n ∈ ns,jbd n:=by
  obtain ⟨dx,d1,d2,kk,e1,e2,e3,e4,e5,g6,gok,gnd,gko⟩:=h
  exact fun n hn=>jjf (gok n hn)
theorem cut_any (l:List Nat) (b i:Nat) (h:i <= l.length):cutL l (some (b:Int)) (some (i:Int)) = (l.drop b).take (i - b):=by
  unfold cutL
  rw [L2.zJ,L2.zJ,Nat.min_eq_left h]
  by_cases hb:b <= l.length
  · rw [Nat.min_eq_left hb]
  · rw [Nat.min_eq_right (by omega),show i - b = 0 by omega,show i - l.length = 0 by omega]; simp
theorem jfl (l:List Nat):∀ i,(prun l i).1.length <= i /\ (prun l i).2.1 <= i + 1
  | 0=>⟨Nat.le_refl 0,by show (0:Nat) <= 1; omega⟩
  | i + 1=>by
    obtain ⟨a,b⟩:=jfl l i
    show (Yh l i (l.getD i 0) (prun l i)).1.length <= i + 1 /\ _
    show _ /\ (Yh l i (l.getD i 0) (prun l i)).2.1 <= i + 2
    unfold Yh
    split
    · exact ⟨by show (prun l i).1.length <= _; omega,by show (prun l i).2.1 <= _; omega⟩
    split
    · exact ⟨by show (prun l i).1.length <= _; omega,by show (prun l i).2.1 <= _; omega⟩
    split
    · exact ⟨by rw [List.length_append]; show (prun l i).1.length + 1 <= _; omega,Nat.le_refl _⟩
    · exact ⟨by omega,by omega⟩
theorem text_ne {ns:List (List Nat)} {kd:List Nat->Nat->Prop} (hn:∀ n ∈ ns,jbd n) {d:Nat} {t:Tr} {x:List Nat} (h:z8 ns kd d t x):1 <= x.length:=by
  cases d with
  | zero=>exact h.elim
  | succ d =>
    cases t with
    | node any ts =>
      obtain ⟨xs,_,rfl⟩:=h
      rw [List.length_append,List.length_append,jbO]; omega
    | leaf f =>
      obtain ⟨ok,ws,hw,rfl⟩:=h
      cases f with
      | none =>
        have hw:ws = [jbK]:=hw
        subst hw; decide
      | only b m=>obtain ⟨pl,hp,rfl⟩:=hw; simp [j6] <;> omega
      | some k l m=>obtain ⟨pl,hp,rfl⟩:=hw; simp [j6] <;> omega
      | most k l m=>obtain ⟨pl,hp,rfl⟩:=hw; simp [j6] <;> omega
section
variable {P:Program} {w:World} {K:PySem.W.Frag} {mg:Str->Option Value} {base:Heap}
variable {jr jj jc ji jb jd je jf:Addr}
theorem jd7 {f:Addr} {fd:FuncData} (F:Fun K "is_figures" "is_figures" Yt f fd) (jF:mg "is_figures" = some (.ref f)) (jcO:mg "all" = none) (Jl:mg "len" = none):jE P w K mg base 1 "is_figures" ["word"] [] (ja4 K):=by
  refine F.jT jF (bnd1 F fun _ _ _ _ _ _ _=>rfl) jef (fun vs H Q E h=>?_) (fun cdv A outer s H vs Q E hr h=>?_)
  · obtain ⟨m,rfl,_⟩:=h; rfl
  obtain ⟨m,rfl,h0,h1,q⟩:=h
  obtain ⟨f1,f2,f3,f4⟩:=jcP h0 h1
  rw [zu]
  refine ⟨_,(R.jk (R.j8 (R.pt (R.Zi (R.JZ (R.jcZ jgw jgw R.jg (R.JM Yb rfl Jl PySem.boot_len (R.pa_c (R.pv 0) R.jh)) R.jg)) (R.Yi (R.JZ (R.Jt (R.JM (jdg rfl) rfl jcO (boot_all) (R.pa_c (R.Jj (jt Yt) ["word"] ["sign"] [] [] rfl rfl rfl ⟨s.heap.objs.size + 1,rfl⟩ rfl rfl (by decide +kernel) (R.jhc (R.pv 0)) (fun C s2 H2 fp=>(R.jP (i:=0) (show List.Nodup (["sign"]:List Str) from by decide +kernel) rfl (Or.inl rfl))) (fun C s2 H2 fp=>R.JK) (fun C s2 H2 fp=>(R.jbq jbQ jbQ R.jJ (R.pv 0) R.jJ))) R.jh))))))) (R.jn (R.jG R.jaV)) R.jL)
    (R.jn (R.jG (R.pe_or (R.Y5 JN (R.JM Yb rfl Jl PySem.boot_len (R.pa_c (R.pv 0) R.jh)) R.jg (jZ _)) (R.jbr (R.jfi (R.zU (R.pv 0) R.jJ))))))),?_⟩
  have e0:((tx (numL m)).length:Int) = ((numL m).length:Int):=by rw [Ju]
  refine ⟨_,rfl,tx (numL m),rfl,jiv (by omega),1,_,rfl,rfl,_,rfl,?_⟩
  rw [decide_eq_true (show (1:Int) <= ((tx (numL m)).length:Int) by omega)]
  refine iteT ⟨_,_,rfl,rfl,_,rfl,?_⟩
  rw [decide_eq_true (show ((tx (numL m)).length:Int) <= 10 by omega)]
  refine iteF ?_
  refine ⟨_,rfl,numL m,rfl,List.all_eq_true.mpr fun c hc=>decide_eq_true (by have:=f3 c hc; omega),fun p hp=>?_⟩
  refine jcL (numL m) (fun _=>true) (fun _=>.bl true) (by omega) hp (fun x hx H2 s2 C k=>k H2 (Same.refl _)) (fun x hx _ H2 s2 C k=>?_) (fun H2 s2 e2=>?_)
  · have ea:(Str.ofString "0").cps.toList = [48]:=by decide
    have ez:(Str.ofString "9").cps.toList = [57]:=by decide
    have r:=f3 x hx
    refine ⟨_,rfl,_,_,rfl,rfl,_,rfl,?_⟩
    rw [qZ,ea,jg5,decide_eq_false (by omega)]
    refine iteT ⟨_,_,rfl,rfl,?_⟩
    rw [qZ,ez,jg5,decide_eq_false (by omega)]
    exact k H2 (Same.refl _)
  · have e3:H2 p = some (.lst (((numL m).map fun _=>true).map V.bl)):=by
      rw [e2,List.filter_eq_self.mpr (fun _ _=>rfl),List.map_map]; rfl
    refine ⟨p,_,rfl,SqL.of e3,?_⟩
    have ea:((numL m).map fun _=>true).all id = true:=by rw [List.all_map]; exact List.all_eq_true.mpr fun _ _=>rfl
    rw [ea]
    refine ⟨_,rfl,iteF ?_⟩
    refine ⟨_,rfl,tx (numL m),rfl,jiv (by omega),rfl,_,rfl,ite2 (fun _=>q H2 s2) (fun c=>?_)⟩
    have c1:¬ (numL m).length = 1:=fun z=>c (decide_eq_true (by rw [e0,z]; rfl))
    refine ⟨_,rfl,_,rfl,_,rfl,?_⟩
    have es:Txt.startswith (tx (numL m)) (Str.ofString "0") = false:=by
      rw [show Str.ofString "0" = tx [48] from rfl,zV]
      exact beq_eq_false_iff_ne.mpr (f4.resolve_left c1)
    rw [es]
    exact ⟨_,rfl,q H2 s2⟩
theorem jdu {f:Addr} {fd:FuncData} (F:Fun K "number_told" "number_told" zy f fd) (jF:mg "number_told" = some (.ref f)) (Z3:mg "int" = none)
    (z6:jE P w K mg base 1 "is_figures" ["word"] [] (ja4 K)):jE P w K mg base 2 "number_told" ["word"] [] (jai K):=by
  refine F.jT jF (bnd1 F fun _ _ _ _ _ _ _=>rfl) jdK (fun vs H Q E h=>?_) (fun cdv A outer s H vs Q E hr h=>?_)
  · obtain ⟨m,rfl,_⟩:=h; rfl
  obtain ⟨m,rfl,h0,h1,q⟩:=h
  refine ⟨_,(R.jk (R.j8 (R.JZ (R.Jt (R.jw z6 hr (by first | decide | omega) rfl (R.pa_c (R.pv 0) R.jh)))) (R.jn R.JB) R.jL)
    (R.jn (R.jG (R.YD jgQ rfl Z3 (boot_int) (R.pa_c (R.pv 0) R.jh))))),?_⟩
  refine ⟨_,rfl,m,rfl,h0,h1,fun H1 s1=>⟨_,rfl,iteF ?_⟩⟩
  exact ⟨_,rfl,m,rfl,h0,h1,q H1 s1⟩
theorem jd8 {f:Addr} {fd:FuncData} (F:Fun K "place_told" "place_told" Yu f fd) (jF:mg "place_told" = some (.ref f))
    (ZG:jE P w K mg base 3 "bundle_of" ["numbers"] [] (jbD K))
    (jK:Own K mg "Bid" jr [])
    (jC:Own K mg "Only" jj ["bundle", "amount"])
    (jq:Own K mg "SoMany" jc ["kind", "least", "amount"])
    (jB:Own K mg "UpTo" ji ["kind", "most", "each"])
    (ju:Own K mg "Several" jb ["bids"])
    (jy:Own K mg "AnyOf" jd ["bids"])
    (jz:Own K mg "OneOf" je ["bids"])
    (jx:Own K mg "Stock" jf ["numbers", "kinds"])
    (jcj:∀ C sp,jf8 K jr jj jc ji jb jd je jf C sp->∃ ps,J9 P w K mg base 2 C "kind_of" ps sp)
    (jau:∀ C sp,jdR K jr jj jc ji jb jd je jf C sp->∃ ps,J9 P w K mg base 2 C "number_of" ps sp):jE P w K mg base 4 "place_told" ["place", "stock"] [] (ja5 K jr jj jc ji jb jd je jf):=by
  refine F.jT jF (bnd2 F fun _ _ _ _ _ _ _ _=>rfl) jeh (fun vs H Q E h=>?_) (fun cdv A outer s H vs Q E hr h=>?_)
  · obtain ⟨pl,a,ns,ks,b,rfl,_⟩:=h; rfl
  obtain ⟨pl,a,ns,ks,b,rfl,hSt,hp,q⟩:=h
  have hn:=ZD hSt
  have hlen:=(jcY hn hp).2.2
  refine ⟨_,(R.jk (R.j8 (R.Jt (R.zU (R.pv 0) R.jJ)) (R.jn (R.jG (R.yr (R.pv 1) jcj hr (by first | decide | omega) (R.pa_c (R.qT ZP (R.pv 0) (R.qC R.jg) R.Zy) R.jh)))) R.jL)
    (R.jn (R.jG (R.jw ZG hr (by first | decide | omega) rfl (R.pa_c (R.Jj (jt Yu) ["place", "stock"] ["name"] ["stock"] [1] rfl rfl rfl ⟨s.heap.objs.size + 1,rfl⟩ rfl rfl (by decide +kernel) (R.JF (R.jcX (R.pv 0) R.jJ)) (fun C s2 H2 fp=>(R.jP (i:=0) (show List.Nodup (["name", "stock"]:List Str) from by decide +kernel) rfl (Or.inl rfl))) (fun C s2 H2 fp=>R.JK) (fun C s2 H2 fp=>(R.yr (R.pv 1) jau hr (by first | decide | omega) (R.pa_c (R.pv 0) R.jh)))) R.jh))))),?_⟩
  have hG:=hSt
  obtain ⟨dx,d1,d2,kk,e1,e2,e3,e4,e5,g6,gok,gnd,gko⟩:=hG
  rcases hp with ⟨js,h0,h6,hj,ho,rfl,rfl⟩ | ⟨k,⟨hk,rfl⟩,hK,rfl⟩
  · refine ⟨_,rfl,_,rfl,_,rfl,_,rfl,?_⟩
    rw [show Str.ofString "=" = tx [61] from rfl,jhm hn h0 hj]
    refine iteF ?_
    refine ⟨_,rfl,_,rfl,by rw [Ju]; omega,_,rfl,rfl,fun l hl=>⟨l,rfl,⟨_,SqL.of jm⟩,fun l2 h2=>?_⟩⟩
    rw [jhJ,jhZ hn h0 hj] at *
    have s1:=jA hl (.lst (((js.map fun j=>ns.getD j []).map tx).map V.str))
    have el:upd H l (.lst (((js.map fun j=>ns.getD j []).map tx).map V.str)) l = some (.lst (((js.map fun j=>ns.getD j []).map tx).map V.str)):=jm
    generalize upd H l (.lst (((js.map fun j=>ns.getD j []).map tx).map V.str)) = H1 at s1 el h2 ⊢
    refine qQ (xs:=((js.map fun j=>ns.getD j []).map tx).map V.str) (fun k H'=>Same H1 H' /\ H' l2 = some (.lst ((js.take k).map nv))) ⟨jA h2 _,jm⟩ (fun k H' _ z=>SqL.of (z.1 _ _ el)) ?_ ?_
    · rintro k v H2 hv ⟨s2,e2'⟩ K1 K0 k1 k0
      rw [List.map_map,List.map_map,List.getElem?_map] at hv
      obtain ⟨j,hjk,rfl⟩:=Option.map_eq_some_iff.mp hv
      have hjm:=hj j (List.mem_of_getElem? hjk)
      have s12:=s1.trans s2
      refine ⟨_,rfl,a,jf,dx,_,QQ K jf,rfl,s12 _ _ e1,rfl,⟨rfl,rfl⟩,_,rfl,a,ns,ks,ns.getD j [],j,rfl,JC.same s12 hSt,?_,fun H3 s3=>k1 _ _ _ (s3 _ _ e2') ?_ ⟨(s2.trans s3).upd h2 _,?_⟩⟩
      · rw [List.getD_eq_getElem?_getD,List.getElem?_eq_getElem hjm]; rfl
      · rw [List.length_map,List.length_take]; exact Je (by omega)
      · rw [jm,List.take_succ,hjk,List.map_append]; rfl
    · rintro H2 ⟨s2,e2'⟩
      rw [List.length_map,List.length_map,List.length_map,List.take_length] at e2'
      exact ⟨l2,js,rfl,SqL.of e2',ho,q H2 (s1.trans s2)⟩
  · refine ⟨_,rfl,_,rfl,_,rfl,_,rfl,?_⟩
    have es:Txt.startswith (tx (61 :: k)) (Str.ofString "=") = true:=by
      rw [show Str.ofString "=" = tx [61] from rfl,zV]; rfl
    rw [es]
    refine iteT ?_
    refine ⟨_,rfl,a,jf,dx,_,yL K jf,rfl,e1,rfl,⟨rfl,rfl⟩,_,rfl,_,rfl,_,rfl,by rw [sizeLine_eq]; omega,a,ns,ks,k,?_,hSt,hk,q⟩
    rw [show cutL (61 :: k) (some 1) none = k from jeQ (61 :: k) 1 (by simp)]
theorem jfY {f:Addr} {fd:FuncData} (F:Fun K "has_form" "has_form" zL f fd) (jF:mg "has_form" = some (.ref f)) (jcO:mg "all" = none) (Jl:mg "len" = none) (Z4:mg "zip" = none):jE P w K mg base 1 "has_form" ["words", "form"] [] (jb9 K):=by
  refine F.jT jF (bnd2 F fun _ _ _ _ _ _ _ _=>rfl) jf2 (fun vs H Q E h=>?_) (fun cdv A outer s H vs Q E hr h=>?_)
  · obtain ⟨wl,fl,ws,os,rfl,_⟩:=h; rfl
  obtain ⟨wl,fl,ws,os,rfl,hw,hf,few,q⟩:=h
  refine ⟨_,(R.jk (R.j8 (R.jR jgx (R.JM Jf rfl Jl PySem.boot_len (R.pa_c (R.pv 0) R.jh)) (R.JM Jf rfl Jl PySem.boot_len (R.pa_c (R.pv 1) R.jh)) (jZ _)) (R.jn (R.jG R.jaV)) R.jL)
    (R.jn (R.jG (R.JM (jdg rfl) rfl jcO (boot_all) (R.pa_c (R.Jj (jt zL) ["words", "form"] ["word", "fixed"] [] [] rfl rfl rfl ⟨s.heap.objs.size + 1,rfl⟩ rfl rfl (by decide +kernel) (R.jcu rfl Z4 (R.pa_c (R.pv 0) (R.pa_c (R.pv 1) R.jh))) (fun C s2 H2 fp=>(R.Zh K 2 rfl (R.JL (R.jP (i:=0) (show List.Nodup (["word", "fixed"]:List Str) from by decide +kernel) rfl (Or.inl rfl)) (R.JL (R.jP (i:=1) (show List.Nodup (["word", "fixed"]:List Str) from by decide +kernel) rfl (Or.inl rfl)) R.Yg)))) (fun C s2 H2 fp=>R.JK) (fun C s2 H2 fp=>(R.pe_or (R.Y5 op_isN (R.pv 1) R.Zg (jZ _)) (R.jbr (R.Y5 JN (R.pv 1) (R.pv 0) (jZ _)))))) R.jh))))),?_⟩
  refine ⟨_,rfl,wl,_,rfl,.inl hw,_,rfl,fl,_,rfl,.inl hf,rfl,_,rfl,?_⟩
  rw [List.length_map,List.length_map]
  by_cases hl:ws.length = os.length
  · rw [hl,decide_eq_true rfl]
    refine iteF ?_
    refine ⟨_,rfl,_,rfl,wl,fl,rfl,⟨_,hw⟩,⟨_,hf⟩,fun l h2=>?_⟩
    refine jdj (xs:=ws.map V.str) (ys:=os.map oV) (by rw [List.length_map,List.length_map,hl]) (fun k H'=>Same H H' /\ H' l = some (.lst ((((ws.zip os).take k).map fun p=>fits1 p.2 p.1).map V.bl))) ⟨jA h2 _,jm⟩ (fun k H' _ ⟨s,_⟩=>⟨s.seq hw,s.seq hf⟩) ?_ ?_
    · rintro k v u p H1 hv hu ⟨s1,e1⟩ hp K1 K0 k1 k0
      rw [List.getElem?_map] at hv hu
      obtain ⟨x,hx,rfl⟩:=Option.map_eq_some_iff.mp hv
      obtain ⟨y,hy,rfl⟩:=Option.map_eq_some_iff.mp hu
      have hz:(ws.zip os)[k]? = some (x,y):=by rw [List.getElem?_zip_eq_some]; exact ⟨hx,hy⟩
      have s2:=jA hp (.tup [V.str x,oV y])
      have fin:∀ b,b = fits1 y x->K1 (V.bl b) (upd H1 p (.tup [V.str x,oV y])):=fun b e=>k1 _ _ _ (s2 _ _ e1) (by rw [List.length_map,List.length_map,List.length_take]; exact Je (by rw [List.length_zip]; omega)) ⟨(s1.trans s2).upd h2 _,by rw [jm,List.take_succ,hz,List.map_append,List.map_append,e]; rfl⟩
      cases y with
      | none=>exact ⟨_,rfl,rfl,_,rfl,iteT (fin true rfl)⟩
      | some y=>exact ⟨_,rfl,rfl,_,rfl,iteF ⟨_,rfl,_,rfl,rfl,fin _ (by show decide (V.str y = V.str x) = decide (y = x); by_cases z:y = x <;> simp [z])⟩⟩
    · rintro H1 ⟨s1,e1⟩
      rw [List.take_of_length_le (by rw [List.length_map,List.length_zip]; omega)] at e1
      refine ⟨l,_,rfl,SqL.of e1,?_⟩
      have z:=q H1 s1
      unfold hasF at z
      rw [decide_eq_true hl,Bool.true_and] at z
      rw [List.all_map]
      exact z
  · rw [decide_eq_false (show ¬ V.int ((ws.length:Nat):Int) = V.int ((os.length:Nat):Int) from fun z=>hl (by have:=V.int.inj z; omega))]
    refine iteT ?_
    have z:=q H (Same.refl H)
    unfold hasF at z
    rw [decide_eq_false hl,Bool.false_and] at z
    exact z
end
end My
set_option Elab.async false
set_option linter.all false
set_option maxRecDepth 100000
set_option maxHeartbeats 4000000
namespace My
open PySem PySem.Spec PyProof.Rows L2 GM
section
variable {P:Program} {w:World} {K:PySem.W.Frag} {mg:Str->Option Value} {base:Heap}
variable {jr jj jc ji jb jd je jf:Addr}
theorem jb3 {f:Addr} {fd:FuncData} (F:Fun K "plain_bid_told" "plain_bid_told" yK f fd) (jF:mg "plain_bid_told" = some (.ref f))
    (yX:jE P w K mg base 1 "has_form" ["words", "form"] [] (jb9 K))
    (Qx:jE P w K mg base 4 "place_told" ["place", "stock"] [] (ja5 K jr jj jc ji jb jd je jf))
    (JX:jE P w K mg base 2 "number_told" ["word"] [] (jai K))
    (jK:Own K mg "Bid" jr [])
    (jC:Own K mg "Only" jj ["bundle", "amount"])
    (jq:Own K mg "SoMany" jc ["kind", "least", "amount"])
    (jB:Own K mg "UpTo" ji ["kind", "most", "each"])
    (ju:Own K mg "Several" jb ["bids"])
    (jy:Own K mg "AnyOf" jd ["bids"])
    (jz:Own K mg "OneOf" je ["bids"])
    (jx:Own K mg "Stock" jf ["numbers", "kinds"])
    (jbc:jeF K mg "Bid" jr)
    (Zu:Qc P w K mg base 4 "Only" jj ["self", "bundle", "amount"] (qu K jj))
    (yO:Qc P w K mg base 4 "SoMany" jc ["self", "kind", "least", "amount"] (JV K jc))
    (Zv:Qc P w K mg base 4 "UpTo" ji ["self", "kind", "most", "each"] (qw K ji)):jE P w K mg base 6 "plain_bid_told" ["words", "stock"] [] (yj K jr jj jc ji jb jd je jf):=by
  refine F.jT jF (bnd2 F fun _ _ _ _ _ _ _ _=>rfl) jb4 (fun vs H Q E h=>?_) (fun cdv A outer s H vs Q E hr h=>?_)
  · obtain ⟨wl,a,ns,ks,ws,f,rfl,_⟩:=h; rfl
  obtain ⟨wl,a,ns,ks,ws,f,rfl,hw,hSt,okf,hW,q⟩:=h
  have ok:=okf
  refine ⟨_,(R.jk (R.j8 (R.jR (op_eqS hr.units0) (R.pv 0) (R.Jz (R.pa_c R.jJ R.jh)) (jZ _)) (R.jn (R.jG (R.jg9 jbc rfl))) R.jL)
    (R.jk (R.j8 (R.Jt (R.jw yX hr (by first | decide | omega) rfl (R.pa_c (R.pv 0) (R.pa_c (R.Jz (R.pa_c R.Zg (R.pa_c R.jJ (R.pa_c R.Zg R.jh)))) R.jh)))) (R.jn (R.jG (R.QD Zu hr (by first | decide | omega) rfl (R.pa_c (R.jw Qx hr (by first | decide | omega) rfl (R.pa_c (R.jX (R.ixL K) (R.pv 0) R.jg (fun _ _=>rfl)) (R.pa_c (R.pv 1) R.jh))) (R.pa_c (R.jw JX hr (by first | decide | omega) rfl (R.pa_c (R.jX (R.ixL K) (R.pv 0) R.jg (fun _ _=>rfl)) R.jh)) R.jh))))) R.jL)
    (R.jk (R.j8 (R.Jt (R.jw yX hr (by first | decide | omega) rfl (R.pa_c (R.pv 0) (R.pa_c (R.Jz (R.pa_c R.Zg (R.pa_c R.jJ (R.pa_c R.Zg (R.pa_c R.jJ (R.pa_c R.Zg R.jh)))))) R.jh)))) (R.jn (R.jG (R.QD yO hr (by first | decide | omega) rfl (R.pa_c (R.jw Qx hr (by first | decide | omega) rfl (R.pa_c (R.jX (R.ixL K) (R.pv 0) R.jg (fun _ _=>rfl)) (R.pa_c (R.pv 1) R.jh))) (R.pa_c (R.jw JX hr (by first | decide | omega) rfl (R.pa_c (R.jX (R.ixL K) (R.pv 0) R.jg (fun _ _=>rfl)) R.jh)) (R.pa_c (R.jw JX hr (by first | decide | omega) rfl (R.pa_c (R.jX (R.ixL K) (R.pv 0) R.jg (fun _ _=>rfl)) R.jh)) R.jh)))))) R.jL)
    (R.jk (R.j8 (R.Jt (R.jw yX hr (by first | decide | omega) rfl (R.pa_c (R.pv 0) (R.pa_c (R.Jz (R.pa_c R.jJ (R.pa_c R.jJ (R.pa_c R.Zg (R.pa_c R.jJ (R.pa_c R.Zg (R.pa_c R.jJ (R.pa_c R.Zg (R.pa_c R.jJ R.jh))))))))) R.jh)))) (R.jn (R.jG (R.QD Zv hr (by first | decide | omega) rfl (R.pa_c (R.jw Qx hr (by first | decide | omega) rfl (R.pa_c (R.jX (R.ixL K) (R.pv 0) R.jg (fun _ _=>rfl)) (R.pa_c (R.pv 1) R.jh))) (R.pa_c (R.jw JX hr (by first | decide | omega) rfl (R.pa_c (R.jX (R.ixL K) (R.pv 0) R.jg (fun _ _=>rfl)) R.jh)) (R.pa_c (R.jw JX hr (by first | decide | omega) rfl (R.pa_c (R.jX (R.ixL K) (R.pv 0) R.jg (fun _ _=>rfl)) R.jh)) R.jh)))))) R.jL)
    (R.jn R.JB))))),?_⟩
  refine ⟨_,rfl,(by show 1 <= sizeLine; decide),fun l0 h0=>?_⟩
  have s0:=jA h0 (.lst [V.str (Str.ofString "nothing")])
  have e0:upd H l0 (.lst [V.str (Str.ofString "nothing")]) l0 = some (.lst [V.str (Str.ofString "nothing")]):=jm
  generalize upd H l0 (.lst [V.str (Str.ofString "nothing")]) = H0 at s0 e0 ⊢
  have hw0:=s0.seq hw
  refine ⟨wl,l0,ws.map tx,[Str.ofString "nothing"],rfl,rfl,hw0,SqL.of e0,_,rfl,?_⟩
  rw [if_neg Bool.false_ne_true]
  have skip:∀ {H1:Hp} {os:List (Option Str)} {l:Addr} (e:H1 l = none),Same H1 (upd H1 l (.lst (os.map oV))) /\ SqL K (upd H1 l (.lst (os.map oV))) l (os.map oV):=fun e=>⟨jA e _,SqL.of jm⟩
  cases f with
  | none =>
    have hW:ws = [jbK]:=hW
    subst hW
    rw [show decide (([jbK]:List (List Nat)).map tx = [Str.ofString "nothing"]) = true from decide_eq_true rfl]
    refine iteT ?_
    exact fun x dx nx nd _=>q x _ (s0.trans (((Same.refl H0).upd nd _).upd nx _)) ⟨dx,jm⟩
  | only b m =>
    obtain ⟨pl,hp,rfl⟩:=hW
    obtain ⟨b1,b2,hm⟩:=ok
    rw [show decide (([pl,wFor,numL m]:List (List Nat)).map tx = [Str.ofString "nothing"]) = false from decide_eq_false (fun z=>by have:=congrArg List.length z; cases this)]
    refine iteF ?_
    refine ⟨_,rfl,(by show 3 <= sizeLine; decide),fun l1 h1=>?_⟩
    have s1:=s0.trans (jA h1 (.lst [V.non,.str (Str.ofString "for"),.non]))
    have e1:upd H0 l1 (.lst [V.non,.str (Str.ofString "for"),.non]) l1 = some (.lst [V.non,.str (Str.ofString "for"),.non]):=jm
    generalize upd H0 l1 (.lst [V.non,.str (Str.ofString "for"),.non]) = H1 at s1 e1 ⊢
    refine ⟨wl,l1,_,[none,some (Str.ofString "for"),none],rfl,s1.seq hw,SqL.of e1,(by show 3 <= 20; decide),fun H2 s2=>⟨_,rfl,?_⟩⟩
    rw [show hasF (([pl,wFor,numL m]:List (List Nat)).map tx) [none,some (Str.ofString "for"),none] = true from rfl]
    refine iteT ?_
    have S2:=s1.trans s2
    refine ⟨_,rfl,wl,_,_,_,rfl,rfl,S2.seq hw,rfl,_,rfl,pl,a,ns,ks,b,rfl,JC.same S2 hSt,hp,fun H3 s3=>?_⟩
    have S3:=S2.trans s3
    refine ⟨_,rfl,wl,_,_,_,rfl,rfl,S3.seq hw,rfl,m,congrArg (fun z=>[V.str z]) (zu m).symm,hm.lo,by have:=hm.hi; omega,fun H4 s4=>fun x dx nx nd _=>?_⟩
    exact ⟨x,dx,b,m,rfl,b1,b2,hm,jm,rfl,q x _ ((S3.trans s4).trans (zR nx nd)) ⟨dx,jm⟩⟩
  | some k l m =>
    obtain ⟨pl,hp,rfl⟩:=hW
    obtain ⟨k1,k2,c1,c2,hm⟩:=ok
    rw [show decide (([numL (l:Nat),wOf,pl,wFor,numL m]:List (List Nat)).map tx = [Str.ofString "nothing"]) = false from decide_eq_false (fun z=>by have:=congrArg List.length z; cases this)]
    refine iteF ?_
    refine ⟨_,rfl,(by show 3 <= sizeLine; decide),fun l1 h1=>?_⟩
    have s1:=s0.trans (jA h1 (.lst [V.non,.str (Str.ofString "for"),.non]))
    have e1:upd H0 l1 (.lst [V.non,.str (Str.ofString "for"),.non]) l1 = some (.lst [V.non,.str (Str.ofString "for"),.non]):=jm
    generalize upd H0 l1 (.lst [V.non,.str (Str.ofString "for"),.non]) = H1 at s1 e1 ⊢
    refine ⟨wl,l1,_,[none,some (Str.ofString "for"),none],rfl,s1.seq hw,SqL.of e1,(by show 5 <= 20; decide),fun H2 s2=>⟨_,rfl,?_⟩⟩
    rw [show hasF (([numL (l:Nat),wOf,pl,wFor,numL m]:List (List Nat)).map tx) [none,some (Str.ofString "for"),none] = false from rfl]
    refine iteF ?_
    have S2:=s1.trans s2
    refine ⟨_,rfl,(by show 5 <= sizeLine; decide),fun l2 h2=>?_⟩
    have s3:=S2.trans (jA h2 (.lst [V.non,.str (Str.ofString "of"),.non,.str (Str.ofString "for"),.non]))
    have e3:upd H2 l2 (.lst [V.non,.str (Str.ofString "of"),.non,.str (Str.ofString "for"),.non]) l2 = some (.lst [V.non,.str (Str.ofString "of"),.non,.str (Str.ofString "for"),.non]):=jm
    generalize upd H2 l2 (.lst [V.non,.str (Str.ofString "of"),.non,.str (Str.ofString "for"),.non]) = H3 at s3 e3 ⊢
    refine ⟨wl,l2,_,[none,some (Str.ofString "of"),none,some (Str.ofString "for"),none],rfl,s3.seq hw,SqL.of e3,(by show 5 <= 20; decide),fun H4 s4=>⟨_,rfl,?_⟩⟩
    rw [show hasF (([numL (l:Nat),wOf,pl,wFor,numL m]:List (List Nat)).map tx) [none,some (Str.ofString "of"),none,some (Str.ofString "for"),none] = true from rfl]
    refine iteT ?_
    have S4:=s3.trans s4
    refine ⟨_,rfl,wl,_,_,_,rfl,rfl,S4.seq hw,rfl,_,rfl,pl,a,ns,ks,k,rfl,JC.same S4 hSt,hp,fun H5 s5=>?_⟩
    have S5:=S4.trans s5
    refine ⟨_,rfl,wl,_,_,_,rfl,rfl,S5.seq hw,rfl,((l:Nat):Int),congrArg (fun z=>[V.str z]) (zu _).symm,by omega,by omega,fun H6 s6=>?_⟩
    have S6:=S5.trans s6
    refine ⟨_,rfl,wl,_,_,_,rfl,rfl,S6.seq hw,rfl,m,congrArg (fun z=>[V.str z]) (zu m).symm,hm.lo,by have:=hm.hi; omega,fun H7 s7=>fun x dx nx nd _=>?_⟩
    exact ⟨x,dx,k,l,m,rfl,k1,k2,c1,c2,hm,jm,rfl,q x _ ((S6.trans s7).trans (zR nx nd)) ⟨dx,jm⟩⟩
  | most k l m =>
    obtain ⟨pl,hp,rfl⟩:=hW
    obtain ⟨k1,k2,c1,c2,hm⟩:=ok
    rw [show decide (([wUp,wTo,numL (l:Nat),wOf,pl,wFor,numL m,jic]:List (List Nat)).map tx = [Str.ofString "nothing"]) = false from decide_eq_false (fun z=>by have:=congrArg List.length z; cases this)]
    refine iteF ?_
    refine ⟨_,rfl,(by show 3 <= sizeLine; decide),fun l1 h1=>?_⟩
    have s1:=s0.trans (jA h1 (.lst [V.non,.str (Str.ofString "for"),.non]))
    have e1:upd H0 l1 (.lst [V.non,.str (Str.ofString "for"),.non]) l1 = some (.lst [V.non,.str (Str.ofString "for"),.non]):=jm
    generalize upd H0 l1 (.lst [V.non,.str (Str.ofString "for"),.non]) = H1 at s1 e1 ⊢
    refine ⟨wl,l1,_,[none,some (Str.ofString "for"),none],rfl,s1.seq hw,SqL.of e1,(by show 8 <= 20; decide),fun H2 s2=>⟨_,rfl,?_⟩⟩
    rw [show hasF (([wUp,wTo,numL (l:Nat),wOf,pl,wFor,numL m,jic]:List (List Nat)).map tx) [none,some (Str.ofString "for"),none] = false from rfl]
    refine iteF ?_
    have S2:=s1.trans s2
    refine ⟨_,rfl,(by show 5 <= sizeLine; decide),fun l2 h2=>?_⟩
    have s3:=S2.trans (jA h2 (.lst [V.non,.str (Str.ofString "of"),.non,.str (Str.ofString "for"),.non]))
    have e3:upd H2 l2 (.lst [V.non,.str (Str.ofString "of"),.non,.str (Str.ofString "for"),.non]) l2 = some (.lst [V.non,.str (Str.ofString "of"),.non,.str (Str.ofString "for"),.non]):=jm
    generalize upd H2 l2 (.lst [V.non,.str (Str.ofString "of"),.non,.str (Str.ofString "for"),.non]) = H3 at s3 e3 ⊢
    refine ⟨wl,l2,_,[none,some (Str.ofString "of"),none,some (Str.ofString "for"),none],rfl,s3.seq hw,SqL.of e3,(by show 8 <= 20; decide),fun H4 s4=>⟨_,rfl,?_⟩⟩
    rw [show hasF (([wUp,wTo,numL (l:Nat),wOf,pl,wFor,numL m,jic]:List (List Nat)).map tx) [none,some (Str.ofString "of"),none,some (Str.ofString "for"),none] = false from rfl]
    refine iteF ?_
    have S4:=s3.trans s4
    refine ⟨_,rfl,(by show 8 <= sizeLine; decide),fun l3 h3=>?_⟩
    have s5:=S4.trans (jA h3 (.lst [V.str (Str.ofString "up"),.str (Str.ofString "to"),.non,.str (Str.ofString "of"),.non,.str (Str.ofString "for"),.non,.str (Str.ofString "each")]))
    have e5:upd H4 l3 (.lst [V.str (Str.ofString "up"),.str (Str.ofString "to"),.non,.str (Str.ofString "of"),.non,.str (Str.ofString "for"),.non,.str (Str.ofString "each")]) l3 = some (.lst [V.str (Str.ofString "up"),.str (Str.ofString "to"),.non,.str (Str.ofString "of"),.non,.str (Str.ofString "for"),.non,.str (Str.ofString "each")]):=jm
    generalize upd H4 l3 (.lst [V.str (Str.ofString "up"),.str (Str.ofString "to"),.non,.str (Str.ofString "of"),.non,.str (Str.ofString "for"),.non,.str (Str.ofString "each")]) = H5 at s5 e5 ⊢
    refine ⟨wl,l3,_,[some (Str.ofString "up"),some (Str.ofString "to"),none,some (Str.ofString "of"),none,some (Str.ofString "for"),none,some (Str.ofString "each")],rfl,s5.seq hw,SqL.of e5,(by show 8 <= 20; decide),fun H6 s6=>⟨_,rfl,?_⟩⟩
    rw [show hasF (([wUp,wTo,numL (l:Nat),wOf,pl,wFor,numL m,jic]:List (List Nat)).map tx) [some (Str.ofString "up"),some (Str.ofString "to"),none,some (Str.ofString "of"),none,some (Str.ofString "for"),none,some (Str.ofString "each")] = true from rfl]
    refine iteT ?_
    have S6:=s5.trans s6
    refine ⟨_,rfl,wl,_,_,_,rfl,rfl,S6.seq hw,rfl,_,rfl,pl,a,ns,ks,k,rfl,JC.same S6 hSt,hp,fun H7 s7=>?_⟩
    have S7:=S6.trans s7
    refine ⟨_,rfl,wl,_,_,_,rfl,rfl,S7.seq hw,rfl,((l:Nat):Int),congrArg (fun z=>[V.str z]) (zu _).symm,by omega,by omega,fun H8 s8=>?_⟩
    have S8:=S7.trans s8
    refine ⟨_,rfl,wl,_,_,_,rfl,rfl,S8.seq hw,rfl,m,congrArg (fun z=>[V.str z]) (zu m).symm,hm.lo,by have:=hm.hi; omega,fun H9 s9=>fun x dx nx nd _=>?_⟩
    exact ⟨x,dx,k,l,m,rfl,k1,k2,c1,c2,hm,jm,rfl,q x _ ((S8.trans s9).trans (zR nx nd)) ⟨dx,jm⟩⟩
theorem jhT {f:Addr} {fd:FuncData} (F:Fun K "parted" "parted" jcy f fd) (jF:mg "parted" = some (.ref f)) (yQ:mg "enumerate" = none):jE P w K mg base 1 "parted" ["inner"] [] (jbE K):=by
  refine F.jT jF (bnd1 F fun _ _ _ _ _ _ _=>rfl) qL (fun vs H Q E h=>?_) (fun cdv A outer s H vs Q E hr h=>?_)
  · obtain ⟨xs,rfl,_⟩:=h; rfl
  obtain ⟨xs,rfl,h0,hP,hA,hz,q⟩:=h
  obtain ⟨pb,pe⟩:=jhW h0 hP
  generalize j6 [59,32] xs = L at hA hz pb pe ⊢
  have szL:L.length <= sizeLine:=by rw [sizeLine_eq]; omega
  refine ⟨_,(R.jk (R.jO (i:=1) qL.nd rfl (Or.inl rfl) (R.Jz R.jh))
    (R.jk (R.jO (i:=2) qL.nd rfl (Or.inl rfl) R.jg)
    (R.jk (R.jO (i:=3) qL.nd rfl (Or.inl rfl) R.jg)
    (R.jk (R.J4 PassesOwn.never rfl (R.jfj rfl yQ (R.pa_c (R.pv 0) R.jh)) (R.Zh K 2 rfl (R.JL (R.jP (i:=4) qL.nd rfl (Or.inl rfl)) (R.JL (R.jP (i:=5) qL.nd rfl (Or.inl rfl)) R.Yg))) (R.jn (R.j8 (R.jR JN (R.pv 5) R.jJ (jZ _)) (R.jn (R.jO (i:=3) qL.nd rfl (Or.inl rfl) (R.jD Jy (R.pv 3) R.jg))) (R.jn (R.j8 (R.jR JN (R.pv 5) R.jJ (jZ _)) (R.jn (R.jO (i:=3) qL.nd rfl (Or.inl rfl) (R.jD jaA (R.pv 3) R.jg))) (R.jn (R.j8 (R.pt (R.jcv (R.jR JN (R.pv 3) R.jg (jZ _)) (R.jaB (R.Jt (R.jct (R.pv 0) R.jJ (R.pv 4)))))) (R.jk (R.JQ (R.qg (R.pv 1) (R.pa_c (R.qT ZP (R.pv 0) (R.qC (R.pv 2)) (R.qC (R.pv 4))) R.jh)))
            (R.jn (R.jO (i:=2) qL.nd rfl (Or.inl rfl) (R.jD (opE0 Jy) (R.pv 4) R.jg)))) R.jL)))))))
    (R.jk (R.JQ (R.qg (R.pv 1) (R.pa_c (R.qT ZP (R.pv 0) (R.qC (R.pv 2)) R.Zy) R.jh)))
    (R.jn (R.jG (R.pv 1)))))))),?_⟩
  refine ⟨(by show 0 <= sizeLine; decide),fun lp hp=>?_⟩
  refine ⟨_,rfl,L,rfl,List.all_eq_true.mpr fun c hc=>decide_eq_true (hA c hc),?_⟩
  refine jjA (fun i σ H'=>i <= L.length /\ Same H H' /\ H' lp = some (.lst (((prun L i).1.map tx).map V.str)) /\ ∃ y1 y2,σ = [some (.str (tx L)),some (.ref lp),some (nv (prun L i).2.1),some (.int (prun L i).2.2),y1,y2]) ?_ ?_ ?_
  · exact ⟨Nat.zero_le _,jA hp _,jm,none,none,rfl⟩
  · rintro i c p σ H1 hc ⟨hi,s1,e1,y1,y2,rfl⟩ hpn
    have hil:i < L.length:=(List.getElem?_eq_some_iff.mp hc).1
    have hgd:L.getD i 0 = c:=by rw [List.getD_eq_getElem?_getD,hc]; rfl
    have s2:=s1.trans (jA hpn (.tup [V.int (i:Int),.str (tx [c])]))
    have e2:=jA hpn (.tup [V.int (i:Int),.str (tx [c])]) _ _ e1
    have ep:upd H1 p (.tup [V.int (i:Int),.str (tx [c])]) p = some (.tup [V.int (i:Int),.str (tx [c])]):=jm
    generalize upd H1 p (.tup [V.int (i:Int),.str (tx [c])]) = H2 at s2 e2 ep ⊢
    have step:prun L (i + 1) = Yh L i c (prun L i):=by rw [<- hgd]; rfl
    have few:=(jfl L i).1
    generalize prun L i = st at e2 step few ⊢
    obtain ⟨ps,b,w⟩:=st
    refine ⟨p,_,rfl,SqT.of ep,rfl,_,_,rfl,_,_,rfl,rfl,?_⟩
    refine ⟨_,rfl,rfl,_,rfl,?_⟩
    rw [show Str.ofString "(" = tx [40] from rfl,jjj]
    by_cases c1:c = 40
    · rw [decide_eq_true c1]
      refine iteT ⟨_,rfl,_,_,rfl,rfl,?_⟩
      have e:prun L (i + 1) = (ps,b,w + 1):=by rw [step]; unfold Yh; rw [if_pos c1]
      exact ⟨hil,s2,by rw [e]; exact e2,_,_,by rw [e]; rfl⟩
    rw [decide_eq_false c1]
    refine iteF ⟨_,rfl,rfl,_,rfl,?_⟩
    rw [show Str.ofString ")" = tx [41] from rfl,jjj]
    by_cases c2:c = 41
    · rw [decide_eq_true c2]
      refine iteT ⟨_,rfl,_,_,rfl,rfl,?_⟩
      have e:prun L (i + 1) = (ps,b,w - 1):=by rw [step]; unfold Yh; rw [if_neg c1,if_pos c2]
      exact ⟨hil,s2,by rw [e]; exact e2,_,_,by rw [e]; rfl⟩
    rw [decide_eq_false c2]
    refine iteF ⟨_,rfl,rfl,_,rfl,?_⟩
    have no:(¬ (w = 0 /\ semi L i = true))->i + 1 <= L.length /\ Same H H2 /\ H2 lp = some (.lst (((prun L (i + 1)).1.map tx).map V.str)) /\ ∃ y1 y2,([some (.str (tx L)),some (.ref lp),some (nv b),some (.int w),some (V.int (i:Int)),some (.str (tx [c]))]:L2.St) = [some (.str (tx L)),some (.ref lp),some (nv (prun L (i + 1)).2.1),some (.int (prun L (i + 1)).2.2),y1,y2]:=fun z=>by
      have e:prun L (i + 1) = (ps,b,w):=by rw [step]; unfold Yh; rw [if_neg c1,if_neg c2,if_neg z]
      exact ⟨hil,s2,by rw [e]; exact e2,_,_,by rw [e]⟩
    by_cases c3:w = 0
    · rw [show decide (V.int w = V.int 0) = true from decide_eq_true (by rw [c3])]
      refine iteT ⟨_,rfl,_,rfl,_,rfl,_,rfl,_,rfl,_,rfl,?_⟩
      rw [jhK,jiR]
      show if semi L i = true then _ else _
      by_cases c4:semi L i = true
      · rw [if_pos c4]
        have e:prun L (i + 1) = (ps ++ [(L.drop b).take (i - b)],i + 2,w):=by rw [step]; unfold Yh; rw [if_neg c1,if_neg c2,if_pos ⟨c3,c4⟩]
        refine ⟨_,rfl,.inl ⟨rfl,_,SqL.of e2⟩,_,rfl,_,rfl,_,rfl,_,rfl,_,rfl,_,rfl,szL,lp,_,_,rfl,rfl,e2,?_,?_⟩
        · rw [List.length_map,List.length_map]; rw [sizeLine_eq]; omega
        rw [cut_any L b i hi]
        refine ⟨_,rfl,_,_,nv (i + 2),rfl,rfl,rfl,hil,s2.upd hp _,?_,some (V.int (i:Int)),some (.str (tx [c])),?_⟩
        · rw [e,jm,List.map_append,List.map_append]; rfl
        · rw [e]; rfl
      · rw [if_neg c4]
        exact no fun z=>c4 z.2
    · rw [show decide (V.int w = V.int 0) = false from decide_eq_false (fun z=>c3 (V.int.inj z))]
      exact iteF (no fun z=>c3 z.1)
  · rintro σ H1 ⟨_,s1,e1,y1,y2,rfl⟩
    have few:=(jfl L L.length).1
    refine ⟨_,rfl,.inl ⟨rfl,_,SqL.of e1⟩,_,rfl,_,rfl,_,rfl,_,rfl,szL,lp,_,_,rfl,rfl,e1,?_,?_⟩
    · rw [List.length_map,List.length_map]; rw [sizeLine_eq]; omega
    rw [jeQ L _ pb]
    refine ⟨_,rfl,q lp _ (s1.upd hp _) hp ?_⟩
    rw [jm]
    conv=>rhs; rw [<- pe]
    rw [List.map_append,List.map_append]; rfl
end
end My
set_option Elab.async false
set_option linter.all false
set_option maxRecDepth 100000
set_option maxHeartbeats 4000000
namespace My
open PySem PySem.Spec PyProof.Rows L2 GM
section
variable {P:Program} {w:World} {K:PySem.W.Frag} {mg:Str->Option Value} {base:Heap}
variable {jr jj jc ji jb jd je jf:Addr}
theorem je9 (d:Nat) {f:Addr} {fd:FuncData} (F:Fun K "bids_told" "bids_told" yt f fd) (jF:mg "bids_told" = some (.ref f))
    (yW:jE P w K mg base (14 + 2 * d) "bid_told" ["text", "stock", "level"] [] (spBid K jr jj jc ji jb jd je jf d)) (z7:jE P w K mg base 1 "parted" ["inner"] [] (jbE K)) :
    jE P w K mg base (14 + 2 * d + 1) "bids_told" ["inner", "stock", "level"] [] (spBids K jr jj jc ji jb jd je jf d):=by
  refine F.jT jF (bnd3 F fun _ _ _ _ _ _ _ _ _=>rfl) jfE (fun vs H Q E h=>?_) (fun cdv A outer s H vs Q E hr h=>?_)
  · obtain ⟨xs,a,ns,ks,lv,ts,rfl,_⟩:=h; rfl
  obtain ⟨xs,a,ns,ks,lv,ts,rfl,hSt,hX,hlv,hd,hy,hz,q⟩:=h
  have hn:=ZD hSt
  have tl:=yd ts
  refine ⟨_,(R.jk (R.j8 (R.jR JN (R.pv 0) R.jJ (jZ _)) (R.jn (R.jG (R.Jz R.jh))) R.jL)
    (R.jn (R.jG (R.Jj (jt yt) ["inner", "stock", "level"] ["text"] ["stock", "level"] [1,2] rfl rfl rfl ⟨s.heap.objs.size + 1,rfl⟩ rfl rfl (by decide +kernel) (R.JF (R.jw z7 hr (by first | decide | omega) rfl (R.pa_c (R.pv 0) R.jh))) (fun C s2 H2 fp=>(R.jP (i:=0) (show List.Nodup (["text", "stock", "level"]:List Str) from by decide +kernel) rfl (Or.inl rfl))) (fun C s2 H2 fp=>R.JK) (fun C s2 H2 fp=>(R.jw yW hr (by first | decide | omega) rfl (R.pa_c (R.pv 0) (R.pa_c (R.pv 1) (R.pa_c (R.pv 2) R.jh))))))))),?_⟩
  refine ⟨_,rfl,rfl,_,rfl,?_⟩
  have fx:∀ x ∈ xs,∃ t,z8 ns (kdOf ks) d t x:=fun x hx=>by
    obtain ⟨i,hi,rfl⟩:=List.getElem_of_mem hx
    exact ⟨_,hX.2 i _ _ (List.getElem?_eq_getElem hi) (List.getElem?_eq_getElem (by rw [<- hX.1]; exact hi))⟩
  by_cases h0:xs = []
  · subst h0
    have ht:ts = []:=List.length_eq_zero_iff.mp hX.1.symm
    subst ht
    rw [show decide (V.str (tx (j6 [59,32] [])) = V.str (Str.ofString "")) = true from decide_eq_true rfl]
    refine iteT ⟨(by show 0 <= sizeLine; decide),fun l hl=>?_⟩
    exact q l _ [] (jA hl _) hl jm All2.nil
  · have hne:1 <= (j6 [59,32] xs).length:=by
      cases xs with
      | nil=>exact absurd rfl h0
      | cons x r =>
        obtain ⟨t,ht⟩:=fx x (List.mem_cons_self ..)
        have:=text_ne hn ht
        cases r with
        | nil=>exact this
        | cons y r=>show 1 <= (x ++ [59,32] ++ j6 [59,32] (y :: r)).length; rw [List.length_append,List.length_append]; omega
    rw [show decide (V.str (tx (j6 [59,32] xs)) = V.str (Str.ofString "")) = false from decide_eq_false (fun z=>by
      have z:=congrArg List.length (jhq (m:=[]) (V.str.inj z))
      rw [z] at hne; exact absurd hne (by decide))]
    refine iteF ?_
    refine ⟨_,rfl,xs,rfl,h0,fun x hx=>(yN hn d _ _ (fx x hx).choose_spec).1,?_,hz,fun lx H1 s1 hlx ex=>?_⟩
    · intro c hc
      rcases zT hc with ⟨p,hp,hcp⟩ | hc
      · exact (yN hn d _ _ (fx p hp).choose_spec).2.1 c hcp
      · simp only [List.mem_cons,List.not_mem_nil,or_false] at hc; omega
    refine ⟨lx,rfl,⟨_,SqL.of ex⟩,fun l2 h2=>?_⟩
    have lenx:∀ x ∈ xs,x.length <= (j6 [59,32] xs).length:=by
      intro x hx
      clear hX fx hz hne q ex
      induction xs with
      | nil=>cases hx
      | cons y r ih =>
        cases r with
        | nil=>rw [List.mem_singleton.mp hx]; exact Nat.le_refl _
        | cons z r =>
          have e:(j6 [59,32] (y :: z :: r)).length = y.length + 2 + (j6 [59,32] (z :: r)).length:=by
            show (y ++ [59,32] ++ j6 [59,32] (z :: r)).length = _
            rw [List.length_append,List.length_append]; rfl
          rcases List.mem_cons.mp hx with rfl | hx
          · omega
          · have:=ih (by simp) hx; omega
    refine qQ (xs:=(xs.map tx).map V.str) (fun k H'=>Same H1 H' /\ ∃ bs:List Addr,H' l2 = some (.lst (bs.map V.ref)) /\ All2 (IsTr jr jj jc ji jd je (fun x=>H1 x = none /\ x ≠ l2) H' d) bs (ts.take k)) ⟨jA h2 _,[],jm,All2.nil⟩ (fun k H' _ ⟨s',_⟩=>SqL.of (s' _ _ ex)) ?_ ?_
    · rintro k v H2 hv ⟨s2,bs,e2,hB⟩ K1 K0 k1 k0
      rw [List.map_map,List.getElem?_map] at hv
      obtain ⟨x,hx,rfl⟩:=Option.map_eq_some_iff.mp hv
      have hk:k < ts.length:=by rw [<- hX.1]; exact (List.getElem?_eq_some_iff.mp hx).1
      have ht:ts[k]? = some ts[k]:=List.getElem?_eq_getElem hk
      have mt:=qG (List.mem_of_getElem? ht)
      have md:=Qh (List.mem_of_getElem? ht)
      have hxl:=lenx x (List.mem_of_getElem? hx)
      refine ⟨_,rfl,_,rfl,_,rfl,x,a,ns,ks,lv,ts[k],rfl,JC.same (s1.trans s2) hSt,hX.2 k _ _ hx ht,hlv,by omega,by omega,by omega,fun b H3 s3 it=>k1 _ _ _ (s3 _ _ e2) ?_ ⟨(s2.trans s3).upd h2 _,bs ++ [b],by rw [jm,List.map_append]; rfl,?_⟩⟩
      · rw [List.length_map,hB.1,List.length_take]; exact Je (by omega)
      · rw [List.take_succ,ht]
        have n2:¬ (H1 l2 = none /\ l2 ≠ l2):=fun z=>z.2 rfl
        exact (hB.imp fun x y _ z=>(IsTr.same s3 z).put (s3 _ _ e2) n2).snoc ((it.imp fun x zs hx _=>⟨s2.free hx,fun z=>by rw [z,e2] at hx; cases hx⟩).put (s3 _ _ e2) n2)
    · rintro H2 ⟨s2,bs,e2,hB⟩
      rw [List.length_map,List.length_map,hX.1,List.take_length] at hB
      refine q l2 H2 bs (s1.trans s2) (s1.free h2) e2 (hB.imp fun _ _ _ z=>z.imp fun x zs hx _=>⟨s1.free hx.1,hx.2⟩)
theorem jfX (d:Nat) {f:Addr} {fd:FuncData} (F:Fun K "bid_told" "bid_told" zK f fd) (jF:mg "bid_told" = some (.ref f))
    (jb5:jE P w K mg base (14 + 2 * d + 1) "bids_told" ["inner", "stock", "level"] [] (spBids K jr jj jc ji jb jd je jf d)) (qj:jE P w K mg base 6 "plain_bid_told" ["words", "stock"] [] (yj K jr jj jc ji jb jd je jf))
    (jK:Own K mg "Bid" jr [])
    (jC:Own K mg "Only" jj ["bundle", "amount"])
    (jq:Own K mg "SoMany" jc ["kind", "least", "amount"])
    (jB:Own K mg "UpTo" ji ["kind", "most", "each"])
    (ju:Own K mg "Several" jb ["bids"])
    (jy:Own K mg "AnyOf" jd ["bids"])
    (jz:Own K mg "OneOf" je ["bids"])
    (jx:Own K mg "Stock" jf ["numbers", "kinds"])
    (yo:Qc P w K mg base 12 "AnyOf" jd ["self", "bids"] (j9 K jd jr jj jc ji jb jd je jf))
    (yp:Qc P w K mg base 12 "OneOf" je ["self", "bids"] (j9 K je jr jj jc ji jb jd je jf)) :
    jE P w K mg base (14 + 2 * d + 2) "bid_told" ["text", "stock", "level"] [] (spBid K jr jj jc ji jb jd je jf (d + 1)):=by
  refine F.jT jF (bnd3 F fun _ _ _ _ _ _ _ _ _=>rfl) jb8 (fun vs H Q E h=>?_) (fun cdv A outer s H vs Q E hr h=>?_)
  · obtain ⟨x,a,ns,ks,lv,t,rfl,_⟩:=h; rfl
  obtain ⟨x,a,ns,ks,lv,t,rfl,hSt,hT,hlv,hd,hy,hz,q⟩:=h
  have hn:=ZD hSt
  refine ⟨_,(R.jk (R.j8 (R.jR jdW (R.pv 2) R.jg (jZ _)) (R.jn R.JB) R.jL)
    (R.jk (R.j8 (R.pt (R.jcv (R.Jt (R.zU (R.pv 0) R.jJ)) (R.jaB (R.Jt (R.jes (R.pv 0) R.jJ))))) (R.jn (R.jG (R.QD yo hr (by first | decide | omega) rfl (R.pa_c (R.jw jb5 hr (by first | decide | omega) rfl (R.pa_c (R.qT ZP (R.pv 0) (R.qC R.jg) (R.qC (R.pe_un un_neg R.jg))) (R.pa_c (R.pv 1) (R.pa_c (R.jD (opE0 Jy) (R.pv 2) R.jg) R.jh)))) R.jh)))) R.jL)
    (R.jk (R.j8 (R.pt (R.jcv (R.Jt (R.zU (R.pv 0) R.jJ)) (R.jaB (R.Jt (R.jes (R.pv 0) R.jJ))))) (R.jn (R.jG (R.QD yp hr (by first | decide | omega) rfl (R.pa_c (R.jw jb5 hr (by first | decide | omega) rfl (R.pa_c (R.qT ZP (R.pv 0) (R.qC R.jg) (R.qC (R.pe_un un_neg R.jg))) (R.pa_c (R.pv 1) (R.pa_c (R.jD (opE0 Jy) (R.pv 2) R.jg) R.jh)))) R.jh)))) R.jL)
    (R.jn (R.jG (R.jw qj hr (by first | decide | omega) rfl (R.pa_c (R.jcX (R.pv 0) R.jJ) (R.pa_c (R.pv 1) R.jh)))))))),?_⟩
  refine ⟨_,rfl,_,_,rfl,rfl,_,rfl,?_⟩
  rw [decide_eq_false (show ¬ ((4:Int) < (lv:Int)) by omega)]
  refine iteF ?_
  have hz':(tx x).length <= 100000:=by rw [Ju]; omega
  have hz2:x.length <= sizeLine:=by rw [sizeLine_eq]; omega
  have ea:Str.ofString "any(" = tx wAny:=rfl
  have eo:Str.ofString "one(" = tx wOne:=rfl
  cases t with
  | leaf f =>
    obtain ⟨okf,ws,hW,rfl⟩:=hT
    obtain ⟨w1,w2,w3⟩:=jid hn okf hW
    obtain ⟨l1,l2⟩:=jh4 (x:=j6 [32] ws) fun c hc=>(je5 w1 c hc).1
    refine ⟨_,rfl,_,rfl,_,rfl,_,rfl,?_⟩
    rw [ea,l1]
    refine iteF ⟨_,rfl,_,rfl,_,rfl,_,rfl,?_⟩
    rw [eo,l2]
    refine iteF ?_
    refine ⟨_,rfl,_,rfl,hz',_,rfl,rfl,fun wl hwl=>?_⟩
    rw [show Str.ofString " " = tx [32] from rfl,jiu w1 w3]
    have s1:=jA hwl (.lst ((ws.map tx).map V.str))
    exact ⟨_,rfl,wl,a,ns,ks,ws,f,rfl,SqL.of jm,JC.same s1 hSt,okf,hW,fun b H' s' hb=>q b H' (s1.trans s') ⟨okf,hb⟩⟩
  | node any ts =>
    obtain ⟨xs,hX,rfl⟩:=hT
    have hd':1 + jW ts <= 4:=hd
    have hy':1 + jN ts <= 24:=hy
    have hlen:(j6 [59,32] xs).length <= 2000:=by
      rw [List.length_append,List.length_append] at hz; omega
    obtain ⟨l1,l2⟩:=jh3 any (j6 [59,32] xs)
    have le:Txt.endswith (tx (jaM any ++ j6 [59,32] xs ++ [41])) (Str.ofString ")") = true:=jjy _ 41
    have cut:=cut_in (jaM any) (j6 [59,32] xs) 41 (jbO any)
    cases any
    · refine ⟨_,rfl,_,rfl,_,rfl,_,rfl,?_⟩
      rw [ea,l1]
      refine iteF ⟨_,rfl,_,rfl,_,rfl,_,rfl,?_⟩
      rw [eo,l2]
      refine iteT ⟨_,rfl,_,rfl,_,rfl,_,rfl,?_⟩
      rw [le]
      refine iteT ?_
      refine ⟨_,rfl,_,rfl,_,rfl,_,rfl,_,rfl,hz2,_,rfl,_,rfl,_,_,nv (lv + 1),rfl,rfl,rfl,?_⟩
      rw [cut]
      refine ⟨xs,a,ns,ks,lv + 1,ts,rfl,hSt,hX,by omega,by omega,by omega,hlen,fun l H1 bs s1 hl e1 hB=>?_⟩
      refine fun x dx nx nd _=>?_
      have sx:Same H1 (upd (upd H1 dx (.own x)) x (.ins je dx [])):=((Same.refl H1).upd nd _).upd nx _
      refine ⟨x,dx,l,bs,ts,_,d,rfl,jm,.inr rfl,sx _ _ e1,hB.imp fun _ _ _ z=>z.same sx,by omega,by omega,fun H3 lb s3 h3=>⟨rfl,?_⟩⟩
      obtain ⟨S3,nb,it⟩:=jeq (jb:=jb) (any:=false) nx nd s3 h3 hB rfl
      exact q x _ (s1.trans S3) (it.imp fun y zs hy _=>hy.elim (fun z=>z.1) (fun z=>by rw [z]; exact s1.free nb))
    · refine ⟨_,rfl,_,rfl,_,rfl,_,rfl,?_⟩
      rw [ea,l1]
      refine iteT ⟨_,rfl,_,rfl,_,rfl,_,rfl,?_⟩
      rw [le]
      refine iteT ?_
      refine ⟨_,rfl,_,rfl,_,rfl,_,rfl,_,rfl,hz2,_,rfl,_,rfl,_,_,nv (lv + 1),rfl,rfl,rfl,?_⟩
      rw [cut]
      refine ⟨xs,a,ns,ks,lv + 1,ts,rfl,hSt,hX,by omega,by omega,by omega,hlen,fun l H1 bs s1 hl e1 hB=>?_⟩
      refine fun x dx nx nd _=>?_
      have sx:Same H1 (upd (upd H1 dx (.own x)) x (.ins jd dx [])):=((Same.refl H1).upd nd _).upd nx _
      refine ⟨x,dx,l,bs,ts,_,d,rfl,jm,.inl rfl,sx _ _ e1,hB.imp fun _ _ _ z=>z.same sx,by omega,by omega,fun H3 lb s3 h3=>⟨rfl,?_⟩⟩
      obtain ⟨S3,nb,it⟩:=jeq (jb:=jb) (any:=true) nx nd s3 h3 hB rfl
      exact q x _ (s1.trans S3) (it.imp fun y zs hy _=>hy.elim (fun z=>z.1) (fun z=>by rw [z]; exact s1.free nb))
theorem fam_read {f1 f2:Addr} {fd1 fd2:FuncData} (F1:Fun K "bid_told" "bid_told" zK f1 fd1) (g1:mg "bid_told" = some (.ref f1)) (F2:Fun K "bids_told" "bids_told" yt f2 fd2) (g2:mg "bids_told" = some (.ref f2))
    (z7:jE P w K mg base 1 "parted" ["inner"] [] (jbE K)) (qj:jE P w K mg base 6 "plain_bid_told" ["words", "stock"] [] (yj K jr jj jc ji jb jd je jf))
    (jK:Own K mg "Bid" jr [])
    (jC:Own K mg "Only" jj ["bundle", "amount"])
    (jq:Own K mg "SoMany" jc ["kind", "least", "amount"])
    (jB:Own K mg "UpTo" ji ["kind", "most", "each"])
    (ju:Own K mg "Several" jb ["bids"])
    (jy:Own K mg "AnyOf" jd ["bids"])
    (jz:Own K mg "OneOf" je ["bids"])
    (jx:Own K mg "Stock" jf ["numbers", "kinds"])
    (yo:Qc P w K mg base 12 "AnyOf" jd ["self", "bids"] (j9 K jd jr jj jc ji jb jd je jf))
    (yp:Qc P w K mg base 12 "OneOf" je ["self", "bids"] (j9 K je jr jj jc ji jb jd je jf)) :
    ∀ d,jE P w K mg base (14 + 2 * d) "bid_told" ["text", "stock", "level"] [] (spBid K jr jj jc ji jb jd je jf d):=by
  intro d
  induction d with
  | zero =>
    refine F1.jT g1 (bnd3 F1 fun _ _ _ _ _ _ _ _ _=>rfl) jb8 (fun vs H Q E h=>?_) (fun cdv A outer s H vs Q E hr h=>?_)
    · obtain ⟨x,a,ns,ks,lv,t,rfl,_⟩:=h; rfl
    · obtain ⟨x,a,ns,ks,lv,t,rfl,_,hT,_⟩:=h; exact hT.elim
  | succ d ih=>exact jfX d F1 g1 (je9 d F2 g2 ih z7) qj jK jC jq jB ju jy jz jx yo yp
theorem jf1 {f:Addr} {fd:FuncData} (F:Fun K "read_bid" "read_bid" jaE f fd) (jF:mg "read_bid" = some (.ref f)) (jY:mg "isinstance" = none) (YB:mg "str" = none) (Jl:mg "len" = none)
    (yW:jE P w K mg base 22 "bid_told" ["text", "stock", "level"] [] (jf6 K jr jj jc ji jb jd je jf)):jE P w K mg base 23 "read_bid" ["text", "stock"] [] (jcc K jr jj jc ji jb jd je jf):=by
  refine F.jT jF (bnd2 F fun _ _ _ _ _ _ _ _=>rfl) jf4 (fun vs H Q E h=>?_) (fun cdv A outer s H vs Q E hr h=>?_)
  · obtain ⟨x,a,ns,ks,t,rfl,_⟩:=h; rfl
  obtain ⟨x,a,ns,ks,t,rfl,hSt,hT,hd,hy,q⟩:=h
  have hn:=ZD hSt
  have hz:=jfU hn hT hy
  have hz2:(tx x).length <= sizeLine:=by rw [Ju,sizeLine_eq]; omega
  refine ⟨_,(R.jk (R.j8 (R.JZ (R.Jt (R.Zf .str rfl jY rfl YB (R.pv 0)))) (R.jn R.JB) R.jL)
    (R.jk (R.j8 (R.jR jdW (R.JM Yb rfl Jl PySem.boot_len (R.pa_c (R.pv 0) R.jh)) R.jg (jZ _)) (R.jn R.JB) R.jL)
    (R.jn (R.jev (R.jn (R.jG (R.jw yW hr (by first | decide | omega) rfl (R.pa_c (R.pv 0) (R.pa_c (R.pv 1) (R.pa_c R.jg R.jh)))))))))),?_⟩
  refine ⟨_,rfl,_,.str,rfl,TyOf.str _,_,rfl,iteF ?_⟩
  refine ⟨_,rfl,tx x,rfl,hz2,_,_,rfl,rfl,_,rfl,?_⟩
  rw [decide_eq_false (show ¬ ((2000:Int) < ((tx x).length:Int)) by rw [Ju]; omega)]
  refine iteF ?_
  exact ⟨_,rfl,_,rfl,x,a,ns,ks,1,t,rfl,hSt,hT,by omega,hd,hy,hz,q⟩
end
end My
set_option Elab.async false
set_option linter.all false
set_option maxRecDepth 100000
set_option maxHeartbeats 4000000
namespace My
open PySem PySem.Spec PyProof.Rows L2 GM
section
variable {P:Program} {w:World} {K:PySem.W.Frag} {mg:Str->Option Value} {base:Heap}
theorem jg1 {f:Addr} {fd:FuncData} (F:Fun K "_law_longest" "_law_longest" jbw f fd) (jF:mg "_law_longest" = some (.ref f)) (jQ:mg "range" = none)
    (j5:jE P w K mg base 1 "_law_cell" ["_law_script", "_law_k"] [] (yU K)):jE P w K mg base 2 "_law_longest" ["_law_script"] [] (jc4 K):=by
  refine F.jT jF (bnd1 F fun _ _ _ _ _ _ _=>rfl) jaF (fun vs H Q E h=>?_) (fun cdv A outer s H vs Q E hr h=>?_)
  · obtain ⟨a,sc,rfl,_⟩:=h; rfl
  obtain ⟨a,sc,rfl,hS,q⟩:=h
  refine ⟨_,(R.jk (R.jO (i:=1) jaF.nd rfl (Or.inl rfl) (R.Jz R.jh))
    (R.jk (R.J4 PassesOwn.never rfl (R.Ji rfl jQ (R.pa_c (R.jD (opE0 jaA) R.jg (R.jD (opE Jk) (R.jD Ql (R.jw j5 hr (by first | decide | omega) rfl (R.pa_c (R.pv 0) (R.pa_c R.jg R.jh))) R.jg) R.jg)) R.jh)) (R.jP (i:=2) jaF.nd rfl (Or.inl rfl)) (R.jn (R.JQ (R.qg (R.pv 1) (R.pa_c (R.yI (R.pa_c R.jJ (R.pa_c R.jg (R.pa_c (R.jD (opE0 jaA) R.jg (R.jD (opE Jk) (R.jD qz (R.pv 2) (R.jD (opE Jk) (R.jw j5 hr (by first | decide | omega) rfl (R.pa_c (R.pv 0) (R.pa_c R.jg R.jh))) R.jg)) R.jg)) (R.pa_c (R.jD (opE0 jaA) (R.jD jfe R.jg R.jg) (R.jD qz (R.pv 2) (R.jD (opE Jk) (R.jw j5 hr (by first | decide | omega) rfl (R.pa_c (R.pv 0) (R.pa_c R.jg R.jh))) R.jg))) R.jh))))) R.jh)))))
    (R.jn (R.jG (R.yI (R.pa_c (R.jX (R.ixL K) (R.Jz (R.pa_c R.jJ (R.pa_c R.jJ R.jh))) (R.jD (opE Jk) (R.jw j5 hr (by first | decide | omega) rfl (R.pa_c (R.pv 0) (R.pa_c R.jg R.jh))) R.jg) (fun _ _=>rfl)) (R.pa_c (R.pv 1) R.jh))))))),?_⟩
  refine ⟨(by show 0 <= sizeLine; decide),fun lf hf=>?_⟩
  have s0:=jA hf (.lst [])
  obtain ⟨c3,ec3,hc3⟩:=qO (JR sc 9 / 2) 3 (by decide)
  refine ⟨_,rfl,a,sc,9,rfl,s0.seq hS,by decide,fun H1 s1=>⟨_,_,rfl,rfl,⟨by decide,by decide⟩,_,_,nv c3,rfl,rfl,(by show (0:Int) < 3; decide),congrArg V.int ec3,_,_,nv (23 - c3),rfl,rfl,?_,_,rfl,by omega,by omega,?_⟩⟩
  · show V.int ((23:Int) - (c3:Int)) = V.int ((23 - c3:Nat):Int)
    congr 1; omega
  rw [Int.toNat_natCast]
  refine Q3 (n:=23 - c3) (lo:=0) (fun i σ H'=>Same H H' /\ (∃ (ps:List Addr) (ts:List Tr),H' lf = some (.lst (ps.map V.ref)) /\ All2 (FT (fun x=>x ≠ lf) H' 1) ps ts /\ jW ts <= 1 /\ jN ts = i /\ ts.length = i /\ L2.Sub (Jg ts) 6) /\ ∃ y,σ = [some (.ref a),some (.ref lf),y]) ?_ ?_ ?_
  · exact ⟨s0.trans s1,⟨[],[],s1 _ _ jm,All2.nil,Nat.zero_le _,rfl,rfl,by unfold L2.Sub; exact Nat.zero_or _⟩,_,rfl⟩
  · rintro k σ H3 hk ⟨s3,⟨ps,ts,ef,hPs,hd,hy,hl,hsp⟩,y,rfl⟩
    rw [Int.zero_add]
    have hS3:=s3.seq hS
    have pl:ps.length = ts.length:=hPs.1
    obtain ⟨u,eu,hu⟩:=qO (JR sc 10) 2 (by decide)
    obtain ⟨v,ev,hv⟩:=qO (JR sc 11) 2 (by decide)
    obtain ⟨r,er,hr6⟩:=qO ((k:Int) * (u:Int)) 6 (by decide)
    have ku:(k:Int) * (u:Int) <= 23 /\ 0 <= (k:Int) * (u:Int):=by
      rcases (by omega:u = 0 ∨ u = 1) with e | e <;> subst e <;> omega
    have kv:(k:Int) * (v:Int) <= 23 /\ 0 <= (k:Int) * (v:Int):=by
      rcases (by omega:v = 0 ∨ v = 1) with e | e <;> subst e <;> omega
    obtain ⟨z,hz⟩:∃ z:Int,z = 10 ^ 9 - (k:Int) * (v:Int):=⟨_,rfl⟩
    refine ⟨_,rfl,.inl ⟨rfl,_,SqL.of ef⟩,_,rfl,_,rfl,a,sc,10,rfl,hS3,by decide,fun H4 s4=>⟨_,_,nv u,rfl,rfl,(by show (0:Int) < 2; decide),congrArg V.int eu,_,_,rfl,rfl,Js (by omega),_,_,nv r,rfl,rfl,(by show (0:Int) < 6; decide),congrArg V.int er,_,_,nv (6 - r),rfl,rfl,?_,?_⟩⟩
    · show V.int ((6:Int) - (r:Int)) = V.int ((6 - r:Nat):Int)
      congr 1; omega
    refine ⟨_,_,rfl,rfl,⟨by decide,by decide,by decide⟩,_,rfl,_,rfl,a,sc,11,rfl,s4.seq hS3,by decide,fun H5 s5=>⟨_,_,nv v,rfl,rfl,(by show (0:Int) < 2; decide),congrArg V.int ev,_,_,rfl,rfl,Js (by omega),_,_,V.int z,rfl,rfl,(by rw [hz]; rfl),(by show 4 <= sizeLine; decide),fun p hp=>?_⟩⟩
    have z1:0 <= z:=by omega
    have z2:z <= 10 ^ 9:=by omega
    have s6:=jA hp (.tup [V.str "most",.int 63,nv (6 - r),.int z])
    have s36:=(s4.trans s5).trans s6
    have ef6:=s36 _ _ ef
    refine ⟨lf,_,_,rfl,rfl,ef6,by rw [List.length_map]; exact Je (by omega),?_⟩
    have nA:¬ (lf ≠ lf):=fun z=>z rfl
    have hF:FT (fun x=>x ≠ lf) (upd H5 p (.tup [V.str "most",.int 63,nv (6 - r),.int z])) 1 p (.leaf (.most 63 (6 - r) z)):=⟨⟨by decide,by decide,by omega,by omega,z1,z2⟩,63,6 - r,z,jm,by decide,⟨rfl,rfl,rfl⟩⟩
    generalize upd H5 p (.tup [V.str "most",.int 63,nv (6 - r),.int z]) = H6 at s6 s36 ef6 hF ⊢
    refine ⟨(s3.trans s36).upd hf _,⟨ps ++ [p],ts ++ [.leaf (.most 63 (6 - r) z)],by rw [jm,List.map_append]; rfl,(hPs.imp fun _ _ _ z=>(FT.same s36 z).put ef6 nA).snoc (hF.put ef6 nA),?_,?_,by rw [List.length_append,hl]; rfl,?_⟩,_,rfl⟩
    · rw [Qg]; show max _ (max 1 0) <= 1; omega
    · rw [qM]; show jN ts + (1 + 0) = k + 1; omega
    · rw [jbG]; exact Sub.or2 hsp (by show L2.Sub 63 6; unfold L2.Sub; decide)
  · rintro σ H3 ⟨s3,⟨ps,ts,ef,hPs,hd,hy,hl,hsp⟩,y,rfl⟩
    refine ⟨(by show 2 <= sizeLine; decide),fun lw2 hw=>?_⟩
    have s8:=jA hw (.lst [V.str "any",V.str "one"])
    obtain ⟨w2,ew2,hw2⟩:=qO (JR sc 9) 2 (by decide)
    obtain ⟨any,ea⟩:=ji5 hw2
    refine ⟨_,rfl,a,sc,9,rfl,(s3.trans s8).seq hS,by decide,fun H4 s4=>⟨_,_,nv w2,rfl,rfl,(by show (0:Int) < 2; decide),congrArg V.int ew2,lw2,_,_,_,rfl,rfl,SqL.of (s4 _ _ jm),ea,_,rfl,(by show 2 <= sizeLine; decide),fun p hp=>?_⟩⟩
    have s9:=jA hp (.tup [V.str (qe any),V.ref lf])
    have s89:=(s8.trans s4).trans s9
    refine q p _ (.node any ts) (s3.trans s89) (FT.to 2 4 ⟨lf,ps,jm,trivial,s89 _ _ ef,hPs.imp fun _ _ _ z=>(FT.same s89 z).imp fun _ _ _ _=>trivial⟩ ?_) ?_ ?_ hsp
    · show 1 + jW ts <= 4; omega
    · show 1 + jW ts <= 4; omega
    · show 1 + jN ts <= 24; omega
theorem jiz {f:Addr} {fd:FuncData} (F:Fun K "_law_eight" "_law_eight" jdz f fd) (jF:mg "_law_eight" = some (.ref f)) (jQ:mg "range" = none)
    (Qt:jE P w K mg base 1 "_law_word" ["_law_cell_here", "_law_size_here"] [] (jbV K))
    (j5:jE P w K mg base 1 "_law_cell" ["_law_script", "_law_k"] [] (yU K)):jE P w K mg base 2 "_law_eight" ["_law_script"] [] (jfL K):=by
  refine F.jT jF (bnd1 F fun _ _ _ _ _ _ _=>rfl) Zk (fun vs H Q E h=>?_) (fun cdv A outer s H vs Q E hr h=>?_)
  · obtain ⟨a,sc,rfl,_⟩:=h; rfl
  obtain ⟨a,sc,rfl,hS,q⟩:=h
  refine ⟨_,(R.jk (R.jO (i:=1) Zk.nd rfl (Or.inl rfl) (R.jw Qt hr (by first | decide | omega) rfl (R.pa_c (R.jw j5 hr (by first | decide | omega) rfl (R.pa_c (R.pv 0) (R.pa_c R.jg R.jh))) (R.pa_c R.jg R.jh))))
    (R.jk (R.jO (i:=2) Zk.nd rfl (Or.inl rfl) (R.jD (opE Jk) (R.jw j5 hr (by first | decide | omega) rfl (R.pa_c (R.pv 0) (R.pa_c R.jg R.jh))) R.jg))
    (R.jk (R.jO (i:=3) Zk.nd rfl (Or.inl rfl) (R.Jz R.jh))
    (R.jk (R.J4 PassesOwn.never rfl (R.Ji rfl jQ (R.pa_c R.jg R.jh)) (R.jP (i:=4) Zk.nd rfl (Or.inl rfl)) (R.jn (R.JQ (R.qg (R.pv 3) (R.pa_c (R.jD Jh (R.jD Jh (R.qT ZP (R.pv 1) R.Zy (R.qC (R.pv 2))) (R.jw Qt hr (by first | decide | omega) rfl (R.pa_c (R.jD Jy (R.jD Jk (R.jD Ql (R.jw j5 hr (by first | decide | omega) rfl (R.pa_c (R.pv 0) (R.pa_c R.jg R.jh))) R.jg) R.jg) (R.jD qz R.jg (R.pv 4))) (R.pa_c R.jg R.jh)))) (R.qT ZP (R.pv 1) (R.qC (R.jD Jy (R.pv 2) R.jg)) R.Zy)) R.jh)))))
    (R.jn (R.jG (R.pv 3))))))),?_⟩
  refine ⟨_,rfl,a,sc,2,rfl,hS,by decide,fun H1 s1=>⟨_,8,rfl,by decide,fun H2 s2=>?_⟩⟩
  have s12:=s1.trans s2
  have hb:=qU (JR sc 2) 8
  have hlb:=jbZ (JR sc 2) 8
  generalize yu (JR sc 2) 8 = b at hb hlb ⊢
  obtain ⟨v,hv,hv8⟩:=modn (JR sc 3) 8 (by decide)
  refine ⟨_,rfl,a,sc,3,rfl,s12.seq hS,by decide,fun H3 s3=>⟨_,_,nv v,rfl,rfl,(by show (0:Int) < 8; decide),congrArg V.int hv,?_⟩⟩
  have s13:=s12.trans s3
  refine ⟨(by show 0 <= sizeLine; decide),fun l hl=>?_⟩
  have hl0:=jgA s13 hl
  have hx1:=Int.emod_nonneg (JR sc 3 / 8) (show (26:Int) ≠ 0 by decide)
  have hx2:=Int.emod_lt_of_pos (JR sc 3 / 8) (show (0:Int) < 26 by decide)
  have hg:=je2 (m:=6) (x:=JR sc 3 / 8 % 26) (st:=3) hb hlb (size:=8) (at_:=v) (by omega) (by omega) hv8 (by omega) ⟨hx1,hx2⟩ (by omega)
  refine ⟨_,rfl,by decide,by decide,?_⟩
  refine Q3 (n:=6) (lo:=0) (fun i σ H5=>(∃ x,σ = [some (.ref a),some (sv b),some (nv v),some (.ref l),x]) /\ Same H H5 /\ H5 l = some (.lst (((List.range i).map (third b 8 v (JR sc 3 / 8 % 26) 3)).map sv))) ⟨⟨_,rfl⟩,s13.trans (jA hl _),jm⟩ (fun i σ H5 hi hP=>?_) (fun σ H5 hP=>?_)
  · obtain ⟨⟨x,rfl⟩,s5,e5⟩:=hP
    rw [Int.zero_add]
    have lb:(tx (cutL b none (some (v:Int)))).length <= 8:=by rw [Ju]; exact Nat.le_trans (jbe _ _ _) (by omega)
    have lc:(tx (cutL b (some ((v:Int) + 1)) none)).length <= 8:=by rw [Ju]; exact Nat.le_trans (jbe _ _ _) (by omega)
    refine ⟨_,rfl,.inl ⟨rfl,_,SqL.of e5⟩,_,rfl,_,rfl,_,rfl,b,rfl,len8 (by omega),_,rfl,a,sc,3,rfl,s5.seq hS,by decide,fun H6 s6=>⟨_,_,rfl,rfl,⟨by decide,by decide⟩,_,_,rfl,rfl,(by show (0:Int) < 26; decide),_,rfl,_,_,rfl,rfl,Js (by omega),_,_,rfl,rfl,_,1,rfl,by decide,fun H7 s7=>?_⟩⟩
    have e7':=(s6.trans s7) _ _ e5
    have lw:(tx (yu (JR sc 3 / 8 % 26 + 3 * (i:Int)) 1)).length = 1:=by rw [Ju,qU]
    refine ⟨_,_,rfl,rfl,(by rw [sizeLine_eq]; omega),_,rfl,_,rfl,_,_,rfl,rfl,_,rfl,b,rfl,len8 (by omega),_,_,rfl,rfl,?_,l,_,_,rfl,rfl,e7',?_,?_⟩
    · rw [qx,Ju,List.length_append,qU,sizeLine_eq]
      rw [Ju] at lb
      omega
    · rw [List.length_map,List.length_map,List.length_range,sizeLine_eq]
      omega
    · refine ⟨⟨_,rfl⟩,((s5.trans s6).trans s7).upd hl0 _,?_⟩
      rw [jm,qx,qx,List.range_succ,List.map_append,List.map_append]
      have f1:cutL b none (some (v:Int)) = b.take v:=jeR b v
      have f2:cutL b (some ((v:Int) + 1)) none = (b.drop (v + 1)).take (8 - (v + 1)):=by
        have:=jeQ b (v + 1) (by omega)
        push_cast at this
        rw [this,List.take_of_length_le (by rw [List.length_drop]; omega)]
      rw [f1,f2,Int.mul_comm 3 (i:Int)]
      rfl
  · obtain ⟨⟨x,rfl⟩,s5,e5⟩:=hP
    exact ⟨_,rfl,q l H5 _ s5 hl0 e5 hg⟩
end
end My
set_option Elab.async false
set_option linter.all false
set_option maxRecDepth 100000
set_option maxHeartbeats 4000000
namespace My
open PySem PySem.Spec PyProof.Rows L2 GM
noncomputable def jgF (K:PySem.W.Frag) (jr jj jc ji jb jd je jf:Addr):Sp:=fun vs H Q _=>∃ (b p nl:Addr) (t:Tr) (A B:Addr->Prop) (ns:List Str) (m n:Nat),vs = [.ref b,.ref p,.ref nl,nv n] /\ IsTr jr jj jc ji jd je A H 4 b t /\ FT B H 4 p t /\ j7 t <= 4 /\ jV t <= 24 /\ NmAt K H nl ns /\ m <= 6 /\ m <= ns.length /\ L2.Sub (Ja t) m /\ n <= 6 /\ ∀ H',Same H H'->Q (.bl true) H'
section
variable {P:Program} {w:World} {K:PySem.W.Frag} {mg:Str->Option Value} {base:Heap}
variable {jr jj jc ji jb jd je jf:Addr}
theorem jjS {f:Addr} {fd:FuncData} (F:Fun K "_law_good" "_law_good" jft f fd) (jF:mg "_law_good" = some (.ref f)) (Z4:mg "zip" = none) (jY:mg "isinstance" = none) (ye:mg "list" = none) (Jl:mg "len" = none)
    (zQ:jE P w K mg base 7 "_law_table" ["_law_form_here", "_law_things"] [] (jiP K))
    (ZQ:jE P w K mg base 6 "_law_depth" ["_law_form_here"] [] (jiO K))
    (ZX:jE P w K mg base 6 "_law_tally" ["_law_form_here"] [] (jiQ K))
    (zX:jE P w K mg base 6 "_law_spoken" ["_law_form_here"] [] (jh1 K))
    (zc:jE P w K mg base 12 "_law_text" ["_law_form_here", "_law_names_here"] [] (jgH K))
    (jbM:jE P w K mg base 1 "_law_whole" ["_law_found"] [] (jfO K))
    (jK:Own K mg "Bid" jr [])
    (jC:Own K mg "Only" jj ["bundle", "amount"])
    (jq:Own K mg "SoMany" jc ["kind", "least", "amount"])
    (jB:Own K mg "UpTo" ji ["kind", "most", "each"])
    (ju:Own K mg "Several" jb ["bids"])
    (jy:Own K mg "AnyOf" jd ["bids"])
    (jz:Own K mg "OneOf" je ["bids"])
    (jx:Own K mg "Stock" jf ["numbers", "kinds"])
    (YC:∀ C sp,T_worths K jr jj jc ji jb jd je jf C sp->∃ ps,J9 P w K mg base 10 C "worths" ps sp)
    (jbf:∀ C sp,T_depth K jr jj jc ji jb jd je jf C sp->∃ ps,J9 P w K mg base 11 C "depth" ps sp)
    (jbg:∀ C sp,T_tally K jr jj jc ji jb jd je jf C sp->∃ ps,J9 P w K mg base 11 C "tally" ps sp)
    (Z0:∀ C sp,T_spoken K jr jj jc ji jb jd je jf C sp->∃ ps,J9 P w K mg base 6 C "spoken" ps sp)
    (zf:∀ C sp,ji4 K jr jj jc ji jb jd je jf C sp->∃ ps,J9 P w K mg base 14 C "words" ps sp)
    (yP:PySem.W.kitOne K (.ref jr) (.ref jr) = some true)
    (Q4:PySem.W.kitOne K (.ref jj) (.ref jr) = some true)
    (qR:PySem.W.kitOne K (.ref jc) (.ref jr) = some true)
    (Q5:PySem.W.kitOne K (.ref ji) (.ref jr) = some true)
    (yw:PySem.W.kitOne K (.ref jb) (.ref jr) = some true)
    (Qi:PySem.W.kitOne K (.ref jd) (.ref jr) = some true)
    (Qj:PySem.W.kitOne K (.ref je) (.ref jr) = some true)
    (Y0:PySem.W.kitOne K (.ref jf) (.ref jr) = some false):jE P w K mg base 15 "_law_good" ["_law_bid", "_law_form_here", "_law_names_here", "_law_things"] [] (jgF K jr jj jc ji jb jd je jf):=by
  have isB:∀ {H:Hp} {b:Addr} {d:Nat} {A:Addr->Prop} {t:Tr},IsTr jr jj jc ji jd je A H d b t->∃ t,TyOf K H (.ref b) t /\ PySem.W.kitOne K t (.ref jr) = some true:=fun {H b d A t} hb=>by
    cases d with
    | zero=>exact hb.elim
    | succ d =>
      cases t with
      | leaf f =>
        obtain ⟨_,hb⟩:=hb
        cases f <;> obtain ⟨dx,e⟩:=hb
        · exact ⟨_,jK.ty e,yP⟩
        · exact ⟨_,jC.ty e,Q4⟩
        · exact ⟨_,jq.ty e,qR⟩
        · exact ⟨_,jB.ty e,Q5⟩
      | node any ts =>
        obtain ⟨dx,l,bs,e,_⟩:=hb
        cases any
        · exact ⟨_,jz.ty e,Qj⟩
        · exact ⟨_,jy.ty e,Qi⟩
  refine F.jT jF (bnd4 F fun _ _ _ _ _ _ _ _ _ _=>rfl) yR (fun vs H Q E h=>?_) (fun cdv A outer s H vs Q E hr h=>?_)
  · obtain ⟨b,p,nl,t,A,B,ns,m,n,rfl,_⟩:=h; rfl
  obtain ⟨b,p,nl,t,A,B,ns,m,n,rfl,hI,hF,hd,hy,hN,hm,hmn,hs,hn,q⟩:=h
  have few:jV t <= 100:=by omega
  have hI5:=IsTr.to 4 5 hI (by omega)
  have hF5:=FT.to 4 5 hF (by omega)
  obtain ⟨f1,f2⟩:=pow6 hn
  refine ⟨_,(R.jk (R.jO (i:=4) yR.nd rfl (Or.inl rfl) (R.Jz (R.pa_c (R.Q6 (R.pv 0) jbf hr (by first | decide | omega)) (R.pa_c (R.Q6 (R.pv 0) jbg hr (by first | decide | omega)) (R.pa_c (R.Q6 (R.pv 0) Z0 hr (by first | decide | omega)) R.jh)))))
    (R.jk (R.J4 PassesOwn.never rfl (R.jcu rfl Z4 (R.pa_c (R.pv 4) (R.pa_c (R.Jz (R.pa_c (R.jw ZQ hr (by first | decide | omega) rfl (R.pa_c (R.pv 1) R.jh)) (R.pa_c (R.jw ZX hr (by first | decide | omega) rfl (R.pa_c (R.pv 1) R.jh)) (R.pa_c (R.jw zX hr (by first | decide | omega) rfl (R.pa_c (R.pv 1) R.jh)) R.jh)))) R.jh))) (R.Zh K 2 rfl (R.JL (R.jP (i:=5) yR.nd rfl (Or.inl rfl)) (R.JL (R.jP (i:=6) yR.nd rfl (Or.inl rfl)) R.Yg))) (R.jn (R.j8 (R.pt (R.Zi (R.JZ (R.Jt (R.jw jbM hr (by first | decide | omega) rfl (R.pa_c (R.pv 5) R.jh)))) (R.Yi (R.jR jgx (R.pv 5) (R.pv 6) (jZ _))))) (R.jn (R.jG R.jaV)) R.jL)))
    (R.jk (R.j8 (R.pt (R.Zi (R.jR jgx (R.yr (R.pv 0) zf hr (by first | decide | omega) (R.pa_c (R.YD jcK rfl ye (boot_list) (R.pa_c (R.pv 2) R.jh)) R.jh)) (R.jw zc hr (by first | decide | omega) rfl (R.pa_c (R.pv 1) (R.pa_c (R.pv 2) R.jh))) (jZ _)) (R.Yi (R.JZ (R.Jt (R.jhY rfl jY rfl jK.at_ (R.pv 0))))))) (R.jn (R.jG R.jaV)) R.jL)
    (R.jk (R.jO (i:=5) yR.nd rfl (Or.inl rfl) (R.yr (R.pv 0) YC hr (by first | decide | omega) (R.pa_c (R.pv 3) R.jh)))
    (R.jk (R.jO (i:=6) yR.nd rfl (Or.inl rfl) (R.jw zQ hr (by first | decide | omega) rfl (R.pa_c (R.pv 1) (R.pa_c (R.pv 3) R.jh))))
    (R.jk (R.j8 (R.pt (R.Zi (R.JZ (R.Jt (R.Zf .lst rfl jY rfl ye (R.pv 5)))) (R.Yi (R.jR jgx (R.JM Jf rfl Jl PySem.boot_len (R.pa_c (R.pv 5) R.jh)) (R.JM Jf rfl Jl PySem.boot_len (R.pa_c (R.pv 6) R.jh)) (jZ _))))) (R.jn (R.jG R.jaV)) R.jL)
    (R.jk (R.J4 PassesOwn.never rfl (R.jcu rfl Z4 (R.pa_c (R.pv 5) (R.pa_c (R.pv 6) R.jh))) (R.Zh K 2 rfl (R.JL (R.jP (i:=7) yR.nd rfl (Or.inl rfl)) (R.JL (R.jP (i:=8) yR.nd rfl (Or.inl rfl)) R.Yg))) (R.jn (R.j8 (R.pt (R.Zi (R.JZ (R.Jt (R.jw jbM hr (by first | decide | omega) rfl (R.pa_c (R.pv 7) R.jh)))) (R.Yi (R.jR jgx (R.pv 7) (R.pv 8) (jZ _))))) (R.jn (R.jG R.jaV)) R.jL)))
    (R.jn (R.jG R.jaV))))))))),?_⟩
  obtain ⟨C1,x1,k1,p1,a1,b1,c1,d1⟩:=jga K (jb:=jb) (jf:=jf) hI5 few
  refine ⟨_,rfl,b,C1,x1,k1,p1,rfl,a1,b1,c1,d1 _ fun H1 s1=>?_⟩
  obtain ⟨C2,x2,k2,p2,a2,b2,c2,d2⟩:=jgb K (jb:=jb) (jf:=jf) (IsTr.same s1 hI5) few
  refine ⟨_,rfl,b,C2,x2,k2,p2,rfl,a2,b2,c2,d2 _ fun H2 s2=>?_⟩
  have s12:=s1.trans s2
  obtain ⟨C3,x3,k3,p3,a3,b3,c3,d3⟩:=jeI K (jb:=jb) (jf:=jf) (IsTr.same s12 hI5) few
  refine ⟨_,rfl,b,C3,x3,k3,p3,rfl,a3,b3,c3,d3 _ fun H3 s3=>?_⟩
  have s13:=s12.trans s3
  refine ⟨(by show 3 <= sizeLine; decide),fun lt hlt=>?_⟩
  have s4:=s13.trans (jA hlt (.lst [nv (j7 t),nv (jV t),nv (Ja t)]))
  have et:upd H3 lt (.lst [nv (j7 t),nv (jV t),nv (Ja t)]) lt = some (.lst [nv (j7 t),nv (jV t),nv (Ja t)]):=jm
  generalize upd H3 lt (.lst [nv (j7 t),nv (jV t),nv (Ja t)]) = H4 at s4 et ⊢
  refine ⟨_,rfl,_,rfl,p,t,B,rfl,FT.same s4 hF5,few,fun H5 s5=>?_⟩
  refine ⟨_,rfl,p,t,B,rfl,FT.same (s4.trans s5) hF5,few,fun H6 s6=>?_⟩
  have s46:=s5.trans s6
  refine ⟨_,rfl,p,t,B,rfl,FT.same (s4.trans s46) hF5,few,fun H7 s7=>⟨(by show 3 <= sizeLine; decide),fun ld hld=>?_⟩⟩
  have s47:=s46.trans s7
  have s48:=s47.trans (jA hld (.lst [nv (j7 t),nv (jV t),nv (Ja t)]))
  have ed:upd H7 ld (.lst [nv (j7 t),nv (jV t),nv (Ja t)]) ld = some (.lst [nv (j7 t),nv (jV t),nv (Ja t)]):=jm
  generalize upd H7 ld (.lst [nv (j7 t),nv (jV t),nv (Ja t)]) = H8 at s48 ed ⊢
  have et8:=s48 _ _ et
  have s08:=s4.trans s48
  refine ⟨lt,ld,rfl,⟨_,SqL.of et8⟩,⟨_,SqL.of ed⟩,?_⟩
  refine jjb (xs:=[j7 t,jV t,Ja t].map nv) (ys:=[j7 t,jV t,Ja t].map nv) rfl (fun i σ H'=>Same H8 H' /\ ∃ y1 y2,σ = [some (.ref b),some (.ref p),some (.ref nl),some (nv n),some (.ref lt),y1,y2,none,none]) ⟨Same.refl _,_,_,rfl⟩ (fun i σ H' _ ⟨s,_⟩=>⟨SqL.of (s _ _ et8),SqL.of (s _ _ ed)⟩) ?_ ?_
  · rintro i x y pp σ H9 hx hy2 ⟨s9,y1,y2,rfl⟩ hpp
    have exy:x = y:=Option.some.inj (hx.symm.trans hy2)
    subst exy
    rw [List.getElem?_map] at hx
    obtain ⟨z,_,rfl⟩:=Option.map_eq_some_iff.mp hx
    have sp:=jA hpp (.tup [nv z,nv z])
    refine ⟨pp,_,rfl,SqT.of jm,rfl,_,_,rfl,_,_,rfl,rfl,?_⟩
    refine ⟨_,rfl,_,.int,rfl,TyOf.int _,_,rfl,iteF ⟨_,rfl,_,rfl,rfl,_,rfl,?_⟩⟩
    rw [decide_eq_true rfl]
    exact iteF ⟨s9.trans sp,_,_,rfl⟩
  rintro σ H9 ⟨s9,y1,y2,rfl⟩
  have s09:=s08.trans s9
  have hN9:=hN.same s09
  obtain ⟨C,dx,ff,sp,g1,g2,g3,g4⟩:=jde K (jb:=jb) (jf:=jf) (IsTr.same s09 hI5) few hm hs
  refine ⟨_,rfl,b,C,dx,ff,sp,rfl,g1,g2,g3,_,rfl,nl,_,rfl,.inl hN9.1,fun lh hh=>?_⟩
  have s10:=jA hh (.lst (ns.map V.str))
  refine g4 _ lh ns s10 ⟨SqL.of jm,hN9.2⟩ hmn _ fun H11 s11=>?_
  have s911:=s10.trans s11
  have s011:=s09.trans s911
  refine ⟨_,rfl,_,rfl,p,t,B,nl,ns,m,rfl,FT.same s011 hF,few,hN.same s011,hm,hmn,hs,fun H12 s12=>⟨rfl,_,rfl,?_⟩⟩
  rw [decide_eq_true rfl]
  refine iteF ?_
  have s012:=s011.trans s12
  obtain ⟨ty,hty,hk⟩:=isB (IsTr.same s012 hI)
  refine ⟨_,rfl,_,ty,true,rfl,hty,hk,_,rfl,iteF ?_⟩
  obtain ⟨Cw,dw,fw,spw,w1,w2,w3,w4⟩:=jci K (jb:=jb) (jf:=jf) hn (IsTr.same s012 hI)
  refine ⟨_,rfl,b,Cw,dw,fw,spw,rfl,w1,w2,w3,_,rfl,w4 _ fun lf H13 s13' hlf ef=>?_⟩
  have s013:=s012.trans s13'
  refine ⟨_,rfl,_,rfl,p,t,B,n,rfl,hn,FT.same s013 hF,fun lg H14 s14 hlg eg=>?_⟩
  have ef14:=s14 _ _ ef
  refine ⟨_,rfl,_,.lst,rfl,TyOf.lst ef14,_,rfl,iteF ?_⟩
  refine ⟨_,rfl,lf,_,rfl,.inl (SqL.of ef14),_,rfl,lg,_,rfl,.inl (SqL.of eg),rfl,_,rfl,?_⟩
  rw [decide_eq_true rfl]
  refine iteF ?_
  have s014:=s013.trans s14
  refine ⟨_,rfl,_,rfl,lf,lg,rfl,⟨_,SqL.of ef14⟩,⟨_,SqL.of eg⟩,?_⟩
  refine jjb (xs:=(tab (Qa t) n).map V.int) (ys:=(tab (Qa t) n).map V.int) rfl (fun i σ H'=>Same H14 H' /\ ∃ y1 y2,σ = [some (.ref b),some (.ref p),some (.ref nl),some (nv n),some (.ref lt),some (.ref lf),some (.ref lg),y1,y2]) ⟨Same.refl _,_,_,rfl⟩ (fun i σ H' _ ⟨s,_⟩=>⟨SqL.of (s _ _ ef14),SqL.of (s _ _ eg)⟩) ?_ ?_
  · rintro i x y pp σ H15 hx hy2 ⟨s15,y1,y2,rfl⟩ hpp
    have exy:x = y:=Option.some.inj (hx.symm.trans hy2)
    subst exy
    rw [List.getElem?_map] at hx
    obtain ⟨z,_,rfl⟩:=Option.map_eq_some_iff.mp hx
    have sp:=jA hpp (.tup [V.int z,V.int z])
    refine ⟨pp,_,rfl,SqT.of jm,rfl,_,_,rfl,_,_,rfl,rfl,?_⟩
    refine ⟨_,rfl,_,.int,rfl,TyOf.int _,_,rfl,iteF ⟨_,rfl,_,rfl,rfl,_,rfl,?_⟩⟩
    rw [decide_eq_true rfl]
    exact iteF ⟨s15.trans sp,_,_,rfl⟩
  rintro σ H15 ⟨s15,y1,y2,rfl⟩
  exact q H15 (s014.trans s15)
end
end My
set_option Elab.async false
set_option linter.all false
namespace L2
open PySem PySem.Spec PyProof.Rows PySem.W
structure FnIn (K:Frag) (f:Addr) (x q:Str) (st:Stmt):Prop where
  ex:∃ oc od kV dc pm an cd ct sl,K.lookup f = some ⟨oc,od,.func (fnOf x q (qy st) (JT st) (jt st) .none kV dc pm an cd ct),sl⟩ /\ codeIn K cd q = true
  kp:keepIn K (.ref f) = true
  fn:isFn K (.ref f) = true
theorem FnIn.of {K:Frag} {f:Addr} {x q:Str} {st:Stmt} {oc kV dc pm cd ct:Value} {od an:Option Addr} {sl:Array (Option Value)} (l:K.lookup f = some ⟨oc,od,.func (fnOf x q (qy st) (JT st) (jt st) .none kV dc pm an cd ct),sl⟩) (c:codeIn K cd q = true) (k:keepIn K (.ref f) = true) (n:isFn K (.ref f) = true):FnIn K f x q st:=⟨⟨oc,od,kV,dc,pm,an,cd,ct,sl,l,c⟩,k,n⟩
theorem FnIn.go {K:Frag} {f:Addr} {x q:Str} {st:Stmt} (h:FnIn K f x q st):∃ fd,Fun K x q st f fd:=by
  obtain ⟨⟨_,_,_,_,_,_,_,_,_,l,c⟩,k,_⟩:=h
  exact ⟨_,fun_mk l c k⟩
structure GFn (K:Frag) (f:Addr) (x:Str) (st:Stmt):Prop where
  at_:nsIn K mainGlobals x = some (some (.ref f))
  fn:FnIn K f x x st
structure MFn (K:Frag) (C:Addr) (m:Str) (f:Addr) (q:Str) (st:Stmt):Prop where
  at_:findIn K (.ref C) m = some (some (.ref f))
  fn:FnIn K f m q st
section
variable {K:Frag} {h:Heap} {mg:Str->Option Value} {f C:Addr} {x q:Str} {st:Stmt}
theorem GFn.go (g:GFn K f x st) (X:K.In h) (G:h.Ns mainGlobals mg):(∃ fd,Fun K x x st f fd) /\ mg x = some (.ref f):=⟨g.fn.go,mg_of X G g.at_⟩
theorem MFn.go (g:MFn K C x f q st):(∃ fd,Fun K x q st f fd) /\ findIn K (.ref C) x = some (some (.ref f)) /\ isFn K (.ref f) = true /\ keepIn K (.ref f) = true:=⟨g.fn.go,g.at_,g.fn.fn,g.fn.kp⟩
end
noncomputable def jf7 (K:Frag) (C:Addr):List Str->Prop
  | []=>True
  | f :: fs=>findIn K (.ref C) f = some none /\ jf7 K C fs
structure Yy (K:Frag) (x:Str) (C:Addr) (fs:List Str):Prop where
  at_:nsIn K mainGlobals x = some (some (.ref C))
  pg:plainGet K C Str.empty = true
  hd:hasDictIn K C = true
  po:plainOver K C = true
  sa:findIn K (.ref C) "__setattr__" = some (some (.builtin "object.__setattr__"))
  mks:makesIn K C = true
  kp:keepIn K (.ref C) = true
  no:jf7 K C fs
  t1:findIn K (.ref C) "__class__" = some (some (.builtin "object.__class__"))
  t2:specialIn K (.builtin "object.__class__") "__get__" = some (some (.builtin "getset_descriptor.__get__"))
  t3:takesIn K (.builtin "object.__class__") = some true
  t4:mroIn K C (.type "object") = some true
theorem jf7.mem {K:Frag} {C:Addr}:∀ {fs:List Str},jf7 K C fs->∀ f ∈ fs,findIn K (.ref C) f = some none
  | [],_,_,h=>by cases h
  | g :: fs,n,f,h=>by
    rcases List.mem_cons.mp h with rfl | h
    · exact n.1
    · exact jf7.mem n.2 f h
theorem Yy.own {K:Frag} {h:Heap} {mg:Str->Option Value} {x:Str} {C:Addr} {fs:List Str} (c:Yy K x C fs) (X:K.In h) (G:h.Ns mainGlobals mg):Own K mg x C fs :=
  ⟨mg_of X G c.at_,⟨c.pg,c.hd,c.po,c.sa⟩,c.mks,c.kp,fun f hf=>jf7.mem c.no f hf,c.t1,c.t2,c.t3,c.t4⟩
theorem GFn.of {K:Frag} {f:Addr} {x:Str} {st:Stmt} {oc kV dc pm cd ct:Value} {od an:Option Addr} {sl:Array (Option Value)} (a:nsIn K mainGlobals x = some (some (.ref f))) (l:K.lookup f = some ⟨oc,od,.func (fnOf x x (qy st) (JT st) (jt st) .none kV dc pm an cd ct),sl⟩) (c:codeIn K cd x = true) (k:keepIn K (.ref f) = true) (n:isFn K (.ref f) = true):GFn K f x st:=⟨a,.of l c k n⟩
theorem MFn.of {K:Frag} {C f:Addr} {m q:Str} {st:Stmt} {oc kV dc pm cd ct:Value} {od an:Option Addr} {sl:Array (Option Value)} (a:findIn K (.ref C) m = some (some (.ref f))) (l:K.lookup f = some ⟨oc,od,.func (fnOf m q (qy st) (JT st) (jt st) .none kV dc pm an cd ct),sl⟩) (c:codeIn K cd q = true) (k:keepIn K (.ref f) = true) (n:isFn K (.ref f) = true):MFn K C m f q st:=⟨a,.of l c k n⟩
section
variable {K:Frag} {x:Str} {C:Addr} {f1 f2 f3:Str} (a1:nsIn K mainGlobals x = some (some (.ref C))) (a2:plainGet K C Str.empty = true) (a3:hasDictIn K C = true) (a4:plainOver K C = true) (a5:findIn K (.ref C) "__setattr__" = some (some (.builtin "object.__setattr__"))) (a6:makesIn K C = true) (a7:keepIn K (.ref C) = true)
  (t1:findIn K (.ref C) "__class__" = some (some (.builtin "object.__class__"))) (t2:specialIn K (.builtin "object.__class__") "__get__" = some (some (.builtin "getset_descriptor.__get__"))) (t3:takesIn K (.builtin "object.__class__") = some true) (t4:mroIn K C (.type "object") = some true)
include a1 a2 a3 a4 a5 a6 a7 t1 t2 t3 t4
theorem Yy.of0:Yy K x C []:=⟨a1,a2,a3,a4,a5,a6,a7,trivial,t1,t2,t3,t4⟩
theorem Yy.of1 (n1:findIn K (.ref C) f1 = some none):Yy K x C [f1]:=⟨a1,a2,a3,a4,a5,a6,a7,⟨n1,trivial⟩,t1,t2,t3,t4⟩
theorem Yy.of2 (n1:findIn K (.ref C) f1 = some none) (n2:findIn K (.ref C) f2 = some none):Yy K x C [f1,f2]:=⟨a1,a2,a3,a4,a5,a6,a7,⟨n1,n2,trivial⟩,t1,t2,t3,t4⟩
theorem Yy.of3 (n1:findIn K (.ref C) f1 = some none) (n2:findIn K (.ref C) f2 = some none) (n3:findIn K (.ref C) f3 = some none):Yy K x C [f1,f2,f3]:=⟨a1,a2,a3,a4,a5,a6,a7,⟨n1,n2,n3,trivial⟩,t1,t2,t3,t4⟩
end
end L2
set_option Elab.async false
set_option linter.all false
set_option maxRecDepth 100000
set_option maxHeartbeats 4000000
namespace My
open PySem PySem.Spec PyProof.Rows L2 GM
theorem jiT {c a dx:Addr} {H H':Hp} (h1:H a = none) (h2:H dx = none) (hB:But a (L2.upd (L2.upd H dx (.own a)) a (.ins c dx [])) H'):Same H H':=fun b o e=>by
  have n1:=jU e h1
  have n2:=jU e h2
  exact hB b o n1 (by rw [jM n1,jM n2]; exact e)
theorem jfI {c:TT} {t u:TS} {D:Ends} {σ:L2.St} {H:Hp} (M:L2.St->Hp->Prop) (h:(∀ σ' H',M σ' H'->u D σ' H')->tIfS c t tNext { D with nx:=u D } σ H) (h2:∀ σ' H',M σ' H'->u D σ' H'):tSeq (tIfS c t tNext) u D σ H:=h h2
theorem nine {z:Nat} (h:z < 9):∃ m:Nat,atI [V.int 6,.int 6,.int 6,.int 0,.int 1,.int 2,.int 3,.int 4,.int 5] (z:Int) = some (nv m) /\ m <= 6:=by
  rcases (by omega:z = 0 ∨ z = 1 ∨ z = 2 ∨ z = 3 ∨ z = 4 ∨ z = 5 ∨ z = 6 ∨ z = 7 ∨ z = 8) with e | e | e | e | e | e | e | e | e <;> subst e
  · exact ⟨6,rfl,by decide⟩
  · exact ⟨6,rfl,by decide⟩
  · exact ⟨6,rfl,by decide⟩
  · exact ⟨0,rfl,by decide⟩
  · exact ⟨1,rfl,by decide⟩
  · exact ⟨2,rfl,by decide⟩
  · exact ⟨3,rfl,by decide⟩
  · exact ⟨4,rfl,by decide⟩
  · exact ⟨5,rfl,by decide⟩
noncomputable def jhl (K:PySem.W.Frag):Sp:=fun vs H Q _=>∃ (a:Addr) (ns:List Int),vs = [.ref a] /\ SqL K H a (ns.map V.int) /\ ns.length <= 63 /\ ∀ H',Q (.bl true) H'
section
variable {P:Program} {w:World} {K:PySem.W.Frag} {mg:Str->Option Value} {base:Heap}
variable {jr jj jc ji jb jd je jf:Addr}
theorem ok_law {f:Addr} {fd:FuncData} (F:Fun K "law" "law" jb7 f fd) (jF:mg "law" = some (.ref f)) (jaN:mg "min" = none) (Jl:mg "len" = none) (jY:mg "isinstance" = none) (YB:mg "str" = none) (Z4:mg "zip" = none)
    (jdc:jE P w K mg base 2 "_law_names" ["_law_script", "_law_many"] [] (jfN K))
    (jez:jE P w K mg base 3 "_law_form" ["_law_script", "_law_last"] [] (jdO K))
    (ZV:jE P w K mg base 18 "_law_made" ["_law_form_here"] [] (jj6 K jr jj jc ji jb jd je jf))
    (ym:jE P w K mg base 15 "shown_bid" ["bid", "stock"] [] (jbF K jr jj jc ji jb jd je jf))
    (j5:jE P w K mg base 1 "_law_cell" ["_law_script", "_law_k"] [] (yU K))
    (jda:jE P w K mg base 2 "_law_eight" ["_law_script"] [] (jfL K))
    (ja8:jE P w K mg base 2 "_law_longest" ["_law_script"] [] (jc4 K))
    (jey:jE P w K mg base 3 "_law_flat" ["_law_script", "_law_last"] [] (jgE K))
    (jap:jE P w K mg base 23 "read_bid" ["text", "stock"] [] (jcc K jr jj jc ji jb jd je jf))
    (zc:jE P w K mg base 12 "_law_text" ["_law_form_here", "_law_names_here"] [] (jgH K))
    (jcI:jE P w K mg base 15 "_law_good" ["_law_bid", "_law_form_here", "_law_names_here", "_law_things"] [] (jgF K jr jj jc ji jb jd je jf))
    (jdb:jE P w K mg base 2 "_law_kinds" ["_law_script", "_law_names_here"] [] (jfM K))
    (jK:Own K mg "Bid" jr [])
    (jC:Own K mg "Only" jj ["bundle", "amount"])
    (jq:Own K mg "SoMany" jc ["kind", "least", "amount"])
    (jB:Own K mg "UpTo" ji ["kind", "most", "each"])
    (ju:Own K mg "Several" jb ["bids"])
    (jy:Own K mg "AnyOf" jd ["bids"])
    (jz:Own K mg "OneOf" je ["bids"])
    (jx:Own K mg "Stock" jf ["numbers", "kinds"])
    (jeE:Qc P w K mg base 4 "Stock" jf ["self", "rows"] (yh K jf)):FnOk P w K mg base CX0 24 f fd ["_law_script"] (jhl K):=by
  refine F.okQ YT (fun vs H Q E h=>?_) (fun cdv A outer s H vs Q E hr h=>?_)
  · obtain ⟨a,sc,rfl,_⟩:=h; rfl
  obtain ⟨a,sc,rfl,hS,_,q⟩:=h
  refine ⟨_,(R.jk (R.jO (i:=1) YT.nd rfl (Or.inl rfl) (R.jD (opE Jk) (R.jw j5 hr (by first | decide | omega) rfl (R.pa_c (R.pv 0) (R.pa_c R.jg R.jh))) R.jg))
    (R.jk (R.jO (i:=2) YT.nd rfl (Or.inl rfl) (R.jw jdc hr (by first | decide | omega) rfl (R.pa_c (R.pv 0) (R.pa_c (R.jX (R.ixL K) (R.Jz (R.pa_c R.jg (R.pa_c R.jg (R.pa_c R.jg (R.pa_c R.jg (R.pa_c R.jg (R.pa_c R.jg (R.pa_c R.jg (R.pa_c R.jg (R.pa_c R.jg R.jh)))))))))) (R.jD (opE Jk) (R.jw j5 hr (by first | decide | omega) rfl (R.pa_c (R.pv 0) (R.pa_c R.jg R.jh))) R.jg) (fun _ _=>rfl)) R.jh))))
    (R.jk (R.j8 (R.jR JN (R.pv 1) R.jg (jZ _)) (R.jn (R.jO (i:=2) YT.nd rfl (Or.inl rfl) (R.jw jda hr (by first | decide | omega) rfl (R.pa_c (R.pv 0) R.jh)))) R.jL)
    (R.jk (R.jO (i:=3) YT.nd rfl (Or.inl rfl) (R.QD jeE hr (by first | decide | omega) rfl (R.pa_c (R.Jj (jt jb7) ["_law_script", "_law_way", "_law_names_here", "_law_stock", "_law_last", "_law_form_here", "_law_bid", "_law_text_here", "_law_back", "_law_things"] ["_law_name", "_law_kind"] [] [] rfl rfl rfl ⟨s.heap.objs.size + 1,rfl⟩ rfl rfl (by decide +kernel) (R.jcu rfl Z4 (R.pa_c (R.pv 2) (R.pa_c (R.jw jdb hr (by first | decide | omega) rfl (R.pa_c (R.pv 0) (R.pa_c (R.pv 2) R.jh))) R.jh))) (fun C s2 H2 fp=>(R.Zh K 2 rfl (R.JL (R.jP (i:=0) (show List.Nodup (["_law_name", "_law_kind"]:List Str) from by decide +kernel) rfl (Or.inl rfl)) (R.JL (R.jP (i:=1) (show List.Nodup (["_law_name", "_law_kind"]:List Str) from by decide +kernel) rfl (Or.inl rfl)) R.Yg)))) (fun C s2 H2 fp=>R.JK) (fun C s2 H2 fp=>(R.yI (R.pa_c (R.pv 0) (R.pa_c (R.pv 1) R.jh))))) R.jh)))
    (R.jk (R.jO (i:=4) YT.nd rfl (Or.inl rfl) (R.jD (opE0 jaA) (R.jD yx R.jg (R.JM Jf rfl Jl PySem.boot_len (R.pa_c (R.pv 2) R.jh))) R.jg))
    (R.jk (R.jO (i:=5) YT.nd rfl (Or.inl rfl) (R.jw jez hr (by first | decide | omega) rfl (R.pa_c (R.pv 0) (R.pa_c (R.pv 4) R.jh))))
    (R.jk (R.j8 (R.jR JN (R.pv 1) R.jg (jZ _)) (R.jn (R.jO (i:=5) YT.nd rfl (Or.inl rfl) (R.jw ja8 hr (by first | decide | omega) rfl (R.pa_c (R.pv 0) R.jh)))) R.jL)
    (R.jk (R.j8 (R.jR JN (R.pv 1) R.jg (jZ _)) (R.jn (R.jO (i:=5) YT.nd rfl (Or.inl rfl) (R.jw jey hr (by first | decide | omega) rfl (R.pa_c (R.pv 0) (R.pa_c (R.pv 4) R.jh))))) R.jL)
    (R.jk (R.jO (i:=6) YT.nd rfl (Or.inl rfl) (R.jw ZV hr (by first | decide | omega) rfl (R.pa_c (R.pv 5) R.jh)))
    (R.jk (R.jO (i:=7) YT.nd rfl (Or.inl rfl) (R.jw ym hr (by first | decide | omega) rfl (R.pa_c (R.pv 6) (R.pa_c (R.pv 3) R.jh))))
    (R.jk (R.j8 (R.pt (R.Zi (R.JZ (R.Jt (R.Zf .str rfl jY rfl YB (R.pv 7)))) (R.Zi (R.jR jgx (R.pv 7) (R.jw zc hr (by first | decide | omega) rfl (R.pa_c (R.pv 5) (R.pa_c (R.pv 2) R.jh))) (jZ _)) (R.Yi (R.jR jdW (R.JM Yb rfl Jl PySem.boot_len (R.pa_c (R.pv 7) R.jh)) R.jg (jZ _)))))) (R.jn (R.jG R.jaV)) R.jL)
    (R.jk (R.jev (R.jn (R.jO (i:=8) YT.nd rfl (Or.inl rfl) (R.jw jap hr (by first | decide | omega) rfl (R.pa_c (R.pv 7) (R.pa_c (R.pv 3) R.jh))))))
    (R.jk (R.jO (i:=9) YT.nd rfl (Or.inl rfl) (R.JM (jdh rfl) rfl jaN (boot_min) (R.pa_c (R.JM Jf rfl Jl PySem.boot_len (R.pa_c (R.pv 2) R.jh)) (R.pa_c (R.jD (opE Jk) (R.jw j5 hr (by first | decide | omega) rfl (R.pa_c (R.pv 0) (R.pa_c R.jg R.jh))) R.jg) R.jh))))
    (R.jk (R.j8 (R.pt (R.Zi (R.JZ (R.Jt (R.jw jcI hr (by first | decide | omega) rfl (R.pa_c (R.pv 8) (R.pa_c (R.pv 5) (R.pa_c (R.pv 2) (R.pa_c (R.pv 9) R.jh))))))) (R.Yi (R.JZ (R.Jt (R.jw jcI hr (by first | decide | omega) rfl (R.pa_c (R.pv 6) (R.pa_c (R.pv 5) (R.pa_c (R.pv 2) (R.pa_c (R.pv 9) R.jh)))))))))) (R.jn (R.jG R.jaV)) R.jL)
    (R.jn (R.jG (R.jdy (R.Y5 JN (R.jw ym hr (by first | decide | omega) rfl (R.pa_c (R.pv 8) (R.pa_c (R.pv 3) R.jh))) (R.pv 7) (jZ _)) (R.jbr (R.Y5 JN (R.jw ym hr (by first | decide | omega) rfl (R.pa_c (R.pv 6) (R.pa_c (R.pv 3) R.jh))) (R.pv 7) (jZ _)))))))))))))))))))),?_⟩
  obtain ⟨w0,ew,hw⟩:=modn (JR sc 6) 4 (by decide)
  refine ⟨_,rfl,a,sc,6,rfl,hS,by decide,fun Ha sa=>⟨_,_,nv w0,rfl,rfl,(by show (0:Int) < 4; decide),congrArg V.int ew,?_⟩⟩
  obtain ⟨z9,ez9,hz9⟩:=modn (JR sc 0) 9 (by decide)
  obtain ⟨m0,em0,hm0⟩:=nine hz9
  refine ⟨_,rfl,(by show 9 <= sizeLine; decide),fun li hli=>?_⟩
  have sb:=sa.trans (jA hli (.lst [V.int 6,.int 6,.int 6,.int 0,.int 1,.int 2,.int 3,.int 4,.int 5]))
  have eli:upd Ha li (.lst [V.int 6,.int 6,.int 6,.int 0,.int 1,.int 2,.int 3,.int 4,.int 5]) li = some (.lst [V.int 6,.int 6,.int 6,.int 0,.int 1,.int 2,.int 3,.int 4,.int 5]):=jm
  generalize upd Ha li (.lst [V.int 6,.int 6,.int 6,.int 0,.int 1,.int 2,.int 3,.int 4,.int 5]) = Hb at sb eli ⊢
  refine ⟨_,rfl,a,sc,0,rfl,sb.seq hS,by decide,fun Hc s0=>⟨_,_,nv z9,rfl,rfl,(by show (0:Int) < 9; decide),congrArg V.int ez9,li,_,_,_,rfl,rfl,SqL.of (s0 _ _ eli),em0,a,sc,m0,rfl,(sb.trans s0).seq hS,hm0,fun l0 Hd ns0 sd hl00 hl0 hg0=>?_⟩⟩
  have sd:=(sb.trans s0).trans sd
  dsimp only [Ye]
  refine jfI (fun σ' H'=>∃ (l:Addr) (ns:List (List Nat)) (m:Nat),σ' = [some (.ref a),some (nv w0),some (.ref l),none,none,none,none,none,none,none] /\ Same H H' /\ H' l = some (.lst (ns.map sv)) /\ jb6 ns m /\ m <= 6 /\ (w0 = 0->m = 6)) (fun join=>?_) (fun σ' H2 hM=>?_)
  · refine ⟨_,rfl,rfl,_,rfl,ite2 (fun c=>?_) (fun c=>?_)⟩
    · exact ⟨_,rfl,a,sc,rfl,sd.seq hS,fun l H' ns s' hl' e' hg=>join _ _ ⟨l,ns,6,rfl,sd.trans s',e',hg,by decide,fun _=>rfl⟩⟩
    · exact join _ _ ⟨l0,ns0,m0,rfl,sd,hl0,hg0,hm0,fun z=>absurd (decide_eq_true (show nv w0 = V.int 0 by rw [z]; rfl)) c⟩
  obtain ⟨l,ns,m,rfl,s12,hl,hg,hm6,hw6⟩:=hM
  have hgl:=hg.1
  refine ⟨_,rfl,_,rfl,_,rfl,a,l,sc,ns,rfl,s12.seq hS,hl,by omega,hg.2.1,fun p H3 ks s3 hp0 hp hkl hko=>?_⟩
  have hl3:=s3 _ _ hl
  have s13:=s12.trans s3
  have hG:Good ns ks:=⟨by omega,hg.2.1,hg.2.2,hko⟩
  refine ⟨l,p,rfl,⟨_,SqL.of hl3⟩,⟨_,SqL.of hp⟩,fun r hr0=>?_⟩
  refine jdj (by rw [List.length_map,List.length_map]; exact hkl.symm) (fun i Hc=>Same H3 Hc /\ ∃ ps:List Addr,Hc r = some (.lst (ps.map V.ref)) /\ ps.length = i /\ ∀ (j:Nat) (b:Addr),ps[j]? = some b->∃ n k,ns[j]? = some n /\ ks[j]? = some k /\ Hc b = some (.tup [sv n,sv k]))
    ⟨jA hr0 _,[],jm,rfl,fun j b e=>by simp at e⟩ (fun i Hc _ h=>⟨SqL.of (h.1 _ _ hl3),SqL.of (h.1 _ _ hp)⟩) (fun i x y b Hc hx hy hP hb=>?_) (fun H4 h4=>?_)
  · rw [List.getElem?_map] at hx hy
    obtain ⟨n,hn,rfl⟩:=Option.map_eq_some_iff.mp hx
    obtain ⟨k,hk,rfl⟩:=Option.map_eq_some_iff.mp hy
    obtain ⟨sP,ps,e1,e2,e3⟩:=hP
    have sb:=jA hb (.tup [sv n,sv k])
    intro K1 K0 g1 g0
    unfold fNil
    dsimp only
    rw [if_pos rfl]
    refine ⟨_,rfl,_,rfl,(by show 2 <= sizeLine; decide),fun b2 hb2=>?_⟩
    have sb2:=jA hb2 (.tup [sv n,sv k])
    have e4:=(sb.trans sb2) _ _ e1
    have hi:i < ns.length:=(List.getElem?_eq_some_iff.mp hn).1
    refine g1 (.ref b2) _ _ e4 (by rw [List.length_map,e2,sizeLine_eq]; omega) ⟨((sP.trans sb).trans sb2).upd hr0 _,ps ++ [b2],?_,by rw [List.length_append,e2]; rfl,fun j c hc=>?_⟩
    · rw [jm,List.map_append]; rfl
    · have nr:∀ d u,upd (upd Hc b (.tup [sv n,sv k])) b2 (.tup [sv n,sv k]) d = some (.tup u)->d ≠ r:=fun d u e z=>by subst z; rw [e4] at e; cases e
      by_cases hj:j < ps.length
      · rw [List.getElem?_append_left hj] at hc
        obtain ⟨n',k',f1,f2,f3⟩:=e3 j c hc
        have f4:=(sb.trans sb2) _ _ f3
        exact ⟨n',k',f1,f2,by rw [jM (nr _ _ f4)]; exact f4⟩
      · have hj2:j = ps.length:=by
          have:=(List.getElem?_eq_some_iff.mp hc).1
          simp at this; omega
        subst hj2
        simp at hc
        subst hc
        rw [e2]
        exact ⟨n,k,hn,hk,by rw [jM (nr _ _ jm)]; exact jm⟩
  obtain ⟨s4,ps,hr4,hps,hrow⟩:=h4
  rw [List.length_map] at hps
  have hl4:=s4 _ _ hl3
  have s14:=s13.trans s4
  refine fun st dx hst hdx hne=>⟨st,dx,r,ns,ks,rfl,jm,⟨ps,?_,hps,hkl,fun j b e=>?_⟩,hG,fun H5 hB hI=>⟨rfl,?_⟩⟩
  · have n1:=jU hr4 hst
    have n2:=jU hr4 hdx
    rw [jM n1,jM n2]; exact hr4
  · obtain ⟨n,k,f1,f2,f3⟩:=hrow j b e
    have n1:=jU f3 hst
    have n2:=jU f3 hdx
    exact ⟨n,k,f1,f2,by rw [jM n1,jM n2]; exact f3⟩
  have s5:=jiT hst hdx hB
  have s15:=s14.trans s5
  have hl5:=s5 _ _ hl4
  have hml:(ns.map sv).length = m:=by rw [List.length_map]; exact hgl
  obtain ⟨f64,fpos⟩:=pow6 hm6
  refine ⟨_,rfl,l,_,rfl,.inl (SqL.of hl5),(ns.map sv).length,rfl,rfl,by omega,_,_,nv (2 ^ m - 1),rfl,rfl,?_,?_⟩
  · rw [hml]
    show V.int (((2 ^ m:Nat):Int) - 1) = V.int ((2 ^ m - 1:Nat):Int)
    congr 1; omega
  refine ⟨_,rfl,_,rfl,a,sc,m,rfl,s15.seq hS,hm6,fun pf0 H6 t0 s6 hF0 hd0 hy0 hsb0=>?_⟩
  dsimp only [Ye]
  refine jfI (fun σ' H'=>∃ (pf:Addr) (t:Tr),σ' = [some (.ref a),some (nv w0),some (.ref l),some (.ref st),some (nv (2 ^ m - 1)),some (.ref pf),none,none,none,none] /\ Same H5 H' /\ FT (fun _=>True) H' 4 pf t /\ j7 t <= 4 /\ jV t <= 24 /\ L2.Sub (Ja t) m) (fun join=>?_) (fun σ' H7 hM=>?_)
  · refine ⟨_,rfl,rfl,_,rfl,ite2 (fun c=>?_) (fun c=>?_)⟩
    · have c0:w0 = 0:=by have:=V.int.inj (of_decide_eq_true c); omega
      exact ⟨_,rfl,a,sc,rfl,(s15.trans s6).seq hS,fun pf H' t s' hF hd hy hsb=>join _ _ ⟨pf,t,rfl,s6.trans s',hF,hd,hy,by rw [hw6 c0]; exact hsb⟩⟩
    · exact join _ _ ⟨pf0,t0,rfl,s6,hF0,hd0,hy0,hsb0⟩
  clear hF0 hd0 hy0 hsb0 s6
  obtain ⟨pf1,t1,rfl,s7,hF1,hd1,hy1,hsb1⟩:=hM
  refine jfI (fun σ' H'=>∃ (pf:Addr) (t:Tr),σ' = [some (.ref a),some (nv w0),some (.ref l),some (.ref st),some (nv (2 ^ m - 1)),some (.ref pf),none,none,none,none] /\ Same H5 H' /\ FT (fun _=>True) H' 4 pf t /\ j7 t <= 4 /\ jV t <= 24 /\ L2.Sub (Ja t) m) (fun join=>?_) (fun σ' H8 hM=>?_)
  · refine ⟨_,rfl,rfl,_,rfl,ite2 (fun c=>?_) (fun c=>?_)⟩
    · exact ⟨_,rfl,_,rfl,a,sc,m,rfl,(s15.trans s7).seq hS,hm6,fun pf H' t s' hF hd hy hsb=>join _ _ ⟨pf,t,rfl,s7.trans s',hF,hd,hy,hsb⟩⟩
    · exact join _ _ ⟨pf1,t1,rfl,s7,hF1,hd1,hy1,hsb1⟩
  clear hF1 hd1 hy1 hsb1 s7
  obtain ⟨pf,t,rfl,s8,hF,hd,hy,hsb⟩:=hM
  have hokt:=FT.ok _ hF
  have hI8:=JC.same s8 hI
  have hl8:=s8 _ _ hl5
  have s18:=s15.trans s8
  have hsn:L2.Sub (Ja t) ns.length:=by rw [hgl]; exact hsb
  obtain ⟨x,hX,ex⟩:=text_canon (kd:=kdOf ks) (ns:=ns) (by omega) 4 t hd hokt hsn
  have hxs:=jfU (fun n hn=>jjf (hg.2.1 n hn)) hX hy
  have hN:∀ H',Same H8 H'->NmAt K H' l (ns.map tx):=fun H' S=>jhO (S _ _ hl8) hg.2.1 (by omega)
  have htl:m <= (ns.map tx).length:=by rw [List.length_map]; omega
  refine ⟨_,rfl,pf,t,_,rfl,hF,hd,hy,fun bb H9 s9 hT=>?_⟩
  have hT5:=IsTr.to 4 5 hT (by omega)
  refine ⟨_,rfl,_,rfl,bb,st,t,_,ns,ks,rfl,hT5,by omega,JC.same s9 hI8,hsn,fun H10 s10=>?_⟩
  rw [ex]
  have s910:=s9.trans s10
  refine ⟨_,rfl,_,.str,rfl,TyOf.str _,_,rfl,iteF ?_⟩
  refine ⟨_,rfl,_,rfl,_,rfl,pf,t,_,l,ns.map tx,m,rfl,FT.same s910 hF,by omega,hN _ s910,hm6,htl,hsb,fun H11 s11=>?_⟩
  rw [ex]
  refine ⟨rfl,_,rfl,?_⟩
  rw [decide_eq_true rfl]
  refine iteF ?_
  refine ⟨_,rfl,tx x,rfl,(by rw [Ju,sizeLine_eq]; omega),_,_,rfl,rfl,_,rfl,?_⟩
  rw [decide_eq_false (show ¬ ((2000:Int) < ((tx x).length:Int)) by rw [Ju]; omega)]
  refine iteF ?_
  have s811:=s910.trans s11
  refine ⟨_,rfl,_,rfl,x,st,ns,ks,t,rfl,JC.same s811 hI8,hX,hd,hy,fun bk H12 s12 hTb=>?_⟩
  have s812:=s811.trans s12
  obtain ⟨j4,ej4,hj4⟩:=modn (JR sc 7) 4 (by decide)
  refine ⟨_,rfl,l,_,rfl,.inl (SqL.of (s812 _ _ hl8)),_,rfl,a,sc,7,rfl,(s18.trans s812).seq hS,by decide,fun H13 s13=>⟨_,_,nv j4,rfl,rfl,(by show (0:Int) < 4; decide),congrArg V.int ej4,_,_,rfl,?_⟩⟩
  have emn:V.int (if (j4:Int) < ((ns.map sv).length:Int) then (j4:Int) else ((ns.map sv).length:Int)) = nv (min j4 m):=by
    rw [hml]
    show V.int _ = V.int ((min j4 m:Nat):Int)
    congr 1
    split <;> omega
  rw [emn]
  have s813:=s812.trans s13
  have s12b:=s12.trans s13
  refine ⟨_,rfl,_,rfl,_,rfl,_,rfl,bk,pf,l,t,_,_,ns.map tx,m,min j4 m,rfl,IsTr.same s13 hTb,FT.same s813 hF,hd,hy,hN _ s813,hm6,htl,hsb,by omega,fun H14 s14=>⟨_,rfl,iteF ?_⟩⟩
  have s814:=s813.trans s14
  have hT14:=IsTr.same ((s10.trans s11).trans (s12b.trans s14)) hT
  refine ⟨_,rfl,_,rfl,_,rfl,_,rfl,bb,pf,l,t,_,_,ns.map tx,m,min j4 m,rfl,hT14,FT.same s814 hF,hd,hy,hN _ s814,hm6,htl,hsb,by omega,fun H15 s15=>⟨_,rfl,iteF ?_⟩⟩
  have s815:=s814.trans s15
  have hTb15:=IsTr.same ((s13.trans s14).trans s15) hTb
  refine ⟨_,rfl,_,rfl,bk,st,t,_,ns,ks,rfl,IsTr.to 4 5 hTb15 (by omega),by omega,JC.same s815 hI8,hsn,fun H16 s16=>?_⟩
  rw [ex]
  refine ⟨_,rfl,rfl,_,rfl,?_⟩
  rw [decide_eq_true rfl]
  refine iteT ?_
  refine ⟨_,rfl,_,rfl,bb,st,t,_,ns,ks,rfl,IsTr.to 4 5 (IsTr.same (s15.trans s16) hT14) (by omega),by omega,JC.same (s815.trans s16) hI8,hsn,fun H17 s17=>?_⟩
  rw [ex]
  refine ⟨_,rfl,rfl,?_⟩
  rw [decide_eq_true rfl]
  exact q _
end
theorem all_mk {l:PySem.W.OpenLaw} {w:World} {K:PySem.W.Frag} {h:Heap} {mg:Str->Option Value} {fa:Addr} (X:K.In h) (G:h.Ns mainGlobals mg) (hfa:mg "law" = some (.ref fa))
    {jr jj jc ji jb jd je jf:Addr}
    (q_Bid:Yy K "Bid" jr [])
    (q_Only:Yy K "Only" jj ["bundle", "amount"])
    (q_SoMany:Yy K "SoMany" jc ["kind", "least", "amount"])
    (q_UpTo:Yy K "UpTo" ji ["kind", "most", "each"])
    (q_Several:Yy K "Several" jb ["bids"])
    (q_AnyOf:Yy K "AnyOf" jd ["bids"])
    (q_OneOf:Yy K "OneOf" je ["bids"])
    (q_Stock:Yy K "Stock" jf ["numbers", "kinds"])
    (in_Bid:PySem.W.findIn K (.ref jr) "__init__" = some (some (.builtin "object.__init__")))
    (yP:PySem.W.kitOne K (.ref jr) (.ref jr) = some true)
    (Q4:PySem.W.kitOne K (.ref jj) (.ref jr) = some true)
    (qR:PySem.W.kitOne K (.ref jc) (.ref jr) = some true)
    (Q5:PySem.W.kitOne K (.ref ji) (.ref jr) = some true)
    (yw:PySem.W.kitOne K (.ref jb) (.ref jr) = some true)
    (Qi:PySem.W.kitOne K (.ref jd) (.ref jr) = some true)
    (Qj:PySem.W.kitOne K (.ref je) (.ref jr) = some true)
    (Y0:PySem.W.kitOne K (.ref jf) (.ref jr) = some false)
    {f0 f1 f2 f3 f4 f5 f6 f7 f8 f9 f10 f11 f12 f13 f14 f15 f16 f17 f18 f19 f20 f21 f22 f23 f24 f25 f26 f27 f28 f29 f30 f31 f32 f33 f34 f35 f36 f37 f38 f39 f40 f41 f42 f43 f44 f45 f46 f47 f48 f49 f50 f51 f52 f54 f55 f56 f57 f58 f59 f60 f61 f62 f63 f64 f65 f66 f67 f68 f69 f70 f71 f72 f73 f74 f75 f76 f77 f78 f79 f80 f81 f82 f83:Addr}
    (q0:GFn K f0 "is_whole" jaD)
    (q1:GFn K f1 "is_within" ZL)
    (q2:GFn K f2 "bundle_of" ZK)
    (q3:GFn K f3 "things_in" Y9)
    (q4:GFn K f4 "size_of" jby)
    (q5:GFn K f5 "holds" jdC)
    (q6:GFn K f6 "parts_of" zM)
    (q7:GFn K f7 "check_bundle" YL)
    (q8:GFn K f8 "check_so_many" Yr)
    (q9:GFn K f9 "check_amount" YK)
    (q10:GFn K f10 "check_bids" Zj)
    (q11:GFn K f11 "depth_over" QJ)
    (q12:GFn K f12 "tally_over" QL)
    (q13:GFn K f13 "worths_of_nothing" qD)
    (q14:GFn K f14 "shared_out" Yv)
    (q15:GFn K f15 "best_share" Yq)
    (q16:GFn K f16 "greater_of" Ys)
    (q17:GFn K f17 "place_words" yG)
    (q18:GFn K f18 "list_words" QK)
    (q19:GFn K f19 "read_bid" jaE)
    (q20:GFn K f20 "shown_bid" ZM)
    (q21:GFn K f21 "bid_told" zK)
    (q22:GFn K f22 "bids_told" yt)
    (q23:GFn K f23 "parted" jcy)
    (q24:GFn K f24 "plain_bid_told" yK)
    (q25:GFn K f25 "has_form" zL)
    (q26:GFn K f26 "place_told" Yu)
    (q27:GFn K f27 "number_told" zy)
    (q28:GFn K f28 "is_figures" Yt)
    (q29:GFn K f29 "is_name" Zz)
    (q30:GFn K f30 "_law_cell" jfq)
    (q31:GFn K f31 "_law_word" jfv)
    (q32:GFn K f32 "_law_names" jbT)
    (q33:GFn K f33 "_law_kinds" jbS)
    (q34:GFn K f34 "_law_amount" jcw)
    (q35:GFn K f35 "_law_leaf" jfu)
    (q36:GFn K f36 "_law_grouped" jbv)
    (q37:GFn K f37 "_law_made" jab)
    (q38:GFn K f38 "_law_place" jbU)
    (q39:GFn K f39 "_law_text" jbx)
    (q40:GFn K f40 "_law_form" jfs)
    (q41:GFn K f41 "_law_size" jc0)
    (q42:GFn K f42 "_law_gives" jdA)
    (q43:GFn K f43 "_law_shared" jcx)
    (q44:GFn K f44 "_law_table" YJ)
    (q45:GFn K f45 "_law_tally" jac)
    (q46:GFn K f46 "_law_depth" jaa)
    (q47:GFn K f47 "_law_spoken" jaC)
    (q48:GFn K f48 "_law_flat" jfr)
    (q49:GFn K f49 "_law_longest" jbw)
    (q50:GFn K f50 "_law_eight" jdz)
    (q51:GFn K f51 "_law_whole" jdB)
    (q52:GFn K f52 "_law_good" jft)
    {f53:Addr} {od53 an53:Option Addr} {sl53:Array (Option Value)} {oc53 kV53 dc53 pm53 cd53 ct53:Value}
    (a53:PySem.W.nsIn K mainGlobals "law" = some (some (.ref f53))) (l53:K.lookup f53 = some ⟨oc53,od53,.func (PySem.W.fnOf "law" "law" (qy jb7) (JT jb7) (jt jb7) .none kV53 dc53 pm53 an53 cd53 ct53),sl53⟩) (c53:PySem.W.codeIn K cd53 "law" = true) (k53:PySem.W.keepIn K (.ref f53) = true)
    (q54:MFn K jr "worths" f54 "Bid.worths" Yk)
    (i54_Several:PySem.W.findIn K (.ref jb) "worths" = some (some (.ref f54)))
    (q55:MFn K jr "depth" f55 "Bid.depth" Y6)
    (i55_Only:PySem.W.findIn K (.ref jj) "depth" = some (some (.ref f55)))
    (i55_SoMany:PySem.W.findIn K (.ref jc) "depth" = some (some (.ref f55)))
    (i55_UpTo:PySem.W.findIn K (.ref ji) "depth" = some (some (.ref f55)))
    (q56:MFn K jr "tally" f56 "Bid.tally" Y7)
    (i56_Only:PySem.W.findIn K (.ref jj) "tally" = some (some (.ref f56)))
    (i56_SoMany:PySem.W.findIn K (.ref jc) "tally" = some (some (.ref f56)))
    (i56_UpTo:PySem.W.findIn K (.ref ji) "tally" = some (some (.ref f56)))
    (q57:MFn K jr "spoken" f57 "Bid.spoken" Yj)
    (q58:MFn K jr "words" f58 "Bid.words" Y8)
    (i58_Several:PySem.W.findIn K (.ref jb) "words" = some (some (.ref f58)))
    (q59:MFn K jj "__init__" f59 "Only.__init__" Yl)
    (q60:MFn K jj "worths" f60 "Only.worths" Qd)
    (q61:MFn K jj "spoken" f61 "Only.spoken" yE)
    (q62:MFn K jj "words" f62 "Only.words" Ym)
    (q63:MFn K jc "__init__" f63 "SoMany.__init__" yf)
    (q64:MFn K jc "worths" f64 "SoMany.worths" qI)
    (q65:MFn K jc "spoken" f65 "SoMany.spoken" Qo)
    (q66:MFn K jc "words" f66 "SoMany.words" Q9)
    (q67:MFn K ji "__init__" f67 "UpTo.__init__" Yo)
    (q68:MFn K ji "worths" f68 "UpTo.worths" Qe)
    (q69:MFn K ji "spoken" f69 "UpTo.spoken" yF)
    (q70:MFn K ji "words" f70 "UpTo.words" Yp)
    (q71:MFn K jb "__init__" f71 "Several.__init__" QH)
    (i71_AnyOf:PySem.W.findIn K (.ref jd) "__init__" = some (some (.ref f71)))
    (i71_OneOf:PySem.W.findIn K (.ref je) "__init__" = some (some (.ref f71)))
    (q72:MFn K jb "depth" f72 "Several.depth" Qm)
    (i72_AnyOf:PySem.W.findIn K (.ref jd) "depth" = some (some (.ref f72)))
    (i72_OneOf:PySem.W.findIn K (.ref je) "depth" = some (some (.ref f72)))
    (q73:MFn K jb "tally" f73 "Several.tally" Qn)
    (i73_AnyOf:PySem.W.findIn K (.ref jd) "tally" = some (some (.ref f73)))
    (i73_OneOf:PySem.W.findIn K (.ref je) "tally" = some (some (.ref f73)))
    (q74:MFn K jb "spoken" f74 "Several.spoken" qY)
    (i74_AnyOf:PySem.W.findIn K (.ref jd) "spoken" = some (some (.ref f74)))
    (i74_OneOf:PySem.W.findIn K (.ref je) "spoken" = some (some (.ref f74)))
    (q75:MFn K jd "worths" f75 "AnyOf.worths" Q7)
    (q76:MFn K jd "words" f76 "AnyOf.words" yC)
    (q77:MFn K je "worths" f77 "OneOf.worths" Q8)
    (q78:MFn K je "words" f78 "OneOf.words" yD)
    (q79:MFn K jf "__init__" f79 "Stock.__init__" yJ)
    (q80:MFn K jf "many" f80 "Stock.many" jfw)
    (q81:MFn K jf "names" f81 "Stock.names" zx)
    (q82:MFn K jf "number_of" f82 "Stock.number_of" yg)
    (q83:MFn K jf "kind_of" f83 "Stock.kind_of" Yn)
    (jhr:PySem.W.nsIn K mainGlobals "isinstance" = some none)
    (z_int:PySem.W.nsIn K mainGlobals "int" = some none)
    (z_bool:PySem.W.nsIn K mainGlobals "bool" = some none)
    (z_range:PySem.W.nsIn K mainGlobals "range" = some none)
    (z_len:PySem.W.nsIn K mainGlobals "len" = some none)
    (z_list:PySem.W.nsIn K mainGlobals "list" = some none)
    (z_max:PySem.W.nsIn K mainGlobals "max" = some none)
    (z_sum:PySem.W.nsIn K mainGlobals "sum" = some none)
    (z_zip:PySem.W.nsIn K mainGlobals "zip" = some none)
    (z_str:PySem.W.nsIn K mainGlobals "str" = some none)
    (jif:PySem.W.nsIn K mainGlobals "enumerate" = some none)
    (z_all:PySem.W.nsIn K mainGlobals "all" = some none)
    (z_divmod:PySem.W.nsIn K mainGlobals "divmod" = some none)
    (ji0:PySem.W.nsIn K mainGlobals "reversed" = some none)
    (z_min:PySem.W.nsIn K mainGlobals "min" = some none)
    : ∃ fd:FuncData,(∀ (s:Shared) (v:Value),BindsTo s fd ⟨[v],[]⟩ [("_law_script",v)]) /\ ∀ base:Heap,K.In base->base.Ns mainGlobals mg->FnOk l.prog w K mg base CX0 24 fa fd ["_law_script"] (jhl K):=by
  have e:=hfa.symm.trans (PySem.W.mg_of X G a53)
  cases e
  obtain ⟨⟨d0,F0⟩,g0⟩:=q0.go X G
  obtain ⟨⟨d1,F1⟩,g1⟩:=q1.go X G
  obtain ⟨⟨d2,F2⟩,g2⟩:=q2.go X G
  obtain ⟨⟨d3,F3⟩,g3⟩:=q3.go X G
  obtain ⟨⟨d4,F4⟩,g4⟩:=q4.go X G
  obtain ⟨⟨d5,F5⟩,g5⟩:=q5.go X G
  obtain ⟨⟨d6,F6⟩,g6⟩:=q6.go X G
  obtain ⟨⟨d7,F7⟩,g7⟩:=q7.go X G
  obtain ⟨⟨d8,F8⟩,g8⟩:=q8.go X G
  obtain ⟨⟨d9,F9⟩,g9⟩:=q9.go X G
  obtain ⟨⟨d10,F10⟩,g10⟩:=q10.go X G
  obtain ⟨⟨d11,F11⟩,g11⟩:=q11.go X G
  obtain ⟨⟨d12,F12⟩,g12⟩:=q12.go X G
  obtain ⟨⟨d13,F13⟩,g13⟩:=q13.go X G
  obtain ⟨⟨d14,F14⟩,g14⟩:=q14.go X G
  obtain ⟨⟨d15,F15⟩,g15⟩:=q15.go X G
  obtain ⟨⟨d16,F16⟩,g16⟩:=q16.go X G
  obtain ⟨⟨d17,F17⟩,g17⟩:=q17.go X G
  obtain ⟨⟨d18,F18⟩,g18⟩:=q18.go X G
  obtain ⟨⟨d19,F19⟩,g19⟩:=q19.go X G
  obtain ⟨⟨d20,F20⟩,g20⟩:=q20.go X G
  obtain ⟨⟨d21,F21⟩,g21⟩:=q21.go X G
  obtain ⟨⟨d22,F22⟩,g22⟩:=q22.go X G
  obtain ⟨⟨d23,F23⟩,g23⟩:=q23.go X G
  obtain ⟨⟨d24,F24⟩,g24⟩:=q24.go X G
  obtain ⟨⟨d25,F25⟩,g25⟩:=q25.go X G
  obtain ⟨⟨d26,F26⟩,g26⟩:=q26.go X G
  obtain ⟨⟨d27,F27⟩,g27⟩:=q27.go X G
  obtain ⟨⟨d28,F28⟩,g28⟩:=q28.go X G
  obtain ⟨⟨d29,F29⟩,g29⟩:=q29.go X G
  obtain ⟨⟨d30,F30⟩,g30⟩:=q30.go X G
  obtain ⟨⟨d31,F31⟩,g31⟩:=q31.go X G
  obtain ⟨⟨d32,F32⟩,g32⟩:=q32.go X G
  obtain ⟨⟨d33,F33⟩,g33⟩:=q33.go X G
  obtain ⟨⟨d34,F34⟩,g34⟩:=q34.go X G
  obtain ⟨⟨d35,F35⟩,g35⟩:=q35.go X G
  obtain ⟨⟨d36,F36⟩,g36⟩:=q36.go X G
  obtain ⟨⟨d37,F37⟩,g37⟩:=q37.go X G
  obtain ⟨⟨d38,F38⟩,g38⟩:=q38.go X G
  obtain ⟨⟨d39,F39⟩,g39⟩:=q39.go X G
  obtain ⟨⟨d40,F40⟩,g40⟩:=q40.go X G
  obtain ⟨⟨d41,F41⟩,g41⟩:=q41.go X G
  obtain ⟨⟨d42,F42⟩,g42⟩:=q42.go X G
  obtain ⟨⟨d43,F43⟩,g43⟩:=q43.go X G
  obtain ⟨⟨d44,F44⟩,g44⟩:=q44.go X G
  obtain ⟨⟨d45,F45⟩,g45⟩:=q45.go X G
  obtain ⟨⟨d46,F46⟩,g46⟩:=q46.go X G
  obtain ⟨⟨d47,F47⟩,g47⟩:=q47.go X G
  obtain ⟨⟨d48,F48⟩,g48⟩:=q48.go X G
  obtain ⟨⟨d49,F49⟩,g49⟩:=q49.go X G
  obtain ⟨⟨d50,F50⟩,g50⟩:=q50.go X G
  obtain ⟨⟨d51,F51⟩,g51⟩:=q51.go X G
  obtain ⟨⟨d52,F52⟩,g52⟩:=q52.go X G
  have F53:=fun_mk (st:=jb7) l53 c53 k53
  have g53:=PySem.W.mg_of X G a53
  obtain ⟨⟨d54,F54⟩,a54,n54,k54⟩:=q54.go
  obtain ⟨⟨d55,F55⟩,a55,n55,k55⟩:=q55.go
  obtain ⟨⟨d56,F56⟩,a56,n56,k56⟩:=q56.go
  obtain ⟨⟨d57,F57⟩,a57,n57,k57⟩:=q57.go
  obtain ⟨⟨d58,F58⟩,a58,n58,k58⟩:=q58.go
  obtain ⟨⟨d59,F59⟩,a59,n59,k59⟩:=q59.go
  obtain ⟨⟨d60,F60⟩,a60,n60,k60⟩:=q60.go
  obtain ⟨⟨d61,F61⟩,a61,n61,k61⟩:=q61.go
  obtain ⟨⟨d62,F62⟩,a62,n62,k62⟩:=q62.go
  obtain ⟨⟨d63,F63⟩,a63,n63,k63⟩:=q63.go
  obtain ⟨⟨d64,F64⟩,a64,n64,k64⟩:=q64.go
  obtain ⟨⟨d65,F65⟩,a65,n65,k65⟩:=q65.go
  obtain ⟨⟨d66,F66⟩,a66,n66,k66⟩:=q66.go
  obtain ⟨⟨d67,F67⟩,a67,n67,k67⟩:=q67.go
  obtain ⟨⟨d68,F68⟩,a68,n68,k68⟩:=q68.go
  obtain ⟨⟨d69,F69⟩,a69,n69,k69⟩:=q69.go
  obtain ⟨⟨d70,F70⟩,a70,n70,k70⟩:=q70.go
  obtain ⟨⟨d71,F71⟩,a71,n71,k71⟩:=q71.go
  obtain ⟨⟨d72,F72⟩,a72,n72,k72⟩:=q72.go
  obtain ⟨⟨d73,F73⟩,a73,n73,k73⟩:=q73.go
  obtain ⟨⟨d74,F74⟩,a74,n74,k74⟩:=q74.go
  obtain ⟨⟨d75,F75⟩,a75,n75,k75⟩:=q75.go
  obtain ⟨⟨d76,F76⟩,a76,n76,k76⟩:=q76.go
  obtain ⟨⟨d77,F77⟩,a77,n77,k77⟩:=q77.go
  obtain ⟨⟨d78,F78⟩,a78,n78,k78⟩:=q78.go
  obtain ⟨⟨d79,F79⟩,a79,n79,k79⟩:=q79.go
  obtain ⟨⟨d80,F80⟩,a80,n80,k80⟩:=q80.go
  obtain ⟨⟨d81,F81⟩,a81,n81,k81⟩:=q81.go
  obtain ⟨⟨d82,F82⟩,a82,n82,k82⟩:=q82.go
  obtain ⟨⟨d83,F83⟩,a83,n83,k83⟩:=q83.go
  have jY:=PySem.W.mg_none_of X G jhr
  have Z3:=PySem.W.mg_none_of X G z_int
  have jdp:=PySem.W.mg_none_of X G z_bool
  have jQ:=PySem.W.mg_none_of X G z_range
  have Jl:=PySem.W.mg_none_of X G z_len
  have ye:=PySem.W.mg_none_of X G z_list
  have QB:=PySem.W.mg_none_of X G z_max
  have Zc:=PySem.W.mg_none_of X G z_sum
  have Z4:=PySem.W.mg_none_of X G z_zip
  have YB:=PySem.W.mg_none_of X G z_str
  have yQ:=PySem.W.mg_none_of X G jif
  have jcO:=PySem.W.mg_none_of X G z_all
  have Z2:=PySem.W.mg_none_of X G z_divmod
  have jck:=PySem.W.mg_none_of X G ji0
  have jaN:=PySem.W.mg_none_of X G z_min
  refine ⟨PySem.W.fnOf "law" "law" (qy jb7) (JT jb7) (jt jb7) .none kV53 dc53 pm53 an53 cd53 ct53,fun s v=>.of_eq rfl,fun base _ _=>?_⟩
  have jK:=q_Bid.own X G
  have jC:=q_Only.own X G
  have jq:=q_SoMany.own X G
  have jB:=q_UpTo.own X G
  have ju:=q_Several.own X G
  have jy:=q_AnyOf.own X G
  have jz:=q_OneOf.own X G
  have jx:=q_Stock.own X G
  have jan:=jfZ (P:=l.prog) (w:=w) (base:=base) F0 g0 jY Z3 jdp
  have Jv:=jfb (P:=l.prog) (w:=w) (base:=base) F1 g1  jan
  have qF:=jiH (P:=l.prog) (w:=w) (base:=base) F5 g5
  have ZG:=jfa (P:=l.prog) (w:=w) (base:=base) F2 g2  qF Jv
  have JS:=jfd (P:=l.prog) (w:=w) (base:=base) F3 g3 jQ qF
  have J8:=jg3 (P:=l.prog) (w:=w) (base:=base) F4 g4 Jl JS
  have jao:=jf0 (P:=l.prog) (w:=w) (base:=base) F6 g6  JS
  have Jx:=jcT (P:=l.prog) (w:=w) (base:=base) F7 g7  Jv
  have JW:=jcr (P:=l.prog) (w:=w) (base:=base) F8 g8  Jv
  have Jw:=jcS (P:=l.prog) (w:=w) (base:=base) F9 g9  Jv
  have FO_M_Bid_depth:=jbl (P:=l.prog) (w:=w) (base:=base) F55   jK jC jq jB ju jy jz jx
  have jbf:=jgi (P:=l.prog) (w:=w) (base:=base) F55 F72 F11 g11 QB jK jC jq jB ju jy jz jx ⟨a55,n55,k55⟩ ⟨i55_Only,n55,k55⟩ ⟨i55_SoMany,n55,k55⟩ ⟨i55_UpTo,n55,k55⟩ ⟨i72_AnyOf,n72,k72⟩ ⟨i72_OneOf,n72,k72⟩ 5
  have Qu:=jaS (P:=l.prog) (w:=w) (base:=base) 4 F11 g11 QB jK jC jq jB ju jy jz jx (jgi (P:=l.prog) (w:=w) (base:=base) F55 F72 F11 g11 QB jK jC jq jB ju jy jz jx ⟨a55,n55,k55⟩ ⟨i55_Only,n55,k55⟩ ⟨i55_SoMany,n55,k55⟩ ⟨i55_UpTo,n55,k55⟩ ⟨i72_AnyOf,n72,k72⟩ ⟨i72_OneOf,n72,k72⟩ 4)
  have FO_M_Bid_tally:=jbm (P:=l.prog) (w:=w) (base:=base) F56   jK jC jq jB ju jy jz jx
  have jbg:=jgj (P:=l.prog) (w:=w) (base:=base) F56 F73 F12 g12 Zc jK jC jq jB ju jy jz jx ⟨a56,n56,k56⟩ ⟨i56_Only,n56,k56⟩ ⟨i56_SoMany,n56,k56⟩ ⟨i56_UpTo,n56,k56⟩ ⟨i73_AnyOf,n73,k73⟩ ⟨i73_OneOf,n73,k73⟩ 5
  have Qz:=jaU (P:=l.prog) (w:=w) (base:=base) 4 F12 g12 Zc jK jC jq jB ju jy jz jx (jgj (P:=l.prog) (w:=w) (base:=base) F56 F73 F12 g12 Zc jK jC jq jB ju jy jz jx ⟨a56,n56,k56⟩ ⟨i56_Only,n56,k56⟩ ⟨i56_SoMany,n56,k56⟩ ⟨i56_UpTo,n56,k56⟩ ⟨i73_AnyOf,n73,k73⟩ ⟨i73_OneOf,n73,k73⟩ 4)
  have zZ:=jd5 (P:=l.prog) (w:=w) (base:=base) F10 g10 jY ye Qu Qz jK jC jq jB ju jy jz jx yP Q4 qR Q5 yw Qi Qj Y0
  have j0:=jay (P:=l.prog) (w:=w) (base:=base) F13 g13 jQ
  have zY:=jd4 (P:=l.prog) (w:=w) (base:=base) F15 g15 QB jao
  have Qy:=jd9 (P:=l.prog) (w:=w) (base:=base) F14 g14 jQ Jl zY
  have Qw:=jd6 (P:=l.prog) (w:=w) (base:=base) F16 g16 QB Z4
  have Jc:=jdv (P:=l.prog) (w:=w) (base:=base) F17 g17  JS
  have FO_M_Bid_words:=jbn (P:=l.prog) (w:=w) (base:=base) F58   jK jC jq jB ju jy jz jx
  have jke:=jaQ (P:=l.prog) (w:=w) (base:=base) F62  Jc jK jC jq jB ju jy jz jx
  have ji1:=Zx (P:=l.prog) (w:=w) (base:=base) F66  Jc jK jC jq jB ju jy jz jx
  have jkf:=jaR (P:=l.prog) (w:=w) (base:=base) F70  Jc jK jC jq jB ju jy jz jx
  have zf:=jgk (P:=l.prog) (w:=w) (base:=base) F58 F62 F66 F70 F76 F78 F18 g18 Jc jK jC jq jB ju jy jz jx ⟨a58,n58,k58⟩ ⟨a62,n62,k62⟩ ⟨a66,n66,k66⟩ ⟨a70,n70,k70⟩ ⟨a76,n76,k76⟩ ⟨a78,n78,k78⟩ 5
  have yZ:=jaT (P:=l.prog) (w:=w) (base:=base) 4 F18 g18 jK jC jq jB ju jy jz jx (jgk (P:=l.prog) (w:=w) (base:=base) F58 F62 F66 F70 F76 F78 F18 g18 Jc jK jC jq jB ju jy jz jx ⟨a58,n58,k58⟩ ⟨a62,n62,k62⟩ ⟨a66,n66,k66⟩ ⟨a70,n70,k70⟩ ⟨a76,n76,k76⟩ ⟨a78,n78,k78⟩ 4)
  have yX:=jfY (P:=l.prog) (w:=w) (base:=base) F25 g25 jcO Jl Z4
  have J7:=jg2 (P:=l.prog) (w:=w) (base:=base) F29 g29 jcO jY YB Jl
  have jcg:=jcp (P:=l.prog) (w:=w) (base:=base) F83  J7 jK jC jq jB ju jy jz jx
  have jba:=jbp (P:=l.prog) (w:=w) (base:=base) F82  J7 jK jC jq jB ju jy jz jx
  have jcj:∀ C sp,jf8 K jr jj jc ji jb jd je jf C sp->∃ ps,J9 l.prog w K mg base 2 C "kind_of" ps sp:=by
    rintro C sp (⟨e1,e2⟩)
    · subst e2; rw [e1]; exact ⟨_,f83,_,(jcg).mono (by decide),bnd2 F83 fun _ _ _ _ _ _ _ _=>rfl,⟨a83,n83,k83⟩,jx.cls⟩
  have jau:∀ C sp,jdR K jr jj jc ji jb jd je jf C sp->∃ ps,J9 l.prog w K mg base 2 C "number_of" ps sp:=by
    rintro C sp (⟨e1,e2⟩)
    · subst e2; rw [e1]; exact ⟨_,f82,_,(jba).mono (by decide),bnd2 F82 fun _ _ _ _ _ _ _ _=>rfl,⟨a82,n82,k82⟩,jx.cls⟩
  have Qx:=jd8 (P:=l.prog) (w:=w) (base:=base) F26 g26  ZG jK jC jq jB ju jy jz jx jcj jau
  have z6:=jd7 (P:=l.prog) (w:=w) (base:=base) F28 g28 jcO Jl
  have JX:=jdu (P:=l.prog) (w:=w) (base:=base) F27 g27 Z3 z6
  have jcf:=jcm (P:=l.prog) (w:=w) (base:=base) F59  Jx Jw jK jC jq jB ju jy jz jx
  have ja9:=jbo (P:=l.prog) (w:=w) (base:=base) F63  Jx JW Jw jK jC jq jB ju jy jz jx
  have jch:=jcq (P:=l.prog) (w:=w) (base:=base) F67  Jx JW Jw jK jC jq jB ju jy jz jx
  have jbc:jeF K mg "Bid" jr:=⟨q_Bid.mks,in_Bid,q_Bid.kp,jK.at_⟩
  have Zu:Qc l.prog w K mg base 4 "Only" jj ["self", "bundle", "amount"] (qu K jj):=⟨f59,_,jcf,bnd3 F59 fun _ _ _ _ _ _ _ _ _=>rfl,⟨q_Only.mks,a59,n59,q_Only.kp⟩,jC.at_⟩
  have yO:Qc l.prog w K mg base 4 "SoMany" jc ["self", "kind", "least", "amount"] (JV K jc):=⟨f63,_,ja9,bnd4 F63 fun _ _ _ _ _ _ _ _ _ _=>rfl,⟨q_SoMany.mks,a63,n63,q_SoMany.kp⟩,jq.at_⟩
  have Zv:Qc l.prog w K mg base 4 "UpTo" ji ["self", "kind", "most", "each"] (qw K ji):=⟨f67,_,jch,bnd4 F67 fun _ _ _ _ _ _ _ _ _ _=>rfl,⟨q_UpTo.mks,a67,n67,q_UpTo.kp⟩,jB.at_⟩
  have qj:=jb3 (P:=l.prog) (w:=w) (base:=base) F24 g24  yX Qx JX jK jC jq jB ju jy jz jx jbc Zu yO Zv
  have z7:=jhT (P:=l.prog) (w:=w) (base:=base) F23 g23 yQ
  have Yz:=fun c=>ja6 (P:=l.prog) (w:=w) (base:=base) c F71 ye zZ jK jC jq jB ju jy jz jx
  have yo:Qc l.prog w K mg base 12 "AnyOf" jd ["self", "bids"] (j9 K jd jr jj jc ji jb jd je jf):=⟨f71,_,Yz jd,bnd2 F71 fun _ _ _ _ _ _ _ _=>rfl,⟨q_AnyOf.mks,i71_AnyOf,n71,q_AnyOf.kp⟩,jy.at_⟩
  have yp:Qc l.prog w K mg base 12 "OneOf" je ["self", "bids"] (j9 K je jr jj jc ji jb jd je jf):=⟨f71,_,Yz je,bnd2 F71 fun _ _ _ _ _ _ _ _=>rfl,⟨q_OneOf.mks,i71_OneOf,n71,q_OneOf.kp⟩,jz.at_⟩
  have yW:=fam_read (P:=l.prog) (w:=w) (base:=base) F21 g21 F22 g22 z7 qj jK jC jq jB ju jy jz jx yo yp 4
  have jap:=jf1 (P:=l.prog) (w:=w) (base:=base) F19 g19 jY YB Jl yW
  have jdd:=jdt (P:=l.prog) (w:=w) (base:=base) F81 ye  jK jC jq jB ju jy jz jx
  have je3:∀ C sp,ji3 K jr jj jc ji jb jd je jf C sp->∃ ps,J9 l.prog w K mg base 1 C "names" ps sp:=by
    rintro C sp (⟨e1,e2⟩)
    · subst e2; rw [e1]; exact ⟨_,f81,_,(jdd).mono (by decide),bnd1 F81 fun _ _ _ _ _ _ _=>rfl,⟨a81,n81,k81⟩,jx.cls⟩
  have ym:=jfc (P:=l.prog) (w:=w) (base:=base) F20 g20   jK jC jq jB ju jy jz jx zf je3
  have j5:=jjP (P:=l.prog) (w:=w) (base:=base) F30 g30 Jl
  have Qt:=jjX (P:=l.prog) (w:=w) (base:=base) F31 g31 jQ Z2
  have jdc:=jiC (P:=l.prog) (w:=w) (base:=base) F32 g32 jQ ye jck j5 Qt
  have jdb:=jiB (P:=l.prog) (w:=w) (base:=base) F33 g33 jQ Jl Qt j5
  have jce:=jhQ (P:=l.prog) (w:=w) (base:=base) F34 g34
  have ZS:=jjT (P:=l.prog) (w:=w) (base:=base) F35 g35  jce
  have Zt:=jg0 (P:=l.prog) (w:=w) (base:=base) F36 g36 jQ Jl Z2
  have ZV:=jin (P:=l.prog) (w:=w) (base:=base) F37 g37 jK jC jq jB ju jy jz jx jbc yo yp Zu yO Zv 4
  have ZW:=jiD (P:=l.prog) (w:=w) (base:=base) F38 g38 jQ
  have zc:=jio (P:=l.prog) (w:=w) (base:=base) F39 g39 YB ZW 4
  have jez:=jjR (P:=l.prog) (w:=w) (base:=base) F40 g40 jQ j5 Zt ZS
  have jeA:=jjV (P:=l.prog) (w:=w) (base:=base) F41 g41 Zc
  have ZR:=jiA (P:=l.prog) (w:=w) (base:=base) F42 g42 Z3 jaN jeA
  have zW:=jhR (P:=l.prog) (w:=w) (base:=base) F43 g43 jQ Jl
  have zQ:=jhB (P:=l.prog) (w:=w) (base:=base) F44 g44 jQ QB Jl ZR zW 4
  have ZX:=jhC (P:=l.prog) (w:=w) (base:=base) F45 g45 Zc 5
  have ZQ:=jhA (P:=l.prog) (w:=w) (base:=base) F46 g46 QB 5
  have zX:=jgU (P:=l.prog) (w:=w) (base:=base) F47 g47 5
  have jey:=jjQ (P:=l.prog) (w:=w) (base:=base) F48 g48 jQ ZS j5
  have ja8:=jg1 (P:=l.prog) (w:=w) (base:=base) F49 g49 jQ j5
  have jda:=jiz (P:=l.prog) (w:=w) (base:=base) F50 g50 jQ Qt j5
  have jbM:=jiG (P:=l.prog) (w:=w) (base:=base) F51 g51 jY Z3 jdp
  have jkd:=jaP (P:=l.prog) (w:=w) (base:=base) F54  j0 jK jC jq jB ju jy jz jx
  have jjq:=Z7 (P:=l.prog) (w:=w) (base:=base) F60 jQ qF jK jC jq jB ju jy jz jx
  have jih:=Ze (P:=l.prog) (w:=w) (base:=base) F64 jQ J8 jK jC jq jB ju jy jz jx
  have jjs:=Z9 (P:=l.prog) (w:=w) (base:=base) F68 jaN jQ J8 jK jC jq jB ju jy jz jx
  have YC:=jiq (P:=l.prog) (w:=w) (base:=base) F54 F60 F64 F68 F75 F77 j0 qF J8 Qy Qw jQ jaN jK jC jq jB ju jy jz jx ⟨a54,n54,k54⟩ ⟨a60,n60,k60⟩ ⟨a64,n64,k64⟩ ⟨a68,n68,k68⟩ ⟨a75,n75,k75⟩ ⟨a77,n77,k77⟩ 4
  have jkc:=jaO (P:=l.prog) (w:=w) (base:=base) F57   jK jC jq jB ju jy jz jx
  have jjp:=Z6 (P:=l.prog) (w:=w) (base:=base) F61   jK jC jq jB ju jy jz jx
  have jig:=Zd (P:=l.prog) (w:=w) (base:=base) F65   jK jC jq jB ju jy jz jx
  have jjr:=Z8 (P:=l.prog) (w:=w) (base:=base) F69   jK jC jq jB ju jy jz jx
  have Z0:=jip (P:=l.prog) (w:=w) (base:=base) F57 F74 F61 F65 F69 jK jC jq jB ju jy jz jx ⟨a57,n57,k57⟩ ⟨a61,n61,k61⟩ ⟨a65,n65,k65⟩ ⟨a69,n69,k69⟩ ⟨i74_AnyOf,n74,k74⟩ ⟨i74_OneOf,n74,k74⟩ 5
  have jcI:=jjS (P:=l.prog) (w:=w) (base:=base) F52 g52 Z4 jY ye Jl zQ ZQ ZX zX zc jbM jK jC jq jB ju jy jz jx YC jbf jbg Z0 zf yP Q4 qR Q5 yw Qi Qj Y0
  have jb0:=jb2 (P:=l.prog) (w:=w) (base:=base) F79 yQ Jl J7 jK jC jq jB ju jy jz jx
  have jeE:Qc l.prog w K mg base 4 "Stock" jf ["self", "rows"] (yh K jf):=⟨f79,_,jb0,bnd2 F79 fun _ _ _ _ _ _ _ _=>rfl,⟨q_Stock.mks,a79,n79,q_Stock.kp⟩,jx.at_⟩
  exact ok_law (P:=l.prog) (w:=w) (base:=base) F53 g53 jaN Jl jY YB Z4 jdc jez ZV ym j5 jda ja8 jey jap zc jcI jdb jK jC jq jB ju jy jz jx jeE
theorem walk {l:PySem.W.OpenLaw} {q:Program} {loose:List Str} {XP:(Str->Option Value)->Heap->Prop} {YP:World->Heap->Prop} {d:DefRec} {K:Params->PySem.W.Frag} (hn:l.most = some 63) (hdf:d.params.defaults = [])
    (hY:∀ (w:World) (h:Heap),YP w h->(K w.params).In h)
    (F:∀ (w:World) (mg:Str->Option Value) (fa:Addr) (h:Heap),(K w.params).In h->h.Ns mainGlobals mg->mg d.name = some (.ref fa) ->
      ∃ fd:FuncData,(∀ (s:Shared) (u:Value),BindsTo s fd ⟨[u],[]⟩ [("_law_script",u)]) /\ ∀ base:Heap,(K w.params).In base->base.Ns mainGlobals mg->FnOk l.prog w (K w.params) mg base CX0 24 fa fd ["_law_script"] (jhl (K w.params))) :
    PySem.W.WalkO q loose XP YP l.row.toRowW d [] (fun f vs=>PySem.call f vs) :=
  L2.walk_of (n:=63) (k:=24) (x := "_law_script") (CX:=fun _=>CX0) (sp:=fun w=>jhl (K w.params)) hn (by decide) hdf ⟨rfl,by decide,by decide,rfl⟩ hY F (fun _ _ a ns hl _ hS=>⟨a,ns,rfl,hS,hl,fun _=>rfl⟩) fun _ _ _ _ _ z=>z
theorem walkX_of {q:Program} {loose:List Str} {XP:(Str->Option Value)->Heap->Prop} {K:Params->PySem.W.Frag} {as:List Addr} {n t:Nat} {r:PySem.W.RowW} {d:DefRec} {kwd:List (Str × Expr)} {run:Value->List Value->Sem Value} (e:∀ P,as = (K P).map (·.1))
    (h:PySem.W.WalkO q loose XP (PySem.W.InK K) r d kwd run):PySem.W.WalkX q loose XP (PySem.W.X.obsZ as) (PySem.W.X.valZ K n t) r d kwd run :=
  fun w s₀ s₁ mg mb G y a o pm cd doc dV kV h1 h2 h3 h4 h5 h6 args vals as' L hp hl hr hw hlo=>h w s₀ s₁ mg mb G (PySem.W.InK.keeps w _ _ (PySem.W.X.z_facts e y).2.1 L.keeps) a o pm cd doc dV kV h1 h2 h3 h4 h5 h6 args vals as' hp hl hr hw hlo
end My
noncomputable def PySem.W.Fast.tw17762131857460811766:Nat:=0
noncomputable def PySem.W.Fast.tw10294976183529342333:Nat:=0
noncomputable def PySem.W.Fast.tw6314940050249902822:Nat:=0
noncomputable def PySem.W.Fast.tw13663345590234083395:Nat:=0
noncomputable def PySem.W.Fast.tw7223104573857780424:Nat:=0
noncomputable def PySem.W.Fast.tw10873251594403693501:Nat:=0
noncomputable def PySem.W.Fast.tw8371864649360914144:Nat:=0
noncomputable def PySem.W.Fast.tw17984969665895298486:Nat:=0
noncomputable def PySem.W.Fast.tw13402876707888978930:Nat:=0
noncomputable def PySem.W.Fast.tw15766679940057092145:Nat:=0
noncomputable def PySem.W.Fast.tw974740770885212336:Nat:=0
noncomputable def PySem.W.Fast.tw12207755672388613737:Nat:=0
noncomputable def PySem.W.Fast.tw1783600551834464140:Nat:=0
noncomputable def PySem.W.Fast.tw3389609080336923969:Nat:=0
noncomputable def PySem.W.Fast.tw15210774475022500149:Nat:=0
noncomputable def PySem.W.Fast.tw11766040780115686403:Nat:=0
noncomputable def PySem.W.Fast.tw11072042032444197050:Nat:=0
noncomputable def PySem.W.Fast.tw3851923571214040015:Nat:=0
noncomputable def PySem.W.Fast.tw7652693281368368664:Nat:=0
noncomputable def PySem.W.Fast.tw15640585120181287848:Nat:=0
noncomputable def PySem.W.Fast.tw6495686149839030226:Nat:=0
noncomputable def PySem.W.Fast.tw15860177768674332529:Nat:=0
noncomputable def PySem.W.Fast.tw1087922323493875952:Nat:=0
noncomputable def PySem.W.Fast.tw9913080909822196126:Nat:=0
noncomputable def PySem.W.Fast.tw17611801768650505475:Nat:=0
noncomputable def PySem.W.Fast.tw12789192955086264356:Nat:=0
noncomputable def PySem.W.Fast.tw9716388272903398346:Nat:=0
noncomputable def PySem.W.Fast.tw14869779238219904979:Nat:=0
noncomputable def PySem.W.Fast.tw1684214180332148785:Nat:=0
noncomputable def PySem.W.Fast.tw844084424440870824:Nat:=0
noncomputable def PySem.W.Fast.tw8192472159739284395:Nat:=0
noncomputable def PySem.W.Fast.tw10649997026504721302:Nat:=0
noncomputable def PySem.W.Fast.tw11251446826198679234:Nat:=0
noncomputable def PySem.W.Fast.tw12027285630459510605:Nat:=0
noncomputable def PySem.W.Fast.tw5552058816738866004:Nat:=0
noncomputable def PySem.W.Fast.tw356268398944201513:Nat:=0
noncomputable def PySem.W.Fast.tw6213681846013239563:Nat:=0
noncomputable def PySem.W.Fast.tw17083120344146483062:Nat:=0
noncomputable def PySem.W.Fast.tw9219432279997387:Nat:=0
noncomputable def PySem.W.Fast.tw10549697859104347840:Nat:=0
noncomputable def PySem.W.Fast.tw10656096292279199358:Nat:=0
noncomputable def PySem.W.Fast.tw7631544837859092811:Nat:=0
noncomputable def PySem.W.Fast.tw3003077488149890698:Nat:=0
noncomputable def PySem.W.Fast.tw586722537284506435:Nat:=0
noncomputable def PySem.W.Fast.tw11537081349527678856:Nat:=0
noncomputable def PySem.W.Fast.tw5254723230529304636:Nat:=0
noncomputable def PySem.W.Fast.tw9779156626727479757:Nat:=0
noncomputable def PySem.W.Fast.tw16030667285280657621:Nat:=0
noncomputable def PySem.W.Fast.tw317855517444364366:Nat:=0
noncomputable def PySem.W.Fast.tw13869105340571104629:Nat:=0
noncomputable def PySem.W.Fast.tw9503041854627554595:Nat:=0
noncomputable def PySem.W.Fast.tw9462781321105782300:Nat:=0
noncomputable def PySem.W.Fast.tw2189082208541267980:Nat:=0
noncomputable def PySem.W.Fast.tw334461145292493265:Nat:=0
noncomputable def PySem.W.Fast.tw9391103873043190802:Nat:=0
noncomputable def PySem.W.Fast.tw13495313048555784761:Nat:=0
noncomputable def PySem.W.Fast.tw925576328092816:Nat:=0
noncomputable def PySem.W.Fast.tw3617919826139972800:Nat:=0
noncomputable def PySem.W.Fast.tw9278383902117090668:Nat:=0
noncomputable def PySem.W.Fast.tw6407650211479566338:Nat:=0
noncomputable def PySem.W.Fast.tw2615346353350443016:Nat:=0
noncomputable def PySem.W.Fast.tw3796590727599110110:Nat:=0
noncomputable def PySem.W.Fast.tw4648522083083712531:Nat:=0
noncomputable def PySem.W.Fast.tw15125846188182548345:Nat:=0
noncomputable def PySem.W.Fast.tw3450162603860138740:Nat:=0
noncomputable def PySem.W.Fast.tw7806014987364417967:Nat:=0
noncomputable def PySem.W.Fast.tw12468320697832936685:Nat:=0
noncomputable def PySem.W.Fast.tw5703220321448449106:Nat:=0
noncomputable def PySem.W.Fast.tw18383214808201668556:Nat:=0
noncomputable def PySem.W.Fast.tw944290988292406956:Nat:=0
noncomputable def PySem.W.Fast.tw17867086696718829427:Nat:=0
noncomputable def PySem.W.Fast.tw741789125626859847:Nat:=0
noncomputable def PySem.W.Fast.tw11419968217811179671:Nat:=0
noncomputable def PySem.W.Fast.tw14976891477298108832:Nat:=0
noncomputable def PySem.W.Fast.tw6295946811759214344:Nat:=0
noncomputable def PySem.W.Fast.tw13264383094876806406:Nat:=0
noncomputable def PySem.W.Fast.tw18436279929776204060:Nat:=0
noncomputable def PySem.W.Fast.tw11574627743778311616:Nat:=0
noncomputable def PySem.W.Fast.tw3823290678567256665:Nat:=0
noncomputable def PySem.W.Fast.tw11305652429087967880:Nat:=0
noncomputable def PySem.W.Fast.tw4403288671728588798:Nat:=0
noncomputable def PySem.W.Fast.tw18192573909291620202:Nat:=0
noncomputable def PySem.W.Fast.tw15442848250278738752:Nat:=0
noncomputable def PySem.W.Fast.tw17040976966892487433:Nat:=0
noncomputable def PySem.W.Fast.tw9093664699636782701:Nat:=0
noncomputable def PySem.W.Fast.tw17470142415983099944:Nat:=0
noncomputable def PySem.W.Fast.tw5940139623317772110:Nat:=0
noncomputable def PySem.W.Fast.tw10746416510060975896:Nat:=0
noncomputable def PySem.W.Fast.tw12821320438053702654:Nat:=0
noncomputable def PySem.W.Fast.tw3368005262482972608:Nat:=0
noncomputable def PySem.W.Fast.tw2712019461545747898:Nat:=0
noncomputable def PySem.W.Fast.tw14882530618258942231:Nat:=0
noncomputable def PySem.W.Fast.tw17991582903188904117:Nat:=0
noncomputable def PySem.W.Fast.tw2026093789065241821:Nat:=0
noncomputable def PySem.W.Fast.tw8582964190868569404:Nat:=0
noncomputable def PySem.W.Fast.tw7879263159562570172:Nat:=0
noncomputable def PySem.W.Fast.tw14087877558681222366:Nat:=0
noncomputable def PySem.W.Fast.tw10978036683809983897:Nat:=0
noncomputable def PySem.W.Fast.tw5718883809967237714:Nat:=0
noncomputable def PySem.W.Fast.tw85697242273367175:Nat:=0
noncomputable def PySem.W.Fast.tw6078472965763558491:Nat:=0
noncomputable def PySem.W.Fast.tw16743140259248932210:Nat:=0
noncomputable def PySem.W.Fast.tw12669162348027409853:Nat:=0
noncomputable def PySem.W.Fast.tw9155642615145788751:Nat:=0
noncomputable def PySem.W.Fast.tw2903359641365982726:Nat:=0
noncomputable def PySem.W.Fast.tw3660011590040722593:Nat:=0
noncomputable def PySem.W.Fast.tw12302706407877035277:Nat:=0
noncomputable def PySem.W.Fast.tw13073611547574311732:Nat:=0
noncomputable def PySem.W.Fast.tw11324748816668729373:Nat:=0
noncomputable def PySem.W.Fast.tw14445798806533829095:Nat:=0
noncomputable def PySem.W.Fast.tw16663921344577505165:Nat:=0
noncomputable def PySem.W.Fast.tw8376758641292926538:Nat:=0
noncomputable def PySem.W.Fast.tw15510758401188678092:Nat:=0
noncomputable def PySem.W.Fast.tw16123033104163578445:Nat:=0
noncomputable def PySem.W.Fast.tw15245322029799322840:Nat:=0
noncomputable def PySem.W.Fast.tw10127586579893682409:Nat:=0
noncomputable def PySem.W.Fast.tw6039575925084810083:Nat:=0
noncomputable def PySem.W.Fast.tw992455270038727767:Nat:=0
noncomputable def PySem.W.Fast.tw8258194484324142093:Nat:=0
noncomputable def PySem.W.Fast.tw11846052749801580408:Nat:=0
noncomputable def PySem.W.Fast.tw10269594061344466000:Nat:=0
noncomputable def PySem.W.Fast.tw11201780231832420896:Nat:=0
noncomputable def PySem.W.Fast.tw2244142148910802363:Nat:=0
noncomputable def PySem.W.Fast.tw10118161565074952138:Nat:=0
noncomputable def PySem.W.Fast.tw6357917769677630536:Nat:=0
noncomputable def PySem.W.Fast.tw3152212307440594025:Nat:=0
noncomputable def PySem.W.Fast.tw1690428945476669323:Nat:=0
noncomputable def PySem.W.Fast.tw13046562860119466877:Nat:=0
noncomputable def PySem.W.Fast.tw16790186454302978380:Nat:=0
noncomputable def PySem.W.Fast.tw8744408570123121608:Nat:=0
noncomputable def PySem.W.Fast.tw14737668089672431346:Nat:=0
noncomputable def PySem.W.Fast.tw17087166227535958899:Nat:=0
noncomputable def PySem.W.Fast.tw9753125954451843385:Nat:=0
noncomputable def PySem.W.Fast.tw4601388121983661519:Nat:=0
noncomputable def PySem.W.Fast.tw1223272328733708607:Nat:=0
noncomputable def PySem.W.Fast.tw18360326355665537978:Nat:=0
noncomputable def PySem.W.Fast.tw5890982103629420808:Nat:=0
noncomputable def PySem.W.Fast.tw11577951509398788241:Nat:=0
noncomputable def PySem.W.Fast.tw1395951176890176373:Nat:=0
noncomputable def PySem.W.Fast.tw1947404554330519995:Nat:=0
noncomputable def PySem.W.Fast.tw17679241964892282603:Nat:=0
noncomputable def PySem.W.Fast.tw13489311117878645351:Nat:=0
noncomputable def PySem.W.Fast.tw12997491393983993311:Nat:=0
noncomputable def PySem.W.Fast.tw11583482696460596163:Nat:=0
noncomputable def PySem.W.Fast.tw6141297565004337178:Nat:=0
noncomputable def PySem.W.Fast.tw2977434971428505725:Nat:=0
noncomputable def PySem.W.Fast.tw5211913763899353811:Nat:=0
noncomputable def PySem.W.Fast.tw17650132452133333915:Nat:=0
noncomputable def PySem.W.Fast.tw15572458586412181966:Nat:=0
noncomputable def PySem.W.Fast.tw4703006229877657296:Nat:=0
noncomputable def PySem.W.Fast.tw6644699140697279849:Nat:=0
noncomputable def PySem.W.Fast.tw3667755130468726694:Nat:=0
noncomputable def PySem.W.Fast.tw13776007385429720039:Nat:=0
noncomputable def PySem.W.Fast.tw3384244817336335930:Nat:=0
noncomputable def PySem.W.Fast.tw4715067242168233198:Nat:=0
noncomputable def PySem.W.Fast.tw16660205616869151861:Nat:=0
noncomputable def PySem.W.Fast.tw601469065463543567:Nat:=0
noncomputable def PySem.W.Fast.tw3193346023415385324:Nat:=0
noncomputable def PySem.W.Fast.tw11372784309680431914:Nat:=0
noncomputable def PySem.W.Fast.tw3231361524959823029:Nat:=0
noncomputable def PySem.W.Fast.tw13590065077361389753:Nat:=0
noncomputable def PySem.W.Fast.tw6091187508862045521:Nat:=0
noncomputable def PySem.W.Fast.tw15755536833982073296:Nat:=0
noncomputable def PySem.W.Fast.tw3335338010476674186:Nat:=0
noncomputable def PySem.W.Fast.tw14372426138911452735:Nat:=0
noncomputable def PySem.W.Fast.tw13346155197747727685:Nat:=0
noncomputable def PySem.W.Fast.tw8122483298159056956:Nat:=0
noncomputable def PySem.W.Fast.tw3626942542107324021:Nat:=0
noncomputable def PySem.W.Fast.tw899769638177260642:Nat:=0
noncomputable def PySem.W.Fast.tw9723551271428723089:Nat:=0
noncomputable def PySem.W.Fast.tw11652239525385420806:Nat:=0
noncomputable def PySem.W.Fast.tw2989261776746645226:Nat:=0
noncomputable def PySem.W.Fast.tw12684328312378025970:Nat:=0
noncomputable def PySem.W.Fast.tw7456282105685431600:Nat:=0
noncomputable def PySem.W.Fast.tw834452314294266834:Nat:=0
noncomputable def PySem.W.Fast.tw14694296358939795012:Nat:=0
noncomputable def PySem.W.Fast.tw11646931031514162425:Nat:=0
noncomputable def PySem.W.Fast.tw2321155231839457469:Nat:=0
noncomputable def PySem.W.Fast.tw17216053015654757856:Nat:=0
noncomputable def PySem.W.Fast.tw17749441355037656488:Nat:=0
noncomputable def PySem.W.Fast.tw16291096689186509528:Nat:=0
noncomputable def PySem.W.Fast.tw4886973428194761373:Nat:=0
noncomputable def PySem.W.Fast.tw462669721972114259:Nat:=0
noncomputable def PySem.W.Fast.tw7382001754713720817:Nat:=0
noncomputable def PySem.W.Fast.tw2471775980423051633:Nat:=0
noncomputable def PySem.W.Fast.tw13072651922989625163:Nat:=0
noncomputable def PySem.W.Fast.tw10567606560382060964:Nat:=0
noncomputable def PySem.W.Fast.tw9856756990290093810:Nat:=0
noncomputable def PySem.W.Fast.tw1004701075316327352:Nat:=0
noncomputable def PySem.W.Fast.tw12391427515894135212:Nat:=0
noncomputable def PySem.W.Fast.tw11711119033817996931:Nat:=0
noncomputable def PySem.W.Fast.tw10742928623876748295:Nat:=0
noncomputable def PySem.W.Fast.tw9748798235140345549:Nat:=0
noncomputable def PySem.W.Fast.tw2004533312019790679:Nat:=0
noncomputable def PySem.W.Fast.tw10990702130184059867:Nat:=0
noncomputable def PySem.W.Fast.tw2216956384797908327:Nat:=0
noncomputable def PySem.W.Fast.tw7990169177636299206:Nat:=0
noncomputable def PySem.W.Fast.tw15406484207113390326:Nat:=0
noncomputable def PySem.W.Fast.tw521394268718413538:Nat:=0
noncomputable def PySem.W.Fast.tw18445270916325156597:Nat:=0
noncomputable def PySem.W.Fast.tw8749873320058910608:Nat:=0
noncomputable def PySem.W.Fast.tw11465358885921568992:Nat:=0
noncomputable def PySem.W.Fast.tw17633317278798643367:Nat:=0
noncomputable def PySem.W.Fast.tw2617018661077798702:Nat:=0
noncomputable def PySem.W.Fast.tw11788821584197766897:Nat:=0
noncomputable def PySem.W.Fast.tw8258136322987277386:Nat:=0
noncomputable def PySem.W.Fast.tw335015770251456986:Nat:=0
noncomputable def PySem.W.Fast.tw18157911470419487961:Nat:=0
noncomputable def PySem.W.Fast.tw9168632476892133769:Nat:=0
noncomputable def PySem.W.Fast.tw15040741726763411971:Nat:=0
noncomputable def PySem.W.Fast.tw3722177500002865568:Nat:=0
noncomputable def PySem.W.Fast.tw17765557099927910694:Nat:=0
noncomputable def PySem.W.Fast.tw17135366205151152784:Nat:=0
noncomputable def PySem.W.Fast.tw13491640658824107348:Nat:=0
noncomputable def PySem.W.Fast.tw18365056283491566525:Nat:=0
noncomputable def PySem.W.Fast.tw15163268756087634274:Nat:=0
noncomputable def PySem.W.Fast.tw10194469768725945156:Nat:=0
noncomputable def PySem.W.Fast.tw14557129405402884991:Nat:=0
noncomputable def PySem.W.Fast.tw13381239147661045166:Nat:=0
noncomputable def PySem.W.Fast.tw1964965596606969820:Nat:=0
noncomputable def PySem.W.Fast.tw9765945657224775406:Nat:=0
noncomputable def PySem.W.Fast.tw12374595165326118124:Nat:=0
noncomputable def PySem.W.Fast.tw453897020827961240:Nat:=0
noncomputable def PySem.W.Fast.tw17447212482689326316:Nat:=0
noncomputable def PySem.W.Fast.tw10419285003644694464:Nat:=0
noncomputable def PySem.W.Fast.tw5982843939645866303:Nat:=0
noncomputable def PySem.W.Fast.tw6966762181109921806:Nat:=0
noncomputable def PySem.W.Fast.tw11494815921955496708:Nat:=0
noncomputable def PySem.W.Fast.tw8087902434046192919:Nat:=0
noncomputable def PySem.W.Fast.tw419487260111356729:Nat:=0
noncomputable def PySem.W.Fast.tw17470622337531148612:Nat:=0
noncomputable def PySem.W.Fast.tw15157529231816998792:Nat:=0
noncomputable def PySem.W.Fast.tw5105297887837834137:Nat:=0
noncomputable def PySem.W.Fast.tw14527793096455039852:Nat:=0
noncomputable def PySem.W.Fast.tw4829050836482142954:Nat:=0
noncomputable def PySem.W.Fast.tw13464712286054466772:Nat:=0
noncomputable def PySem.W.Fast.tw9614434334017419734:Nat:=0
noncomputable def PySem.W.Fast.tw10602243167358816548:Nat:=0
noncomputable def PySem.W.Fast.tw17698604081955336449:Nat:=0
noncomputable def PySem.W.Fast.tw12908509555602925680:Nat:=0
noncomputable def PySem.W.Fast.tw14205029862155479289:Nat:=0
noncomputable def PySem.W.Fast.tw17806482641396521599:Nat:=0
noncomputable def PySem.W.Fast.tw10289207670995840140:Nat:=0
noncomputable def PySem.W.Fast.tw896809482098834249:Nat:=0
noncomputable def PySem.W.Fast.tw6318027577080419283:Nat:=0
noncomputable def PySem.W.Fast.tw11575093766743969471:Nat:=0
noncomputable def PySem.W.Fast.tw9620443793010071222:Nat:=0
noncomputable def PySem.W.Fast.tw1037717155970717574:Nat:=0
noncomputable def PySem.W.Fast.tw5484977315129011956:Nat:=0
noncomputable def PySem.W.Fast.tw11575281323356400998:Nat:=0
noncomputable def PySem.W.Fast.tw17798300967991303652:Nat:=0
noncomputable def PySem.W.Fast.tw14986628598206020142:Nat:=0
noncomputable def PySem.W.Fast.tw5604732160630608130:Nat:=0
noncomputable def PySem.W.Fast.tw12639798815739616758:Nat:=0
noncomputable def PySem.W.Fast.tw9119238355943134870:Nat:=0
noncomputable def PySem.W.Fast.tw10013545368061706400:Nat:=0
noncomputable def PySem.W.Fast.tw14544406667669256558:Nat:=0
noncomputable def PySem.W.Fast.tw8713973844391314020:Nat:=0
noncomputable def PySem.W.Fast.tw10325246827340692892:Nat:=0
noncomputable def PySem.W.Fast.tw12331483513343507622:Nat:=0
noncomputable def PySem.W.Fast.tw9362036150564064173:Nat:=0
noncomputable def PySem.W.Fast.tw2366229615153528895:Nat:=0
noncomputable def PySem.W.Fast.tw1621958556132963377:Nat:=0
noncomputable def PySem.W.Fast.tw12859527587296656081:Nat:=0
noncomputable def PySem.W.Fast.tw2632920172664570120:Nat:=0
noncomputable def PySem.W.Fast.tw3034307916804688088:Nat:=0
noncomputable def PySem.W.Fast.tw14588297231942368628:Nat:=0
noncomputable def PySem.W.Fast.tw6866133014637597261:Nat:=0
noncomputable def PySem.W.Fast.tw18088171458589294944:Nat:=0
noncomputable def PySem.W.Fast.tw10981241073752407682:Nat:=0
noncomputable def PySem.W.Fast.tw7551537275434924118:Nat:=0
noncomputable def PySem.W.Fast.tw13018175437261185412:Nat:=0
noncomputable def PySem.W.Fast.tw10293637666520522158:Nat:=0
noncomputable def PySem.W.Fast.tw17090549179808473502:Nat:=0
noncomputable def PySem.W.Fast.tw5868926711973875178:Nat:=0
noncomputable def PySem.W.Fast.tw7830309458223180394:Nat:=0
noncomputable def PySem.W.Fast.tw193018008243986802:Nat:=0
noncomputable def PySem.W.Fast.tw11611524560389347171:Nat:=0
noncomputable def PySem.W.Fast.tw11661705529501171364:Nat:=0
noncomputable def PySem.W.Fast.tw14012050302360252048:Nat:=0
noncomputable def PySem.W.Fast.tw6851878447979328901:Nat:=0
noncomputable def PySem.W.Fast.tw13576280175633126142:Nat:=0
noncomputable def PySem.W.Fast.tw1777025676042276484:Nat:=0
noncomputable def PySem.W.Fast.tw3379370595635984263:Nat:=0
noncomputable def PySem.W.Fast.tw2924107966674038238:Nat:=0
noncomputable def PySem.W.Fast.tw4651143816448726060:Nat:=0
noncomputable def PySem.W.Fast.tw11846740130008675553:Nat:=0
noncomputable def PySem.W.Fast.tw3444178116953509426:Nat:=0
noncomputable def PySem.W.Fast.tw12169149476807333151:Nat:=0
noncomputable def PySem.W.Fast.tw16079467900919928393:Nat:=0
noncomputable def PySem.W.Fast.tw2278132787998706141:Nat:=0
noncomputable def PySem.W.Fast.tw11194169056475601083:Nat:=0
noncomputable def PySem.W.Fast.tw17597064586299136999:Nat:=0
noncomputable def PySem.W.Fast.tw1203558988014074147:Nat:=0
noncomputable def PySem.W.Fast.tw11000146783932872784:Nat:=0
noncomputable def PySem.W.Fast.tw7525912811548128613:Nat:=0
noncomputable def PySem.W.Fast.tw11089164404068394443:Nat:=0
noncomputable def PySem.W.Fast.tw14936913882311597806:Nat:=0
noncomputable def PySem.W.Fast.tw6059070655537587434:Nat:=0
noncomputable def PySem.W.Fast.tw2712085984089584040:Nat:=0
noncomputable def PySem.W.Fast.tw13055610006109582391:Nat:=0
noncomputable def PySem.W.Fast.tw8717809525312956239:Nat:=0
noncomputable def PySem.W.Fast.tw15269173866081272465:Nat:=0
noncomputable def PySem.W.Fast.tw2117271690713642036:Nat:=0
noncomputable def PySem.W.Fast.tw5440154361427993440:Nat:=0
noncomputable def PySem.W.Fast.tw2678715375814460926:Nat:=0
noncomputable def PySem.W.Fast.tw5262790709506783752:Nat:=0
noncomputable def PySem.W.Fast.tw15425933260511790947:Nat:=0
noncomputable def PySem.W.Fast.tw13774721718253939229:Nat:=0
noncomputable def PySem.W.Fast.tw8616891125893379092:Nat:=0
noncomputable def PySem.W.Fast.tw9672603966454990284:Nat:=0
noncomputable def PySem.W.Fast.tw9358287674813757639:Nat:=0
noncomputable def PySem.W.Fast.tw11310968395076666807:Nat:=0
noncomputable def PySem.W.Fast.tw16977961099857879854:Nat:=0
noncomputable def PySem.W.Fast.tw18418450404298282991:Nat:=0
noncomputable def PySem.W.Fast.tw5256336134092125579:Nat:=0
noncomputable def PySem.W.Fast.tw14283003328198607755:Nat:=0
noncomputable def PySem.W.Fast.tw12182155020254584947:Nat:=0
noncomputable def PySem.W.Fast.tw12059551788809188027:Nat:=0
noncomputable def PySem.W.Fast.tw5783775045607381796:Nat:=0
noncomputable def PySem.W.Fast.tw12707215810230563219:Nat:=0
noncomputable def PySem.W.Fast.tw7247245829093621483:Nat:=0
noncomputable def PySem.W.Fast.tw7849651449221835834:Nat:=0
noncomputable def PySem.W.Fast.tw7608370637262752087:Nat:=0
noncomputable def PySem.W.Fast.tw10686480564957196573:Nat:=0
noncomputable def PySem.W.Fast.tw353497544518657706:Nat:=0
noncomputable def PySem.W.Fast.tw9685776772769739809:Nat:=0
noncomputable def PySem.W.Fast.tw13055213095020559313:Nat:=0
noncomputable def PySem.W.Fast.tw1250779698485105151:Nat:=0
noncomputable def PySem.W.Fast.tw16313295219015292099:Nat:=0
noncomputable def PySem.W.Fast.tw14507216462619056144:Nat:=0
noncomputable def PySem.W.Fast.tw1506659405914057740:Nat:=0
noncomputable def PySem.W.Fast.tw12981014372535613007:Nat:=0
noncomputable def PySem.W.Fast.tw16599827091827652024:Nat:=0
noncomputable def PySem.W.Fast.tw485354580046270832:Nat:=0
noncomputable def PySem.W.Fast.tw11337887644959107535:Nat:=0
noncomputable def PySem.W.Fast.tw15202900844921345039:Nat:=0
noncomputable def PySem.W.Fast.tw5655378138404797190:Nat:=0
noncomputable def PySem.W.Fast.tw7299586698052701856:Nat:=0
noncomputable def PySem.W.Fast.tw4056245816088305643:Nat:=0
noncomputable def PySem.W.Fast.tw6214042144888394603:Nat:=0
noncomputable def PySem.W.Fast.tw18155577607224881101:Nat:=0
noncomputable def PySem.W.Fast.tw5376150856758783370:Nat:=0
noncomputable def PySem.W.Fast.tw8965847122263160672:Nat:=0
noncomputable def PySem.W.Fast.tw15639726642992046784:Nat:=0
noncomputable def PySem.W.Fast.tw3042500941664753358:Nat:=0
noncomputable def PySem.W.Fast.tw11619293741387374091:Nat:=0
noncomputable def PySem.W.Fast.tw15797833485899334388:Nat:=0
noncomputable def PySem.W.Fast.tw17386329699076550424:Nat:=0
noncomputable def PySem.W.Fast.tw14757376220294954362:Nat:=0
noncomputable def PySem.W.Fast.tw8373681096072668992:Nat:=0
noncomputable def PySem.W.Fast.tw3180127795648563100:Nat:=0
noncomputable def PySem.W.Fast.tw12784307166595914842:Nat:=0
noncomputable def PySem.W.Fast.tw2059644832787746741:Nat:=0
noncomputable def PySem.W.Fast.tw18372656514889955803:Nat:=0
noncomputable def PySem.W.Fast.tw4563504343783200910:Nat:=0
noncomputable def PySem.W.Fast.tw5188964152310062511:Nat:=0
noncomputable def PySem.W.Fast.tw5970317187760916394:Nat:=0
noncomputable def PySem.W.Fast.tw6888312641204899209:Nat:=0
noncomputable def PySem.W.Fast.tw309828314986847733:Nat:=0
noncomputable def PySem.W.Fast.tw3433008591181559703:Nat:=0
noncomputable def PySem.W.Fast.tw1652778054109339080:Nat:=0
noncomputable def PySem.W.Fast.tw11487540123006555887:Nat:=0
noncomputable def PySem.W.Fast.tw2287575877240643185:Nat:=0
noncomputable def PySem.W.Fast.tw7059095161064766468:Nat:=0
noncomputable def PySem.W.Fast.tw4526330504742460574:Nat:=0
noncomputable def PySem.W.Fast.tw292298522347698534:Nat:=0
noncomputable def PySem.W.Fast.tw14695049095744568094:Nat:=0
noncomputable def PySem.W.Fast.tw1445445771870860730:Nat:=0
noncomputable def PySem.W.Fast.tw11686038674883309510:Nat:=0
noncomputable def PySem.W.Fast.tw5080250903010048921:Nat:=0
noncomputable def PySem.W.Fast.tw9173273060134612783:Nat:=0
noncomputable def PySem.W.Fast.tw6928927564160483169:Nat:=0
noncomputable def PySem.W.Fast.tw18036066953508827780:Nat:=0
noncomputable def PySem.W.Fast.tw16364984210346857269:Nat:=0
noncomputable def PySem.W.Fast.tw7710506921915255266:Nat:=0
noncomputable def PySem.W.Fast.tw9443449370607585083:Nat:=0
noncomputable def PySem.W.Fast.tw17966432884184539073:Nat:=0
noncomputable def PySem.W.Fast.tw8999842770918833627:Nat:=0
noncomputable def PySem.W.Fast.tw18280147258357721770:Nat:=0
noncomputable def PySem.W.Fast.tw4885136865088328448:Nat:=0
noncomputable def PySem.W.Fast.tw2969358591132447270:Nat:=0
noncomputable def PySem.W.Fast.tw8732126731441347856:Nat:=0
noncomputable def PySem.W.Fast.tw14465657682129575956:Nat:=0
noncomputable def PySem.W.Fast.tw4835004300911999876:Nat:=0
noncomputable def PySem.W.Fast.tw3901033479489573507:Nat:=0
noncomputable def PySem.W.Fast.tw16377503492852026708:Nat:=0
noncomputable def PySem.W.Fast.tw7924506546895618923:Nat:=0
noncomputable def PySem.W.Fast.tw2105482581059453512:Nat:=0
noncomputable def PySem.W.Fast.tw8274121060968161634:Nat:=0
noncomputable def PySem.W.Fast.tw7752789148184367890:Nat:=0
noncomputable def PySem.W.Fast.tw12352750681974184309:Nat:=0
noncomputable def PySem.W.Fast.tw12110659107231886030:Nat:=0
noncomputable def PySem.W.Fast.tw8777542470737523766:Nat:=0
noncomputable def PySem.W.Fast.tw6638852260143827688:Nat:=0
noncomputable def PySem.W.Fast.tw13779333775397995322:Nat:=0
noncomputable def PySem.W.Fast.tw18441078748507227863:Nat:=0
noncomputable def PySem.W.Fast.tw13870458252377609472:Nat:=0
noncomputable def PySem.W.Fast.tw1214170329936338866:Nat:=0
noncomputable def PySem.W.Fast.tw15516254396595432120:Nat:=0
noncomputable def PySem.W.Fast.tw10557217846639433644:Nat:=0
noncomputable def PySem.W.Fast.tw5026330918360455115:Nat:=0
noncomputable def PySem.W.Fast.tw8946758413527705727:Nat:=0
noncomputable def PySem.W.Fast.tw10306905157674576345:Nat:=0
noncomputable def PySem.W.Fast.tw9267579825038839552:Nat:=0
noncomputable def PySem.W.Fast.tw9768178995449626927:Nat:=0
noncomputable def PySem.W.Fast.tw10198367363244108574:Nat:=0
noncomputable def PySem.W.Fast.tw555826882230951029:Nat:=0
noncomputable def PySem.W.Fast.tw14950953686304660587:Nat:=0
noncomputable def PySem.W.Fast.tw16973413937525008175:Nat:=0
noncomputable def PySem.W.Fast.tw9930845623263695209:Nat:=0
noncomputable def PySem.W.Fast.tw16554744068028192485:Nat:=0
noncomputable def PySem.W.Fast.tw8490829018127605600:Nat:=0
noncomputable def PySem.W.Fast.tw17174239766623701394:Nat:=0
noncomputable def PySem.W.Fast.tw701859474263906390:Nat:=0
noncomputable def PySem.W.Fast.tw3711200560478943396:Nat:=0
noncomputable def PySem.W.Fast.tw2066280481639006472:Nat:=0
noncomputable def PySem.W.Fast.tw11040244642101343467:Nat:=0
noncomputable def PySem.W.Fast.tw7909045088284919517:Nat:=0
noncomputable def PySem.W.Fast.tw305884259995662350:Nat:=0
noncomputable def PySem.W.Fast.tw10202536499156497086:Nat:=0
noncomputable def PySem.W.Fast.tw3436486217905991233:Nat:=0
noncomputable def PySem.W.Fast.tw17885046729909313036:Nat:=0
noncomputable def PySem.W.Fast.tw5266178615788503785:Nat:=0
noncomputable def PySem.W.Fast.tw1749417706523106897:Nat:=0
noncomputable def PySem.W.Fast.tw1558638597447519164:Nat:=0
noncomputable def PySem.W.Fast.tw9051882483177665283:Nat:=0
noncomputable def PySem.W.Fast.tw9402120767484606830:Nat:=0
noncomputable def PySem.W.Fast.tw8393909183786176133:Nat:=0
noncomputable def PySem.W.Fast.tw979852199711803121:Nat:=0
noncomputable def PySem.W.Fast.tw15464025297927992216:Nat:=0
noncomputable def PySem.W.Fast.tw12763332480752754209:Nat:=0
noncomputable def PySem.W.Fast.tw16425720493856675023:Nat:=0
noncomputable def PySem.W.Fast.tw17143371255491748139:Nat:=0
noncomputable def PySem.W.Fast.tw4742276458787950585:Nat:=0
noncomputable def PySem.W.Fast.tw12407847481677494521:Nat:=0
noncomputable def PySem.W.Fast.tw4489409640174397453:Nat:=0
noncomputable def PySem.W.Fast.tw9948243064597656059:Nat:=0
noncomputable def PySem.W.Fast.tw7353698030830925520:Nat:=0
noncomputable def PySem.W.Fast.tw9855476134476698029:Nat:=0
noncomputable def PySem.W.Fast.tw4422188063268704420:Nat:=0
noncomputable def PySem.W.Fast.tw9008580326343196692:Nat:=0
noncomputable def PySem.W.Fast.tw11287106755162342179:Nat:=0
noncomputable def PySem.W.Fast.tw4247407338911730175:Nat:=0
noncomputable def PySem.W.Fast.tw2747756789888677270:Nat:=0
noncomputable def PySem.W.Fast.tw3725149274199461915:Nat:=0
noncomputable def PySem.W.Fast.tw7604686582821155616:Nat:=0
noncomputable def PySem.W.Fast.tw7853606886853635842:Nat:=0
noncomputable def PySem.W.Fast.tw456797289839452698:Nat:=0
noncomputable def PySem.W.Fast.tw10851016465047743140:Nat:=0
noncomputable def PySem.W.Fast.tw16702843924828158448:Nat:=0
noncomputable def PySem.W.Fast.tw3190416314404201597:Nat:=0
noncomputable def PySem.W.Fast.tw16347390756778455814:Nat:=0
noncomputable def PySem.W.Fast.tw9329172408068528024:Nat:=0
noncomputable def PySem.W.Fast.tw1182682018328018644:Nat:=0
noncomputable def PySem.W.Fast.tw10915928471524129030:Nat:=0
noncomputable def PySem.W.Fast.tw17491655144926615999:Nat:=0
noncomputable def PySem.W.Fast.tw4211509139918056295:Nat:=0
noncomputable def PySem.W.Fast.tw11094656350382149127:Nat:=0
noncomputable def PySem.W.Fast.tw4204263087598136151:Nat:=0
noncomputable def PySem.W.Fast.tw12331027270182029528:Nat:=0
noncomputable def PySem.W.Fast.tw7300446138145811691:Nat:=0
noncomputable def PySem.W.Fast.tw5181239490623018258:Nat:=0
noncomputable def PySem.W.Fast.tw6834294297735076015:Nat:=0
noncomputable def PySem.W.Fast.tw5219692371591916134:Nat:=0
noncomputable def PySem.W.Fast.tw4857853106991855856:Nat:=0
noncomputable def PySem.W.Fast.tw9731204319466174648:Nat:=0
noncomputable def PySem.W.Fast.tw38325786040359600:Nat:=0
noncomputable def PySem.W.Fast.tw1813082995465357429:Nat:=0
noncomputable def PySem.W.Fast.tw2939235460847334165:Nat:=0
noncomputable def PySem.W.Fast.tw16789683754633343096:Nat:=0
noncomputable def PySem.W.Fast.tw17099613391483489216:Nat:=0
noncomputable def PySem.W.Fast.tw12880988438912619874:Nat:=0
noncomputable def PySem.W.Fast.tw1781921975940734758:Nat:=0
noncomputable def PySem.W.Fast.tw17712829992891425553:Nat:=0
noncomputable def PySem.W.Fast.tw16722476246846946632:Nat:=0
noncomputable def PySem.W.Fast.tw10233531839540145847:Nat:=0
noncomputable def PySem.W.Fast.tw8653300608885950303:Nat:=0
noncomputable def PySem.W.Fast.tw487565386681783498:Nat:=0
noncomputable def PySem.W.Fast.tw13929987222072677713:Nat:=0
noncomputable def PySem.W.Fast.tw11394607504822708215:Nat:=0
noncomputable def PySem.W.Fast.tw723754134228214989:Nat:=0
noncomputable def PySem.W.Fast.tw15712194900960156336:Nat:=0
noncomputable def PySem.W.Fast.tw3867840768436335871:Nat:=0
noncomputable def PySem.W.Fast.tw12724127382763976022:Nat:=0
noncomputable def PySem.W.Fast.tw13326854114325140176:Nat:=0
noncomputable def PySem.W.Fast.tw5782452653981692670:Nat:=0
noncomputable def PySem.W.Fast.tw5740227888431017712:Nat:=0
noncomputable def PySem.W.Fast.tw9679454057498622210:Nat:=0
noncomputable def PySem.W.Fast.tw1168707999546964281:Nat:=0
noncomputable def PySem.W.Fast.tw1759135868027548745:Nat:=0
noncomputable def PySem.W.Fast.tw3064696658355380661:Nat:=0
noncomputable def PySem.W.Fast.tw8442968659399462821:Nat:=0
noncomputable def PySem.W.Fast.tw15486597700239139741:Nat:=0
noncomputable def PySem.W.Fast.tw9311702330134584242:Nat:=0
noncomputable def PySem.W.Fast.tw9682021456770303082:Nat:=0
noncomputable def PySem.W.Fast.tw16671344458352377471:Nat:=0
noncomputable def PySem.W.Fast.tw831669460532638495:Nat:=0
noncomputable def PySem.W.Fast.tw16225219266768361244:Nat:=0
noncomputable def PySem.W.Fast.tw9516899507986136966:Nat:=0
noncomputable def PySem.W.Fast.tw18383409138562736144:Nat:=0
noncomputable def PySem.W.Fast.tw3133248379084609580:Nat:=0
noncomputable def PySem.W.Fast.tw9179761822146475794:Nat:=0
noncomputable def PySem.W.Fast.tw5962934800916253950:Nat:=0
noncomputable def PySem.W.Fast.tw2721566725813181577:Nat:=0
noncomputable def PySem.W.Fast.tw9228878800349444205:Nat:=0
noncomputable def PySem.W.Fast.tw13055303434967179786:Nat:=0
noncomputable def PySem.W.Fast.tw4831838086146762314:Nat:=0
noncomputable def PySem.W.Fast.tw5296819553189456870:Nat:=0
noncomputable def PySem.W.Fast.tw15310763085097741282:Nat:=0
noncomputable def PySem.W.Fast.tw13816098907591870500:Nat:=0
noncomputable def PySem.W.Fast.tw3982126063133639064:Nat:=0
noncomputable def PySem.W.Fast.tw6075035967215679122:Nat:=0
noncomputable def PySem.W.Fast.tw12544986990352927512:Nat:=0
noncomputable def PySem.W.Fast.tw5158959383531652918:Nat:=0
noncomputable def PySem.W.Fast.tw13012967397354809126:Nat:=0
noncomputable def PySem.W.Fast.tw16503713595553135206:Nat:=0
noncomputable def PySem.W.Fast.tw209328961842396618:Nat:=0
noncomputable def PySem.W.Fast.tw16922659869656755358:Nat:=0
noncomputable def PySem.W.Fast.tw3213172106829711390:Nat:=0
noncomputable def PySem.W.Fast.tw17303733785118402676:Nat:=0
noncomputable def PySem.W.Fast.tw17997821022314926866:Nat:=0
noncomputable def PySem.W.Fast.tw5272468395024533020:Nat:=0
noncomputable def PySem.W.Fast.tw11910876224135745402:Nat:=0
noncomputable def PySem.W.Fast.tw4036083643786525793:Nat:=0
noncomputable def PySem.W.Fast.tw16011411320007482296:Nat:=0
noncomputable def PySem.W.Fast.tw14581519636565333007:Nat:=0
noncomputable def PySem.W.Fast.tw7019744884246027117:Nat:=0
noncomputable def PySem.W.Fast.tw9744571899111825736:Nat:=0
noncomputable def PySem.W.Fast.tw14048175446117998107:Nat:=0
noncomputable def PySem.W.Fast.tw13452906114305625012:Nat:=0
noncomputable def PySem.W.Fast.tw16985049425465909083:Nat:=0
noncomputable def PySem.W.Fast.tw9178810922731424643:Nat:=0
noncomputable def PySem.W.Fast.tw8705932860794245450:Nat:=0
noncomputable def PySem.W.Fast.tw3048804557008888942:Nat:=0
noncomputable def PySem.W.Fast.tw11122205114119278520:Nat:=0
noncomputable def PySem.W.Fast.tw16115653414096571044:Nat:=0
noncomputable def PySem.W.Fast.tw13664150001853790110:Nat:=0
noncomputable def PySem.W.Fast.tw16359391159859423324:Nat:=0
noncomputable def PySem.W.Fast.tw10361336274890909457:Nat:=0
noncomputable def PySem.W.Fast.tw9230268502219592337:Nat:=0
noncomputable def PySem.W.Fast.tw12678039739338974856:Nat:=0
noncomputable def PySem.W.Fast.tw13869577754076352434:Nat:=0
noncomputable def PySem.W.Fast.tw1253515016446795839:Nat:=0
noncomputable def PySem.W.Fast.tw9877240077070447489:Nat:=0
noncomputable def PySem.W.Fast.tw9778640324710600517:Nat:=0
noncomputable def PySem.W.Fast.tw16537299120019635837:Nat:=0
noncomputable def PySem.W.Fast.tw3880056605429976240:Nat:=0
noncomputable def PySem.W.Fast.tw15919144462175524660:Nat:=0
noncomputable def PySem.W.Fast.tw12798228994434628744:Nat:=0
noncomputable def PySem.W.Fast.tw17310609724786057927:Nat:=0
noncomputable def PySem.W.Fast.tw917737140457954825:Nat:=0
noncomputable def PySem.W.Fast.tw10457093907690373767:Nat:=0
noncomputable def PySem.W.Fast.tw17145010871569608542:Nat:=0
noncomputable def PySem.W.Fast.tw4022350434131240494:Nat:=0
noncomputable def PySem.W.Fast.tw5265300490692778897:Nat:=0
noncomputable def PySem.W.Fast.tw5102770392588044331:Nat:=0
noncomputable def PySem.W.Fast.tw16007268981619461288:Nat:=0
noncomputable def PySem.W.Fast.tw14439779204401030143:Nat:=0
noncomputable def PySem.W.Fast.tw9178713260874683350:Nat:=0
noncomputable def PySem.W.Fast.tw15542803717169908308:Nat:=0
noncomputable def PySem.W.Fast.tw3022375326458386818:Nat:=0
noncomputable def PySem.W.Fast.tw17164971655132365363:Nat:=0
noncomputable def PySem.W.Fast.tw15040165361813724443:Nat:=0
noncomputable def PySem.W.Fast.tw12247507710005478402:Nat:=0
noncomputable def PySem.W.Fast.tw17433490448261659260:Nat:=0
noncomputable def PySem.W.Fast.tw16567405001937407902:Nat:=0
noncomputable def PySem.W.Fast.tw12108247898386668714:Nat:=0
noncomputable def PySem.W.Fast.tw1264473355118270348:Nat:=0
noncomputable def PySem.W.Fast.tw2388534172473383582:Nat:=0
noncomputable def PySem.W.Fast.tw17632550162530294616:Nat:=0
noncomputable def PySem.W.Fast.tw4221600445170512794:Nat:=0
noncomputable def PySem.W.Fast.tw7243475111626869244:Nat:=0
noncomputable def PySem.W.Fast.tw16893480150205931256:Nat:=0
noncomputable def PySem.W.Fast.tw10865612660145241002:Nat:=0
noncomputable def PySem.W.Fast.tw5787789751038228491:Nat:=0
noncomputable def PySem.W.Fast.tw8997286505400936407:Nat:=0
noncomputable def PySem.W.Fast.tw16896068893351059130:Nat:=0
noncomputable def PySem.W.Fast.tw5754047686613526517:Nat:=0
noncomputable def PySem.W.Fast.tw2285042366999085960:Nat:=0
noncomputable def PySem.W.Fast.tw1550141999540115381:Nat:=0
noncomputable def PySem.W.Fast.tw11758442402604776263:Nat:=0
noncomputable def PySem.W.Fast.tw9411662111943309991:Nat:=0
noncomputable def PySem.W.Fast.tw15266844350505648682:Nat:=0
noncomputable def PySem.W.Fast.tw13229624493622508612:Nat:=0
noncomputable def PySem.W.Fast.tw9083457488492722786:Nat:=0
noncomputable def PySem.W.Fast.tw5807439843689083858:Nat:=0
noncomputable def PySem.W.Fast.tw16693625712706370821:Nat:=0
noncomputable def PySem.W.Fast.tw8054404696092546482:Nat:=0
noncomputable def PySem.W.Fast.tw12175848264912793980:Nat:=0
noncomputable def PySem.W.Fast.tw15885952823560446019:Nat:=0
noncomputable def PySem.W.Fast.tw13122907038414929984:Nat:=0
noncomputable def PySem.W.Fast.tw8748620311230191463:Nat:=0
noncomputable def PySem.W.Fast.tw4722837123845817692:Nat:=0
noncomputable def PySem.W.Fast.tw12696282289715324855:Nat:=0
noncomputable def PySem.W.Fast.tw13509579078950617740:Nat:=0
noncomputable def PySem.W.Fast.tw10853504211848317493:Nat:=0
noncomputable def PySem.W.Fast.tw9431349797610562755:Nat:=0
noncomputable def PySem.W.Fast.tw5701779550524963520:Nat:=0
noncomputable def PySem.W.Fast.tw5744404142607608749:Nat:=0
noncomputable def PySem.W.Fast.tw7306609131304162800:Nat:=0
noncomputable def PySem.W.Fast.tw5849403088088466340:Nat:=0
noncomputable def PySem.W.Fast.tw5142563321294758187:Nat:=0
noncomputable def PySem.W.Fast.tw12612496333810194480:Nat:=0
noncomputable def PySem.W.Fast.tw4936670752279984010:Nat:=0
noncomputable def PySem.W.Fast.tw8779543524456243360:Nat:=0
noncomputable def PySem.W.Fast.tw12999598117953462724:Nat:=0
noncomputable def PySem.W.Fast.tw17404957816589380616:Nat:=0
noncomputable def PySem.W.Fast.tw14518624530241449647:Nat:=0
noncomputable def PySem.W.Fast.tw6674893638578966840:Nat:=0
noncomputable def PySem.W.Fast.tw10424467523211063345:Nat:=0
noncomputable def PySem.W.Fast.tw17385078174723453508:Nat:=0
noncomputable def PySem.W.Fast.tw11336417473030248342:Nat:=0
noncomputable def PySem.W.Fast.tw12815485251753615294:Nat:=0
noncomputable def PySem.W.Fast.tw8720902318848579441:Nat:=0
noncomputable def PySem.W.Fast.tw15752953470040897267:Nat:=0
noncomputable def PySem.W.Fast.tw15946545357768123301:Nat:=0
noncomputable def PySem.W.Fast.tw18217542917823921069:Nat:=0
noncomputable def PySem.W.Fast.tw9213852605627008565:Nat:=0
noncomputable def PySem.W.Fast.tw8548551043332316662:Nat:=0
noncomputable def PySem.W.Fast.tw11387085313796742962:Nat:=0
noncomputable def PySem.W.Fast.tw15092602109726359699:Nat:=0
noncomputable def PySem.W.Fast.tw17003800906171929849:Nat:=0
noncomputable def PySem.W.Fast.tw2379530530182957141:Nat:=0
noncomputable def PySem.W.Fast.tw5747528284544011977:Nat:=0
noncomputable def PySem.W.Fast.tw9471557192912812795:Nat:=0
noncomputable def PySem.W.Fast.tw4824910175730512801:Nat:=0
noncomputable def PySem.W.Fast.tw16977400297595776855:Nat:=0
noncomputable def PySem.W.Fast.tw499631208666707072:Nat:=0
noncomputable def PySem.W.Fast.tw14049942825748531906:Nat:=0
noncomputable def PySem.W.Fast.tw140101701384184208:Nat:=0
noncomputable def PySem.W.Fast.tw1580586202006281900:Nat:=0
noncomputable def PySem.W.Fast.tw3650545767306198691:Nat:=0
noncomputable def PySem.W.Fast.tw17172082760136843827:Nat:=0
noncomputable def PySem.W.Fast.tw18232583661261887276:Nat:=0
noncomputable def PySem.W.Fast.tw2230910975882845059:Nat:=0
noncomputable def PySem.W.Fast.tw15064665693665345004:Nat:=0
noncomputable def PySem.W.Fast.tw3386741275872810370:Nat:=0
noncomputable def PySem.W.Fast.tw7229560250231502346:Nat:=0
noncomputable def PySem.W.Fast.tw501937778194841030:Nat:=0
noncomputable def PySem.W.Fast.tw7164103095389943358:Nat:=0
noncomputable def PySem.W.Fast.tw857065268492094109:Nat:=0
noncomputable def PySem.W.Fast.tw15633730022254204704:Nat:=0
noncomputable def PySem.W.Fast.tw9357157016326298748:Nat:=0
noncomputable def PySem.W.Fast.tw16357084511481995022:Nat:=0
noncomputable def PySem.W.Fast.tw2243926267609473200:Nat:=0
noncomputable def PySem.W.Fast.tw1291031417959030532:Nat:=0
noncomputable def PySem.W.Fast.tw4702025668575633751:Nat:=0
noncomputable def PySem.W.Fast.tw13752021023273208399:Nat:=0
noncomputable def PySem.W.Fast.tw6339795462488314652:Nat:=0
noncomputable def PySem.W.Fast.tw11686429988562841786:Nat:=0
noncomputable def PySem.W.Fast.tw9851668411886077456:Nat:=0
noncomputable def PySem.W.Fast.tw8726481630302148632:Nat:=0
noncomputable def PySem.W.Fast.tw14501563175002353389:Nat:=0
noncomputable def PySem.W.Fast.tw14786299230355772864:Nat:=0
noncomputable def PySem.W.Fast.tw2831608208132216869:Nat:=0
noncomputable def PySem.W.Fast.tw1072893973068683799:Nat:=0
noncomputable def PySem.W.Fast.tw8464274087497276482:Nat:=0
noncomputable def PySem.W.Fast.tw9666134312497327352:Nat:=0
noncomputable def PySem.W.Fast.tw10345434709317159248:Nat:=0
noncomputable def PySem.W.Fast.tw16315730499915791261:Nat:=0
noncomputable def PySem.W.Fast.tw15180191698557693195:Nat:=0
noncomputable def PySem.W.Fast.tw8282617017282666846:Nat:=0
noncomputable def PySem.W.Fast.tw10234397819619259736:Nat:=0
noncomputable def PySem.W.Fast.tw17925658439646756528:Nat:=0
noncomputable def PySem.W.Fast.tw15900580831998395401:Nat:=0
noncomputable def PySem.W.Fast.tw5241157935430997774:Nat:=0
noncomputable def PySem.W.Fast.tw10133548778828126177:Nat:=0
noncomputable def PySem.W.Fast.tw2882472492707658251:Nat:=0
noncomputable def PySem.W.Fast.tw17054262557407466179:Nat:=0
noncomputable def PySem.W.Fast.tw14855419067961771544:Nat:=0
noncomputable def PySem.W.Fast.tw7455485042375616785:Nat:=0
noncomputable def PySem.W.Fast.tw6127818512675268323:Nat:=0
noncomputable def PySem.W.Fast.tw1835407278182304765:Nat:=0
noncomputable def PySem.W.Fast.tw314088487559348361:Nat:=0
noncomputable def PySem.W.Fast.tw5069043881689970486:Nat:=0
noncomputable def PySem.W.Fast.tw8552354148197128810:Nat:=0
noncomputable def PySem.W.Fast.tw5279291888717177703:Nat:=0
noncomputable def PySem.W.Fast.tw1983046505813183014:Nat:=0
noncomputable def PySem.W.Fast.tw8904790386682693212:Nat:=0
noncomputable def PySem.W.Fast.tw11635364548001029234:Nat:=0
noncomputable def PySem.W.Fast.tw4067189654677779453:Nat:=0
noncomputable def PySem.W.Fast.tw2610652298572245068:Nat:=0
noncomputable def PySem.W.Fast.tw11765621372733283619:Nat:=0
noncomputable def PySem.W.Fast.tw5684988832676375052:Nat:=0
noncomputable def PySem.W.Fast.tw4775153042061150754:Nat:=0
noncomputable def PySem.W.Fast.tw18296647237767472342:Nat:=0
noncomputable def PySem.W.Fast.tw13423017953374121307:Nat:=0
noncomputable def PySem.W.Fast.tw14797639599153392677:Nat:=0
noncomputable def PySem.W.Fast.tw731683872044350589:Nat:=0
noncomputable def PySem.W.Fast.tw15435698625436772045:Nat:=0
noncomputable def PySem.W.Fast.tw6287057053356669215:Nat:=0
noncomputable def PySem.W.Fast.tw15231635681969161118:Nat:=0
noncomputable def PySem.W.Fast.tw475442255775059237:Nat:=0
noncomputable def PySem.W.Fast.tw14249115651720593425:Nat:=0
noncomputable def PySem.W.Fast.tw3536606098610521477:Nat:=0
noncomputable def PySem.W.Fast.tw6096183109034296808:Nat:=0
open PySem PySem.W PyProof.Rows
set_option maxRecDepth 100000 in
set_option maxHeartbeats 0 in
theorem PySem.Challenge.cw_gavelhall_k36_whole_there_and_back_holds : PySem.Challenge.rw_gavelhall_k36_whole_there_and_back.Holds := by
  w_on; o_law; z_head; (case hw=>w_witness2)
  k_fill
  refine My.walkX_of (fun _=>by kernel_rfl) (My.walk (l:=PySem.Challenge.rw_gavelhall_k36_whole_there_and_back) rfl rfl (fun w h Y=>Y) ?F)
  case F =>
    intro w mg fa h KX G hmg
    refine' My.all_mk KX G hmg (.of0 ?_ ?_ ?_ ?_ ?_ ?_ ?_ ?_ ?_ ?_ ?_) (.of2 ?_ ?_ ?_ ?_ ?_ ?_ ?_ ?_ ?_ ?_ ?_ ?_ ?_) (.of3 ?_ ?_ ?_ ?_ ?_ ?_ ?_ ?_ ?_ ?_ ?_ ?_ ?_ ?_) (.of3 ?_ ?_ ?_ ?_ ?_ ?_ ?_ ?_ ?_ ?_ ?_ ?_ ?_ ?_) (.of1 ?_ ?_ ?_ ?_ ?_ ?_ ?_ ?_ ?_ ?_ ?_ ?_) (.of1 ?_ ?_ ?_ ?_ ?_ ?_ ?_ ?_ ?_ ?_ ?_ ?_) (.of1 ?_ ?_ ?_ ?_ ?_ ?_ ?_ ?_ ?_ ?_ ?_ ?_) (.of2 ?_ ?_ ?_ ?_ ?_ ?_ ?_ ?_ ?_ ?_ ?_ ?_ ?_) ?_ ?_ ?_ ?_ ?_ ?_ ?_ ?_ ?_ (.of ?_ ?_ ?_ ?_ ?_) (.of ?_ ?_ ?_ ?_ ?_) (.of ?_ ?_ ?_ ?_ ?_) (.of ?_ ?_ ?_ ?_ ?_) (.of ?_ ?_ ?_ ?_ ?_) (.of ?_ ?_ ?_ ?_ ?_) (.of ?_ ?_ ?_ ?_ ?_) (.of ?_ ?_ ?_ ?_ ?_) (.of ?_ ?_ ?_ ?_ ?_) (.of ?_ ?_ ?_ ?_ ?_) (.of ?_ ?_ ?_ ?_ ?_) (.of ?_ ?_ ?_ ?_ ?_) (.of ?_ ?_ ?_ ?_ ?_) (.of ?_ ?_ ?_ ?_ ?_) (.of ?_ ?_ ?_ ?_ ?_) (.of ?_ ?_ ?_ ?_ ?_) (.of ?_ ?_ ?_ ?_ ?_) (.of ?_ ?_ ?_ ?_ ?_) (.of ?_ ?_ ?_ ?_ ?_) (.of ?_ ?_ ?_ ?_ ?_) (.of ?_ ?_ ?_ ?_ ?_) (.of ?_ ?_ ?_ ?_ ?_) (.of ?_ ?_ ?_ ?_ ?_) (.of ?_ ?_ ?_ ?_ ?_) (.of ?_ ?_ ?_ ?_ ?_) (.of ?_ ?_ ?_ ?_ ?_) (.of ?_ ?_ ?_ ?_ ?_) (.of ?_ ?_ ?_ ?_ ?_) (.of ?_ ?_ ?_ ?_ ?_) (.of ?_ ?_ ?_ ?_ ?_) (.of ?_ ?_ ?_ ?_ ?_) (.of ?_ ?_ ?_ ?_ ?_) (.of ?_ ?_ ?_ ?_ ?_) (.of ?_ ?_ ?_ ?_ ?_) (.of ?_ ?_ ?_ ?_ ?_) (.of ?_ ?_ ?_ ?_ ?_) (.of ?_ ?_ ?_ ?_ ?_) (.of ?_ ?_ ?_ ?_ ?_) (.of ?_ ?_ ?_ ?_ ?_) (.of ?_ ?_ ?_ ?_ ?_) (.of ?_ ?_ ?_ ?_ ?_) (.of ?_ ?_ ?_ ?_ ?_) (.of ?_ ?_ ?_ ?_ ?_) (.of ?_ ?_ ?_ ?_ ?_) (.of ?_ ?_ ?_ ?_ ?_) (.of ?_ ?_ ?_ ?_ ?_) (.of ?_ ?_ ?_ ?_ ?_) (.of ?_ ?_ ?_ ?_ ?_) (.of ?_ ?_ ?_ ?_ ?_) (.of ?_ ?_ ?_ ?_ ?_) (.of ?_ ?_ ?_ ?_ ?_) (.of ?_ ?_ ?_ ?_ ?_) (.of ?_ ?_ ?_ ?_ ?_) ?_ ?_ ?_ ?_ (.of ?_ ?_ ?_ ?_ ?_) ?_ (.of ?_ ?_ ?_ ?_ ?_) ?_ ?_ ?_ (.of ?_ ?_ ?_ ?_ ?_) ?_ ?_ ?_ (.of ?_ ?_ ?_ ?_ ?_) (.of ?_ ?_ ?_ ?_ ?_) ?_ (.of ?_ ?_ ?_ ?_ ?_) (.of ?_ ?_ ?_ ?_ ?_) (.of ?_ ?_ ?_ ?_ ?_) (.of ?_ ?_ ?_ ?_ ?_) (.of ?_ ?_ ?_ ?_ ?_) (.of ?_ ?_ ?_ ?_ ?_) (.of ?_ ?_ ?_ ?_ ?_) (.of ?_ ?_ ?_ ?_ ?_) (.of ?_ ?_ ?_ ?_ ?_) (.of ?_ ?_ ?_ ?_ ?_) (.of ?_ ?_ ?_ ?_ ?_) (.of ?_ ?_ ?_ ?_ ?_) (.of ?_ ?_ ?_ ?_ ?_) ?_ ?_ (.of ?_ ?_ ?_ ?_ ?_) ?_ ?_ (.of ?_ ?_ ?_ ?_ ?_) ?_ ?_ (.of ?_ ?_ ?_ ?_ ?_) ?_ ?_ (.of ?_ ?_ ?_ ?_ ?_) (.of ?_ ?_ ?_ ?_ ?_) (.of ?_ ?_ ?_ ?_ ?_) (.of ?_ ?_ ?_ ?_ ?_) (.of ?_ ?_ ?_ ?_ ?_) (.of ?_ ?_ ?_ ?_ ?_) (.of ?_ ?_ ?_ ?_ ?_) (.of ?_ ?_ ?_ ?_ ?_) (.of ?_ ?_ ?_ ?_ ?_) ?_ ?_ ?_ ?_ ?_ ?_ ?_ ?_ ?_ ?_ ?_ ?_ ?_ ?_ ?_
    all_goals first | k_is | kit_is | skip
