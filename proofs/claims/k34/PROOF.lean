import PyProof.Rows.All
import Wide.All
import OpenK.AllK
import Wide.FinOn
import Lean
import PyProof.EqAt
import PyProof.EqKinds
import PyProof.TupleCall
import PyProof.ZipIter
import PyProof.LayNew
import PyProof.Rows.ZipGen
import PyProof.Rows.FactsT2
import KE.KMinKey
import PyProof.FString5
import PyProof.SliceStr2
import PyProof.EnumFor
import PyProof.EnumStmt
import PyProof.EnumMake
import PyProof.StrLoop
import PyProof.StrWalks
import PyProof.Rows.EnumRows
import KE.KDictList
import KE.KEqDict
import PyProof.StrOps2
import PyProof.FitsInt
import KE.KIntText
import PyProof.Draws
import PyProof.StrLawsTight
import PyProof.Rows.StrNews2
import PySem.Challenge.RW_gavelhall_k34_read_bids
set_option genSizeOf false
set_option Elab.async false
set_option linter.all false
set_option maxRecDepth 100000
namespace L2
open PySem PySem.Spec PyProof.Rows
noncomputable abbrev Key:=Sum Int Str
noncomputable def jhf:Key->Value->Bool
  | .inl k,v=>Value.isInt k v
  | .inr x,v=>Value.isStrOf x v
noncomputable def keyH (w:World):Key->Int
  | .inl k=>hashInt k
  | .inr x=>hashStr w x
theorem qe:∀ {k:Key} {v:Value},jhf k v = true->(∃ i t,k = Sum.inl i /\ v = Value.int i t) ∨ (∃ x t,k = Sum.inr x /\ v = Value.str x t)
  | .inl i,v,h=>by
    obtain ⟨t,e⟩:=Value.isInt_shape (k:=i) (v:=v) h
    exact .inl ⟨i,t,rfl,e⟩
  | .inr x,v,h=>by
    obtain ⟨t,e⟩:=Value.isStrOf_shape (x:=x) (v:=v) h
    exact .inr ⟨x,t,rfl,e⟩
theorem jkD (i:Int) (t:Tok):jhf (.inl i) (.int i t) = true:=by simp [jhf,Value.isInt]
theorem jkE (x:Str) (t:Tok):jhf (.inr x) (.str x t) = true:=by simp [jhf,Value.isStrOf]
theorem key_ll (a b:Int):decide ((Sum.inl a:Key) = Sum.inl b) = (a == b):=by
  by_cases e:a = b
  · subst e; simp
  · have h:¬ (Sum.inl a:Key) = Sum.inl b:=fun q=>e (Sum.inl.inj q)
    rw [decide_eq_false h]
    exact (beq_eq_false_iff_ne.mpr e).symm
theorem key_rr (a b:Str):decide ((Sum.inr a:Key) = Sum.inr b) = decide (a = b):=by
  by_cases e:a = b
  · subst e; simp
  · have h:¬ (Sum.inr a:Key) = Sum.inr b:=fun q=>e (Sum.inr.inj q)
    rw [decide_eq_false h,decide_eq_false e]
theorem key_lr (a:Int) (b:Str):decide ((Sum.inl a:Key) = Sum.inr b) = false:=decide_eq_false (fun q=>nomatch q)
theorem key_rl (a:Str) (b:Int):decide ((Sum.inr a:Key) = Sum.inl b) = false:=decide_eq_false (fun q=>nomatch q)
noncomputable def qF (prog:Program) (w:World):PySem.KeyKind prog w Key where
  is:=jhf
  hash:=keyH w
  inj:=fun v a b ha hb=>by
    rcases qe ha with ⟨i,t,rfl,rfl⟩ | ⟨x,t,rfl,rfl⟩
    · rcases qe hb with ⟨j,u,rfl,e⟩ | ⟨y,u,rfl,e⟩
      · injection e with e1 _; rw [e1]
      · exact nomatch e
    · rcases qe hb with ⟨j,u,rfl,e⟩ | ⟨y,u,rfl,e⟩
      · exact nomatch e
      · injection e with e1 _; rw [e1]
  byValue:=fun k v h=>by
    rcases qe h with ⟨i,t,rfl,rfl⟩ | ⟨x,t,rfl,rfl⟩ <;> rfl
  pyHash:=fun hv h=>by
    rcases qe hv with ⟨i,t,rfl,rfl⟩ | ⟨x,t,rfl,rfl⟩
    · exact wpAny_pyHash_int h
    · exact wpAny_pyHash_str h
  eqBool:=fun hu hv h=>by
    rcases qe hu with ⟨i,t,rfl,rfl⟩ | ⟨x,t,rfl,rfl⟩
    · rcases qe hv with ⟨j,u,rfl,rfl⟩ | ⟨y,u,rfl,rfl⟩
      · rw [key_ll] at h; exact wpAny_eqBool_int h
      · rw [key_lr] at h; exact SeqAt.EqAt.int_str i t y u _ _ _ _ h
    · rcases qe hv with ⟨j,u,rfl,rfl⟩ | ⟨y,u,rfl,rfl⟩
      · rw [key_rl] at h; exact SeqAt.EqAt.str_int x t j u _ _ _ _ h
      · rw [key_rr] at h; exact wpAny_eqBool_str h
  «strs»:=fun k x t v h=>by
    rcases qe h with ⟨i,u,rfl,e⟩ | ⟨y,u,rfl,e⟩
    · exact nomatch e
    · injection e with e1 _
      subst e1
      cases v <;> rfl
theorem jiJ (prog:Program) (w:World) (i:Int) (t:Tok):(qF prog w).is (.inl i) (.int i t) = true:=jkD i t
theorem jiK (prog:Program) (w:World) (x:Str) (t:Tok):(qF prog w).is (.inr x) (.str x t) = true:=jkE x t
end L2
namespace L2
open PySem PySem.Spec PyProof.Rows
inductive V where
  | non | bl (b:Bool) | int (i:Int) | str (x:Str) | byt (b:Array UInt8) | flt (b:UInt64) | ref (a:Addr) | ty (n:String)
  deriving DecidableEq
noncomputable def RelV:V->Value->Prop
  | .non,u=>u = Value.none
  | .bl b,u=>u = Value.bool b
  | .int i,u=>∃ t,u = Value.int i t
  | .str x,u=>∃ t,u = Value.str x t
  | .byt b,u=>∃ t,u = Value.bytes b t
  | .flt b,u=>∃ t,u = Value.float b t
  | .ref a,u=>u = Value.ref a
  | .ty n,u=>u = Value.type n
noncomputable abbrev Vals:List V->List Value->Prop:=Paired RelV
theorem Vals.length {xs:List V} {us:List Value} (r:Vals xs us):xs.length = us.length:=Paired.length r
theorem Vals.get:∀ {xs:List V} {us:List Value} {i:Nat} {x:V},Vals xs us->xs[i]? = some x->∃ u,us[i]? = some u /\ RelV x u
  | _,_,_,_,.nil,e=>by simp at e
  | _,_,0,_,.cons r _,e=>by simp at e; subst e; exact ⟨_,rfl,r⟩
  | _,_,i + 1,x,.cons _ t,e=>by
    obtain ⟨u,h1,h2⟩:=Vals.get (i:=i) (x:=x) t (by simpa using e)
    exact ⟨u,by simpa using h1,h2⟩
theorem Vals.append:∀ {xs ys:List V} {us ws:List Value},Vals xs us->Vals ys ws->Vals (xs ++ ys) (us ++ ws)
  | _,_,_,_,.nil,s=>s
  | _,_,_,_,.cons r t,s=>.cons r (Vals.append t s)
theorem Vals.take:∀ {xs:List V} {us:List Value} (n:Nat),Vals xs us->Vals (xs.take n) (us.take n)
  | _,_,0,_=>.nil
  | _,_,_ + 1,.nil=>.nil
  | _,_,n + 1,.cons r t=>.cons r (Vals.take n t)
theorem Vals.drop:∀ {xs:List V} {us:List Value} (n:Nat),Vals xs us->Vals (xs.drop n) (us.drop n)
  | _,_,0,r=>r
  | _,_,_ + 1,.nil=>.nil
  | _,_,n + 1,.cons _ t=>Vals.drop n t
noncomputable def RelO:Option V->Option Value->Prop
  | some v,some u=>RelV v u
  | none,none=>True
  | _,_=>False
noncomputable def KV {κ:Type}:List (κ × V)->List (κ × Value)->Prop:=Paired fun (p:κ × V) (q:κ × Value)=>p.1 = q.1 /\ RelV p.2 q.2
noncomputable def kV:Key->V
  | .inl i=>.int i
  | .inr x=>.str x
inductive HO where
  | lst (xs:List V)
  | tup (xs:List V)
  | dK (kvs:List (Key × V)) | dT (kvs:List (List Key × V))
  | set (S:Int->Bool) (n:Nat)
  | ins (C dx:Addr) (fs:List (Str × V))
  | own (x:Addr)
  | xd (fs:List (Str × V))
  | met (f x:Addr)
  | rng (lo hi:Int)
  | frz (o:Obj) (u:HO)
  | tbl (ps:Array Value)
  | ext (φ:Heap->Prop)
noncomputable abbrev Hp:=Addr->Option HO
noncomputable def upd (H:Hp) (a:Addr) (o:HO):Hp:=fun b=>if b = a then some o else H b
theorem jq {H:Hp} {a:Addr} {o:HO}:upd H a o a = some o:=by unfold upd; rw [if_pos rfl]
theorem jO {H:Hp} {a b:Addr} {o:HO} (h:b ≠ a):upd H a o b = H b:=by unfold upd; rw [if_neg h]
theorem jdO {H:Hp} {a:Addr} {o u:HO}:upd (upd H a o) a u = upd H a u:=by
  funext b; unfold upd; split <;> rfl
theorem ne_of {H:Hp} {a b:Addr} {o u:HO} (h:H a = some o) (h':H b = some u) (d:o ≠ u):a ≠ b:=by
  intro e; subst e; rw [h] at h'; exact d (Option.some.inj h')
theorem jU {H:Hp} {a b:Addr} {o:HO} (h:H a = some o) (h':H b = none):a ≠ b:=by
  intro e; subst e; rw [h] at h'; cases h'
section
variable (P:Program) (w:World)
noncomputable def qQ (H:Hp) (h:Heap) (a:Addr):HO->Prop
  | .lst xs=>xs.length <= sizeLine /\ ∃ (its:List Value) (n:Nat),Vals xs its /\ h.get? a = some { cls:=.type "list",data:=.seq its.toArray n }
  | .tup xs=>xs.length <= sizeLine /\ ∃ its:List Value,Vals xs its /\ IsTup h a its.toArray
  | .dK kvs=>kvs.length <= sizeLine /\ (a == sysModules) = false /\ ∃ vs,KV kvs vs /\ h.DictOf (qF P w) a vs
  | .dT kvs=>kvs.length <= sizeLine /\ (a == sysModules) = false /\ ∃ xs:List (List Key × Addr × Value),
      Paired (fun (p:List Key × V) (q:List Key × Addr × Value)=>p.1 = q.1 /\ H q.2.1 = some (.tup (p.1.map kV)) /\ RelV p.2 q.2.2) kvs xs /\
      ∃ o es ep,h.get? a = some o /\ o.ExactDict /\ o.data = .dict es ep /\ es.toList = xs.map (entryOfKey (tupleKind (qF P w))) /\ (xs.map (·.1)).Nodup
  | .set S n=>h.SetOf (intKind P w) a S n
  | .ins C dx fs=>H dx = some (.own a) /\ fs.length <= 1000 /\ dx ≠ a /\ h.get? a = some (PySem.W.instObj C dx) /\
      ∃ mA,h.Ns1 dx mA /\ (∀ f,RelO (fs.lookup f) (mA f)) /\ PySem.Within mA (fs.map (·.1))
  | .own _=>∃ o,h.get? a = some o
  | .xd fs=>∃ mA,h.Ns1 a mA /\ ∀ f,RelO (fs.lookup f) (mA f)
  | .rng lo hi=>∃ t u v,h.get? a = some { cls:=.type "range",data:=.fields #[.int lo t,.int hi u,.int 1 v] }
  | .frz o u=>h.get? a = some o /\ qQ H h a u
  | .tbl ps=>h.get? a = some { cls:=.none,data:=.fields ps }
  | .met f x=>h.get? a = some (PySem.W.methodObj (.ref f) (.ref x))
  | .ext φ=>φ h /\ (∃ o,h.get? a = some o) /\ ∀ h1 h2:Heap,φ h1->(∀ o,h1.get? a = some o->h2.get? a = some o)->φ h2
noncomputable def HOk (H:Hp) (h:Heap):Prop:=∀ a o,H a = some o->qQ P w H h a o
end
section
variable {P:Program} {w:World} {H H':Hp} {h h':Heap} {a:Addr} {o:HO}
theorem qQ.lt (x:qQ P w H h a o):a < h.objs.size:=by
  cases o with
  | lst xs=>obtain ⟨_,_,_,_,e⟩:=x; exact Heap.lt_size e
  | tup xs=>obtain ⟨_,_,_,p⟩:=x; exact p.lt
  | dK kvs=>obtain ⟨_,_,_,_,o,_,_,e,_⟩:=x; exact Heap.lt_size e
  | dT kvs=>obtain ⟨_,_,_,_,o,_,_,e,_⟩:=x; exact Heap.lt_size e
  | set S n=>obtain ⟨o,_,_,_,e,_⟩:=x; exact Heap.lt_size e
  | ins C dx fs=>obtain ⟨_,_,_,e,_⟩:=x; exact Heap.lt_size e
  | own y=>obtain ⟨_,e⟩:=x; exact Heap.lt_size e
  | xd fs=>obtain ⟨_,⟨_,_,_,e,_⟩,_⟩:=x; exact Heap.lt_size e
  | rng lo hi=>obtain ⟨_,_,_,e⟩:=x; exact Heap.lt_size e
  | frz ob u=>obtain ⟨e,_⟩:=x; exact Heap.lt_size e
  | tbl ps=>exact Heap.lt_size (show h.get? a = some _ from x)
  | met f y=>exact Heap.lt_size (show h.get? a = some _ from x)
  | ext φ=>obtain ⟨_,⟨_,e⟩,_⟩:=x; exact Heap.lt_size e
theorem Paired.mapP {α β:Type} {F G:α->β->Prop}:∀ {l₁:List α} {l₂:List β},Paired F l₁ l₂->(∀ a b,F a b->G a b)->Paired G l₁ l₂
  | _,_,.nil,_=>.nil
  | _,_,.cons r t,f=>.cons (f _ _ r) (Paired.mapP t f)
theorem qQ.stay (x:qQ P w H h a o) (k:∀ b u,(b = a ∨ H b = some (.own a))->h.get? b = some u->h'.get? b = some u)
    (ho:∀ b,H b = some (.own a)->H' b = some (.own a)) (ht:∀ b xs,H b = some (.tup xs)->H' b = some (.tup xs)):qQ P w H' h' a o:=by
  induction o with
  | lst xs=>obtain ⟨z,its,n,r,e⟩:=x; exact ⟨z,its,n,r,k _ _ (.inl rfl) e⟩
  | tup xs=>obtain ⟨z,its,r,ob,e,c⟩:=x; exact ⟨z,its,r,ob,k _ _ (.inl rfl) e,c⟩
  | dK kvs=>obtain ⟨z,y,vs,r,ob,es,ep,e,c⟩:=x; exact ⟨z,y,vs,r,ob,es,ep,k _ _ (.inl rfl) e,c⟩
  | dT kvs =>
    obtain ⟨z,y,xs,r,ob,es,ep,e,c⟩:=x
    exact ⟨z,y,xs,Paired.mapP r fun p q z=>⟨z.1,ht _ _ z.2.1,z.2.2⟩,ob,es,ep,k _ _ (.inl rfl) e,c⟩
  | set S n=>obtain ⟨ob,es,ep,t,e,c⟩:=x; exact ⟨ob,es,ep,t,k _ _ (.inl rfl) e,c⟩
  | ins C dx fs =>
    obtain ⟨d,z,ne,e,mA,⟨od,es,ep,e2,c⟩,r⟩:=x
    exact ⟨ho _ d,z,ne,k _ _ (.inl rfl) e,mA,⟨od,es,ep,k _ _ (.inr d) e2,c⟩,r⟩
  | own y=>obtain ⟨ob,e⟩:=x; exact ⟨ob,k _ _ (.inl rfl) e⟩
  | xd fs=>obtain ⟨mA,⟨od,es,ep,e,c⟩,r⟩:=x; exact ⟨mA,⟨od,es,ep,k _ _ (.inl rfl) e,c⟩,r⟩
  | rng lo hi=>obtain ⟨t,u,v,e⟩:=x; exact ⟨t,u,v,k _ _ (.inl rfl) e⟩
  | frz ob u ih=>obtain ⟨e,q⟩:=x; exact ⟨k _ _ (.inl rfl) e,ih q⟩
  | tbl ps =>
    have e:h.get? a = some { cls:=.none,data:=.fields ps }:=x
    show h'.get? a = some { cls:=.none,data:=.fields ps }
    exact k a _ (.inl rfl) e
  | met f y =>
    have e:h.get? a = some (PySem.W.methodObj (.ref f) (.ref y)):=x
    show h'.get? a = some (PySem.W.methodObj (.ref f) (.ref y))
    exact k a _ (.inl rfl) e
  | ext φ=>obtain ⟨p,⟨o,e⟩,st⟩:=x; exact ⟨st _ _ p fun o q=>k _ _ (.inl rfl) q,⟨o,k _ _ (.inl rfl) e⟩,st⟩
theorem HOk.lt (x:HOk P w H h) (e:H a = some o):a < h.objs.size:=(x a o e).lt
theorem HOk.fresh (x:HOk P w H h) (e:h.objs.size <= a):H a = none:=by
  cases q:H a with
  | none=>rfl
  | some u=>exact absurd (Nat.lt_of_lt_of_le (x.lt q) e) (Nat.lt_irrefl _)
theorem HOk.kept (x:HOk P w H h) (k:∀ b u,h.get? b = some u->h'.get? b = some u):HOk P w H h':=fun a o e =>
  (x a o e).stay (fun b u _ q=>k b u q) (fun _ q=>q) fun _ _ q=>q
theorem HOk.laid (x:HOk P w H h) (k:∀ b u,h.get? b = some u->h'.get? b = some u) (hp:h.objs.size <= a) (new:qQ P w (upd H a o) h' a o):HOk P w (upd H a o) h':=fun b u e=>by
  have hn:=x.fresh hp
  by_cases hb:b = a
  · subst hb; rw [jq] at e; cases e; exact new
  · rw [jO hb] at e
    exact (x b u e).stay (fun c v _ q=>k c v q) (fun c q=>by rw [jO (jU q hn)]; exact q) fun c xs q=>by rw [jO (jU q hn)]; exact q
end
noncomputable def Rd (H:Hp) (a:Addr) (u:HO):Prop:=H a = some u ∨ ∃ o,H a = some (.frz o u)
theorem Rd.ok {P:Program} {w:World} {H:Hp} {h:Heap} {a:Addr} {u:HO} (r:Rd H a u) (x:HOk P w H h):qQ P w H h a u:=by
  rcases r with r | ⟨o,r⟩
  · exact x a u r
  · obtain ⟨_,q⟩:=x a _ r
    exact q
noncomputable def Mut:Option HO->Prop
  | some (.lst _)=>True
  | some (.dK _)=>True
  | some (.dT _)=>True
  | some (.set _ _)=>True
  | some (.ins _ _ _)=>True
  | some (.ext _)=>True
  | _=>False
section
variable {P:Program} {w:World} {H:Hp} {h h':Heap} {x e:Addr} {o':HO}
theorem HOk.write (ok:HOk P w H h) (mu:Mut (H x)) (he:e = x ∨ H e = some (.own x)) (k:∀ b u,b ≠ e->h.get? b = some u->h'.get? b = some u) (heo:∃ u,h'.get? e = some u)
    (new:qQ P w (upd H x o') h' x o'):HOk P w (upd H x o') h':=fun b u q=>by
  have nown:∀ c y,H c = some (.own y)->c ≠ x:=fun c y r z=>by subst z; rw [r] at mu; exact mu
  have ntup:∀ c xs,H c = some (.tup xs)->c ≠ x:=fun c xs r z=>by subst z; rw [r] at mu; exact mu
  by_cases hb:b = x
  · subst hb; rw [jq] at q; cases q; exact new
  · rw [jO hb] at q
    by_cases hbe:b = e
    · have q':H b = some (.own x):=by
        rcases he with z | z
        · exact absurd (hbe.trans z) hb
        · rw [hbe]; exact z
      rw [q] at q'; cases q'
      obtain ⟨v,hv⟩:=heo
      exact ⟨v,by rw [hbe]; exact hv⟩
    · refine (ok b u q).stay (fun c v hc r=>k c v ?_ r) (fun c r=>by rw [jO (nown c b r)]; exact r) fun c xs r=>by rw [jO (ntup c xs r)]; exact r
      rcases hc with rfl | hc
      · exact hbe
      · rintro rfl
        rcases he with z | z
        · exact nown c b hc z
        · rw [hc] at z; cases z; exact hb rfl
end
structure Un (fs ex:List Addr) (H H':Hp) (h h':Heap):Prop where
  keep:∀ b o,h.get? b = some o->H b = none->b ∉ fs->b ∉ ex->h'.get? b = some o
  slot:∀ b o,h.get? b = some o->H b = none->b ∈ fs->b ∉ ex->∃ sl,h'.get? b = some { o with slots:=sl }
  free:∀ b o,h.get? b = some o->H b = none->b ∉ ex->H' b = none
  there:∀ b o,h.get? b = some o->b ∉ ex->∃ o',h'.get? b = some o'
  tups:∀ b xs,H b = some (.tup xs)->H' b = some (.tup xs)
  frzs:∀ b o u,H b = some (.frz o u)->H' b = some (.frz o u)
  tbls:∀ b ps,H b = some (.tbl ps)->∃ more,H' b = some (.tbl (ps ++ more))
section
variable {fs fs' ex ex':List Addr} {H H1 H2:Hp} {h h1 h2 h':Heap} {a x e:Addr} {o:HO}
theorem Un.any (u:Un fs ex H H1 h h1) {b:Addr} {ob:Obj} (q:h.get? b = some ob) (n:H b = none) (hx:b ∉ ex):∃ sl,h1.get? b = some { ob with slots:=sl }:=by
  by_cases hb:b ∈ fs
  · exact u.slot b ob q n hb hx
  · exact ⟨ob.slots,u.keep b ob q n hb hx⟩
theorem Un.kept (k:∀ b u,h.get? b = some u->h'.get? b = some u):Un fs ex H H h h' :=
  ⟨fun b ob q _ _ _=>k b ob q,fun b ob q _ _ _=>⟨ob.slots,k b ob q⟩,fun _ _ _ n _=>n,fun b ob q _=>⟨ob,k b ob q⟩,fun _ _ q=>q,fun _ _ _ q=>q,fun _ ps q=>⟨#[],by rw [q]; simp⟩⟩
theorem Un.refl:Un fs ex H H h h:=Un.kept fun _ _ q=>q
theorem Un.laid (k:∀ b u,h.get? b = some u->h'.get? b = some u) (hp:h.objs.size <= a) (hn:H a = none):Un fs ex H (upd H a o) h h' where
  keep:=fun b u q _ _ _=>k b u q
  slot:=fun b u q _ _ _=>⟨u.slots,k b u q⟩
  free:=fun b u q n _=>by rw [jO (Nat.ne_of_lt (Nat.lt_of_lt_of_le (Heap.lt_size q) hp))]; exact n
  there:=fun b u q _=>⟨u,k b u q⟩
  tups:=fun b xs q=>by rw [jO (jU q hn)]; exact q
  frzs:=fun b u xs q=>by rw [jO (jU q hn)]; exact q
  tbls:=fun b ps q=>⟨#[],by rw [jO (jU q hn),q]; simp⟩
theorem Un.write (mu:Mut (H x)) (he:e = x ∨ H e = some (.own x)) (k:∀ b u,b ≠ e->h.get? b = some u->h'.get? b = some u) (heo:∃ u,h'.get? e = some u):Un fs ex H (upd H x o) h h':=by
  have hx:∀ b,H b = none->b ≠ x:=fun b n z=>by subst z; rw [n] at mu; exact mu
  have hb:∀ b,H b = none->b ≠ e:=fun b n z=>by
    subst z
    rcases he with r | r
    · exact hx b n r
    · rw [n] at r; cases r
  have hm:∀ b u,H b = some u->¬ Mut (some u)->b ≠ x:=fun b u q nm z=>by subst z; rw [q] at mu; exact nm mu
  refine ⟨fun b u q n _ _=>k b u (hb b n) q,fun b u q n _ _=>⟨u.slots,k b u (hb b n) q⟩,fun b u q n _=>by rw [jO (hx b n)]; exact n,fun b u q _=>?_,
    fun b xs q=>by rw [jO (hm b _ q fun z=>z)]; exact q,fun b u xs q=>by rw [jO (hm b _ q fun z=>z)]; exact q,fun b ps q=>⟨#[],by rw [jO (hm b _ q fun z=>z),q]; simp⟩⟩
  by_cases hbe:b = e
  · subst hbe; exact heo
  · exact ⟨u,k b u hbe q⟩
end
noncomputable def trk (h:Heap) (H:Hp):List Addr:=(List.range h.objs.size).filter fun a=>(H a).isSome
noncomputable def hidT (h:Heap) (H:Hp):Heap:=PySem.W.hideAll h (trk h H)
theorem jkA (h:Heap) (H:Hp):(hidT h H).objs.size = h.objs.size:=PySem.W.hideAll_size _ _
theorem hidT_get {h:Heap} {H:Hp} {b:Addr} {o:Obj} (e:h.get? b = some o) (n:H b = none):(hidT h H).get? b = some o :=
  PySem.W.hideAll_get _ e fun hm=>by
    have q:(H b).isSome = true:=(List.mem_filter.mp hm).2
    rw [n] at q; simp at q
theorem of_hidT {h:Heap} {H:Hp} {b:Addr} {o:Obj} (e:(hidT h H).get? b = some o):h.get? b = some o /\ H b = none:=by
  have e':h.get? b = some o:=PySem.W.of_hideAll (trk h H) e
  refine ⟨e',?_⟩
  cases q:H b with
  | none=>rfl
  | some x =>
    have hm:b ∈ trk h H:=List.mem_filter.mpr ⟨List.mem_range.mpr (Heap.lt_size e'),by simp [q]⟩
    have z:(hidT h H).get? b = none:=PySem.W.hideAll_none (trk h H) hm
    rw [z] at e; cases e
end L2
namespace L2
open PySem PySem.Spec PyProof.Rows
structure Mod (K:PySem.W.Frag) (mg:Str->Option Value) (base:Heap):Prop where
  kin:K.In base
  glob:base.Ns mainGlobals mg
  blt:∃ mb,base.Ns builtinsNs mb /\ ∀ x:Str,x ≠ "__name__" -> mb x = bootBuiltins x
  nolimit:base.NoLimit
structure Cx where
  prog:Program
  w:World
  K:PySem.W.Frag
  mg:Str->Option Value
  base:Heap
  A:Around
  N:List Str
  s₀:Shared
  H₀:Hp
  env:Env
  outer:List Env
  stack:List Env
  ex:List Addr
  fn:Str->Bool
  calm:Bool
  pn:List (Addr × Obj)
  xe:Value->Shared->Prop
noncomputable def frs (l:List Env):List Addr:=l.filterMap (·.frame)
noncomputable abbrev Cx.fs (X:Cx):List Addr:=frs X.outer
noncomputable def Vis (sc:Scope) (x:Str):Prop:=sc.names.lookup x = some .local ∨ sc.names.lookup x = some .cell ∨ sc.names.lookup x = some .free
noncomputable def Loc (sc:Scope) (x:Str):Prop:=sc.names.lookup x = some .local ∨ sc.names.lookup x = some .cell
noncomputable def Look (env:Env) (h:Heap) (m:Str->Option Value) (x:Str) (u:Value):Prop :=
  (env.kindOf x = some .local /\ m x = some u) ∨ ((env.kindOf x = some .cell ∨ env.kindOf x = some .free) /\ ∃ c,env.cells.lookup x = some c /\ h.IsCell c (some u))
structure Cx.Ok (X:Cx):Prop where
  mod:Mod X.K X.mg X.base
  kind:X.env.scope.kind = .function
  glob:X.env.globals = mainGlobals
  blt:X.env.builtins = builtinsNs
  above:X.s₀.heap.objs.size <= X.env.locals
  inj:∀ x y c,X.env.cells.lookup x = some c->X.env.cells.lookup y = some c->x = y
  has:∀ x,(X.env.kindOf x = some .cell ∨ X.env.kindOf x = some .free)->∃ c,X.env.cells.lookup x = some c
  cab:∀ x c,X.fn x = true->X.env.cells.lookup x = some c->X.s₀.heap.objs.size <= c
  hd:X.calm = true->X.A.handled = none
  frames:X.A.frames = some X.stack
  stk:X.stack = X.outer ∨ (X.stack = X.env :: X.outer /\ X.env.frame = some X.env.locals)
  exf:∀ b ∈ X.ex,b ≠ X.env.locals /\ ∀ x c,X.env.cells.lookup x = some c->c ≠ b
  bs:∀ b o,X.base.get? b = some o->X.s₀.heap.get? b = some o /\ X.H₀ b = none
  bsz:X.base.objs.size <= X.s₀.heap.objs.size
  noex:∀ b o,X.base.get? b = some o->b ∉ X.ex
  exfs:∀ b ∈ X.ex,b ∉ X.fs
  funs:X.s₀.heap.FunFrames X.base X.outer
  frf:∀ b ∈ X.fs,X.H₀ b = none
structure Inv (X:Cx) (pins:List (Addr × Obj)) (σ:List (Option V)) (H:Hp) (s:Shared):Prop where
  ok:X.Ok
  os:s.os = X.s₀.os
  bare:AllBare s.gens
  base:Un X.fs X.ex X.H₀ H X.s₀.heap s.heap
  loc:∃ m,s.heap.Ns X.env.locals m /\ ∀ (i:Nat) (x:Str) (v:V),X.N[i]? = some x->σ[i]? = some (some v)->Vis X.env.scope x->∃ u,RelV v u /\ Look X.env s.heap m x u
  cell:∀ x c,X.env.cells.lookup x = some c->∃ v,s.heap.IsCell c v
  free:H X.env.locals = none
  freeC:∀ x c,X.env.cells.lookup x = some c->H c = none
  pin:∀ p ∈ X.pn ++ pins,s.heap.get? p.1 = some p.2 /\ H p.1 = none /\ p.1 ≠ X.env.locals /\ p.1 ∉ X.fs /\ ∀ v,p.2.data ≠ .cell v
  hok:HOk X.prog X.w H s.heap
  len:σ.length = X.N.length
section
variable {X:Cx} {pins:List (Addr × Obj)} {σ:List (Option V)} {H H':Hp} {s:Shared} {h':Heap}
theorem Cx.Ok.nofr (ok:X.Ok) {b:Addr} {o:Obj} (e:X.base.get? b = some o):b ∉ X.fs:=fun hb=>by
  have:=(ok.funs.mem hb).1
  rw [e] at this; cases this
theorem Inv.bs (I:Inv X pins σ H s):∀ b o,X.base.get? b = some o->s.heap.get? b = some o /\ H b = none:=fun b o e =>
  ⟨I.base.keep b o (I.ok.bs b o e).1 (I.ok.bs b o e).2 (I.ok.nofr e) (I.ok.noex b o e),I.base.free b o (I.ok.bs b o e).1 (I.ok.bs b o e).2 (I.ok.noex b o e)⟩
theorem Inv.bk (I:Inv X pins σ H s):∀ b o,X.base.get? b = some o->s.heap.get? b = some o:=fun b o e=>(I.bs b o e).1
theorem Inv.mod (I:Inv X pins σ H s):Mod X.K X.mg X.base:=I.ok.mod
theorem Inv.kIn (I:Inv X pins σ H s):X.K.In s.heap:=I.ok.mod.kin.keeps I.bk
theorem Inv.lt (I:Inv X pins σ H s):X.env.locals < s.heap.objs.size:=let ⟨_,hn,_⟩:=I.loc; hn.lt
theorem Inv.sz (I:Inv X pins σ H s):X.s₀.heap.objs.size <= s.heap.objs.size:=Nat.le_trans I.ok.above (Nat.le_of_lt I.lt)
theorem Inv.nofs (I:Inv X pins σ H s) {a:Addr} (h:s.heap.objs.size <= a):a ∉ X.fs:=fun hb=>by
  obtain ⟨_,o,ho,_⟩:=I.ok.funs.mem hb
  exact absurd (Nat.lt_of_lt_of_le (Heap.lt_size ho) (Nat.le_trans I.sz h)) (Nat.lt_irrefl _)
theorem Inv.cne (I:Inv X pins σ H s):∀ x c,X.env.cells.lookup x = some c->c ≠ X.env.locals:=fun x c e z=>by
  obtain ⟨v,o,ho,hd⟩:=I.cell x c e
  obtain ⟨m,⟨o',es,ep,ho',hd',_⟩,_⟩:=I.loc
  rw [z,ho'] at ho; cases ho; rw [hd'] at hd; cases hd
theorem Inv.funs (I:Inv X pins σ H s):s.heap.FunFrames X.base X.outer:=by
  have all:∀ (l:List Env),(∀ b ∈ frs l,b ∈ X.fs)->X.s₀.heap.FunFrames X.base l->s.heap.FunFrames X.base l:=by
    intro l
    induction l with
    | nil=>intro _ _; trivial
    | cons env r ih =>
      intro hs hl
      obtain ⟨hk,⟨L,o,hf,hn,ho,hd⟩,hr⟩:=hl
      have hL:L ∈ X.fs:=hs L (by unfold frs; rw [List.filterMap_cons,hf]; exact List.mem_cons_self)
      obtain ⟨sl,e⟩:=I.base.slot L o ho (I.ok.frf L hL) hL fun z=>I.ok.exfs L z hL
      exact ⟨hk,⟨L,_,hf,hn,e,hd⟩,ih (fun b hb=>hs b (by unfold frs; rw [List.filterMap_cons,hf]; exact List.mem_cons_of_mem _ hb)) hr⟩
  exact all X.outer (fun _ hb=>hb) I.ok.funs
theorem Inv.stack (I:Inv X pins σ H s):s.heap.FunFrames X.base X.stack:=by
  rcases I.ok.stk with e | ⟨e,hf⟩
  · rw [e]; exact I.funs
  · rw [e]
    obtain ⟨m,hn,_⟩:=I.loc
    refine .cons (by rw [I.ok.kind]; decide) hf hn ?_ I.funs
    exact Heap.get?_none_of_le (Nat.le_trans I.ok.bsz I.ok.above)
theorem Inv.jjR (I:Inv X pins σ H s):∀ b ∈ frs X.stack,b ∈ X.env.locals :: X.fs:=fun b hb=>by
  rcases I.ok.stk with e | ⟨e,hf⟩
  · rw [e] at hb; exact List.mem_cons_of_mem _ hb
  · rw [e] at hb
    unfold frs at hb
    rw [List.filterMap_cons,hf] at hb
    exact hb
theorem Inv.jki (I:Inv X pins σ H s):∀ b ∈ frs X.stack,H b = none:=fun b hb=>by
  rcases List.mem_cons.mp (I.jjR b hb) with e | hb
  · rw [e]; exact I.free
  · obtain ⟨_,o,ho,_⟩:=I.ok.funs.mem hb
    exact I.base.free b o ho (I.ok.frf b hb) fun z=>I.ok.exfs b z hb
theorem Inv.step {g':Array GenState} {t':Nat} {d':Drawn} {ch:List Addr} (I:Inv X pins σ H s)
    (hch:∀ b ∈ ch,(b ∈ X.ex ∨ X.s₀.heap.objs.size <= b) /\ b ≠ X.env.locals /\ (∀ x c,X.env.cells.lookup x = some c->c ≠ b) /\ ∀ p ∈ X.pn ++ pins,p.1 ≠ b)
    (keep:∀ b o,b ≠ X.env.locals->b ∉ X.fs->b ∉ ch->s.heap.get? b = some o->H b = none->h'.get? b = some o)
    (slot:∀ b o,b ≠ X.env.locals->b ∈ X.fs->b ∉ ch->s.heap.get? b = some o->H b = none->∃ sl,h'.get? b = some { o with slots:=sl }) (free:∀ b o,b ∉ ch->s.heap.get? b = some o->H b = none->H' b = none)
    (there:∀ b o,b ∉ ch->s.heap.get? b = some o->∃ o',h'.get? b = some o')
    (tups:∀ b xs,H b = some (.tup xs)->H' b = some (.tup xs)) (frzs:∀ b o u,H b = some (.frz o u)->H' b = some (.frz o u)) (tbls:∀ b ps,H b = some (.tbl ps)->∃ more,H' b = some (.tbl (ps ++ more)))
    (ns:∀ m,s.heap.Ns X.env.locals m->h'.Ns X.env.locals m) (hok:HOk X.prog X.w H' h') (hg:AllBare g') :
    Inv X pins σ H' { s with heap:=h',gens:=g',drawn:=d',toks:=t' }:=by
  have neL:∀ b o,X.s₀.heap.get? b = some o->b ≠ X.env.locals:=fun b o e=>Nat.ne_of_lt (Nat.lt_of_lt_of_le (Heap.lt_size e) I.ok.above)
  have neC:∀ b o,X.s₀.heap.get? b = some o->b ∉ X.ex->b ∉ ch:=fun b o e hx hb=>by
    rcases (hch b hb).1 with z | z
    · exact hx z
    · exact absurd (Nat.lt_of_lt_of_le (Heap.lt_size e) z) (Nat.lt_irrefl _)
  have cellK:∀ x c,X.env.cells.lookup x = some c->∀ v,s.heap.IsCell c v->h'.IsCell c v:=fun x c e v ⟨o,ho,hd⟩=>by
    have nch:c ∉ ch:=fun z=>(hch c z).2.2.1 x c e rfl
    by_cases hc:c ∈ X.fs
    · obtain ⟨sl,q⟩:=slot c o (I.cne x c e) hc nch ho (I.freeC x c e)
      exact ⟨_,q,hd⟩
    · exact ⟨o,keep c o (I.cne x c e) hc nch ho (I.freeC x c e),hd⟩
  refine ⟨I.ok,I.os,hg,⟨fun b o e n hb hx=>?_,fun b o e n hb hx=>?_,fun b o e n hx=>?_,fun b o e hx=>?_,fun b xs e=>tups b xs (I.base.tups b xs e),fun b o xs e=>frzs b o xs (I.base.frzs b o xs e),fun b ps e=>?_⟩,?_,fun x c e=>?_,?_,fun x c e=>?_,fun p hp=>?_,hok,I.len⟩
  · exact keep b o (neL b o e) hb (neC b o e hx) (I.base.keep b o e n hb hx) (I.base.free b o e n hx)
  · obtain ⟨sl,e1⟩:=I.base.slot b o e n hb hx
    obtain ⟨sl',e2⟩:=slot b _ (neL b o e) hb (neC b o e hx) e1 (I.base.free b o e n hx)
    exact ⟨sl',e2⟩
  · obtain ⟨o',e1⟩:=I.base.there b o e hx
    exact free b o' (neC b o e hx) e1 (I.base.free b o e n hx)
  · obtain ⟨o',e1⟩:=I.base.there b o e hx
    exact there b o' (neC b o e hx) e1
  · obtain ⟨m1,e1⟩:=I.base.tbls b ps e
    obtain ⟨m2,e2⟩:=tbls b _ e1
    exact ⟨m1 ++ m2,by rw [e2,Array.append_assoc]⟩
  · obtain ⟨m,hn,hl⟩:=I.loc
    refine ⟨m,ns m hn,fun i x v e1 e2 e3=>?_⟩
    obtain ⟨u,r,l⟩:=hl i x v e1 e2 e3
    refine ⟨u,r,?_⟩
    rcases l with l | ⟨k,c,e,z⟩
    · exact .inl l
    · exact .inr ⟨k,c,e,cellK x c e _ z⟩
  · obtain ⟨v,z⟩:=I.cell x c e
    exact ⟨v,cellK x c e v z⟩
  · obtain ⟨m,⟨o,_,_,ho,_⟩,_⟩:=I.loc
    exact free _ o (fun z=>(hch _ z).2.1 rfl) ho I.free
  · obtain ⟨v,o,ho,hd⟩:=I.cell x c e
    exact free c o (fun z=>(hch c z).2.2.1 x c e rfl) ho (I.freeC x c e)
  · obtain ⟨e,n,ne,nf,d⟩:=I.pin p hp
    have nch:p.1 ∉ ch:=fun z=>(hch p.1 z).2.2.2 p hp rfl
    exact ⟨keep p.1 p.2 ne nf nch e n,free p.1 p.2 nch e n,ne,nf,d⟩
theorem Inv.un {t':Nat} (I:Inv X pins σ H s) (u:Un X.fs [] H H' s.heap h') (hok:HOk X.prog X.w H' h'):Inv X pins σ H' { s with heap:=h',toks:=t' }:=by
  obtain ⟨m,⟨o,es,ep,ho,r⟩,_⟩:=id I.loc
  obtain ⟨sl,hL⟩:=u.any ho I.free (by simp)
  exact I.step (g':=s.gens) (d':=s.drawn) (ch:=[]) (fun _ z=>nomatch z) (fun b o _ hb _ e n=>u.keep b o e n hb (by simp)) (fun b o _ hb _ e n=>u.slot b o e n hb (by simp)) (fun b o _ e n=>u.free b o e n (by simp)) (fun b o _ e=>u.there b o e (by simp)) u.tups u.frzs u.tbls (fun m' hm=>by
    obtain ⟨o',es',ep',ho',r'⟩:=hm
    rw [ho] at ho'; cases ho'
    exact ⟨_,es',ep',hL,r'⟩) hok I.bare
theorem Inv.call {g':Array GenState} {t':Nat} {d':Drawn} {ch:List Addr} (I:Inv X pins σ H s) (u:Un (frs X.stack) ch H H' s.heap h') (hok:HOk X.prog X.w H' h') (hg:AllBare g')
    (hch:∀ b ∈ ch,(b ∈ X.ex ∨ X.s₀.heap.objs.size <= b) /\ b ≠ X.env.locals /\ (∀ x c,X.env.cells.lookup x = some c->c ≠ b) /\ ∀ p ∈ X.pn ++ pins,p.1 ≠ b) :
    Inv X pins σ H' { s with heap:=h',gens:=g',drawn:=d',toks:=t' }:=by
  obtain ⟨m,⟨o,es,ep,ho,r⟩,_⟩:=id I.loc
  obtain ⟨sl,hL⟩:=u.any ho I.free fun z=>(hch _ z).2.1 rfl
  exact I.step (ch:=ch) hch (fun b o hL hb hc e n=>u.keep b o e n (fun z=>(List.mem_cons.mp (I.jjR b z)).elim hL hb) hc) (fun b o _ _ hc e n=>u.any e n hc) (fun b o hc e n=>u.free b o e n hc) (fun b o hc e=>u.there b o e hc) u.tups u.frzs u.tbls (fun m' hm=>by
    obtain ⟨o',es',ep',ho',r'⟩:=hm
    rw [ho] at ho'; cases ho'
    exact ⟨_,es',ep',hL,r'⟩) hok hg
theorem Inv.turned {t':Nat} {it:Addr} (I:Inv X pins σ H s) (k:∀ b o,b ≠ it->s.heap.get? b = some o->h'.get? b = some o) (hn:H it = none) (hL:it ≠ X.env.locals)
    (h1:it ∈ X.ex ∨ X.s₀.heap.objs.size <= it) (h2:∀ x c,X.env.cells.lookup x = some c->c ≠ it) (h3:∀ p ∈ X.pn ++ pins,p.1 ≠ it):Inv X pins σ H { s with heap:=h',toks:=t' }:=by
  have nit:∀ b u,H b = some u->b ≠ it:=fun b u e z=>by rw [z,hn] at e; cases e
  refine I.step (g':=s.gens) (d':=s.drawn) (ch:=[it]) (fun b hb=>?_) (fun b o _ _ hc e _=>k b o (fun z=>hc (by simp [z])) e) (fun b o _ _ hc e _=>⟨o.slots,k b o (fun z=>hc (by simp [z])) e⟩) (fun _ _ _ _ n=>n)
    (fun b o hc e=>⟨o,k b o (fun z=>hc (by simp [z])) e⟩) (fun _ _ e=>e) (fun _ _ _ e=>e) (fun b ps e=>⟨#[],by rw [e]; simp⟩) (fun m hm=>?_) (fun b u e=>?_) I.bare
  · have e:b = it:=by simpa using hb
    subst e
    exact ⟨h1,hL,h2,h3⟩
  · obtain ⟨o,es,ep,ho,r⟩:=hm
    exact ⟨o,es,ep,k _ o (Ne.symm hL) ho,r⟩
  · refine (I.hok b u e).stay (fun c v hc q=>k c v ?_ q) (fun _ q=>q) fun _ _ q=>q
    rcases hc with z | z
    · rw [z]; exact nit b u e
    · exact nit c _ z
theorem Inv.tok (I:Inv X pins σ H s) (t:Nat):Inv X pins σ H { s with toks:=t }:=I.un (h':=s.heap) (t':=t) Un.refl I.hok
theorem Inv.kept {t':Nat} (I:Inv X pins σ H s) (k:∀ b u,s.heap.get? b = some u->h'.get? b = some u):Inv X pins σ H { s with heap:=h',toks:=t' }:=I.un (Un.kept k) (I.hok.kept k)
theorem Inv.laid {a:Addr} {o:HO} {t':Nat} (I:Inv X pins σ H s) (k:∀ b u,s.heap.get? b = some u->h'.get? b = some u) (hp:s.heap.objs.size <= a) (new:qQ X.prog X.w (upd H a o) h' a o) :
    Inv X pins σ (upd H a o) { s with heap:=h',toks:=t' }:=I.un (Un.laid k hp (I.hok.fresh hp)) (I.hok.laid k hp new)
theorem Inv.write {x e:Addr} {o:HO} {t':Nat} (I:Inv X pins σ H s) (mu:Mut (H x)) (he:e = x ∨ H e = some (.own x)) (k:∀ b u,b ≠ e->s.heap.get? b = some u->h'.get? b = some u) (heo:∃ u,h'.get? e = some u)
    (new:qQ X.prog X.w (upd H x o) h' x o):Inv X pins σ (upd H x o) { s with heap:=h',toks:=t' }:=I.un (Un.write mu he k heo) (I.hok.write mu he k heo new)
theorem Inv.jkf {pins':List (Addr × Obj)} (I:Inv X pins σ H s) (h:∀ p ∈ pins',s.heap.get? p.1 = some p.2 /\ H p.1 = none /\ p.1 ≠ X.env.locals /\ p.1 ∉ X.fs /\ ∀ v,p.2.data ≠ .cell v):Inv X pins' σ H s :=
  ⟨I.ok,I.os,I.bare,I.base,I.loc,I.cell,I.free,I.freeC,fun p hp=>(List.mem_append.mp hp).elim (fun z=>I.pin p (List.mem_append_left _ z)) (h p),I.hok,I.len⟩
theorem jiM {N:List Str} (hN:N.Nodup) {i j:Nat} {x:Str} (a:N[i]? = some x) (b:N[j]? = some x):i = j:=by
  obtain ⟨h1,e1⟩:=List.getElem?_eq_some_iff.mp a
  obtain ⟨h2,e2⟩:=List.getElem?_eq_some_iff.mp b
  exact (List.getElem_inj hN).mp (e1.trans e2.symm)
theorem jhv {M:Model} {A:Around} {E:Value->Shared->Prop} {i:Nat} {x:Str} {v:V} {u:Value} {Q:Unit->Shared->Prop} (I:Inv X pins σ H s) (hN:X.N.Nodup) (hi:X.N[i]? = some x) (hx:Loc X.env.scope x) (r:RelV v u)
    (h:∀ s',Inv X pins (σ.set i (some v)) H s'->(∃ a,Heap.SameBut a s.heap s'.heap /\ (a = X.env.locals ∨ X.env.cells.lookup x = some a))->Q () s') (hf:X.fn x = true ∨ X.env.scope.names.lookup x = some .local:=by first | exact .inl rfl | exact .inr rfl | assumption):wpAny M A (storeName X.env x u) Q E s:=by
  obtain ⟨m,hn,hl⟩:=id I.loc
  have hcls:(X.env.scope.kind == .class || (X.env.scope.kind == .module && X.env.locals != X.env.globals)) = false:=by rw [I.ok.kind]; rfl
  have hiσ:i < σ.length:=by rw [I.len]; exact (List.getElem?_eq_some_iff.mp hi).1
  have cne:=I.cne
  have tracked:∀ {a:Addr} {h':Heap},(∃ o,s.heap.get? a = some o /\ H a = none)->Heap.SameBut a s.heap h'->HOk X.prog X.w H h':=fun {a h'} ha hs b ob e=>by
    obtain ⟨_,_,hfree⟩:=ha
    refine (I.hok b ob e).stay (fun c w' hc q=>(hs.2 c ?_).trans q) (fun _ q=>q) fun _ _ q=>q
    rintro rfl
    rcases hc with rfl | hc
    · rw [hfree] at e; cases e
    · rw [hfree] at hc; cases hc
  rcases hx with hk | hk
  · refine wpAny_storeName_local hk hn (fun h' hn' hs=>?_) hcls
    obtain ⟨oL,_,_,hoL,_⟩:=id hn
    refine h _ ⟨I.ok,I.os,I.bare,⟨fun b o e n hb hx=>?_,fun b o e n hb hx=>?_,I.base.free,fun b o e hx=>?_,I.base.tups,I.base.frzs,I.base.tbls⟩,⟨_,hn',fun j y v' e1 e2 e3=>?_⟩,fun y c e=>?_,I.free,I.freeC,fun p hp=>?_,tracked ⟨oL,hoL,I.free⟩ hs,by simpa using I.len⟩ ⟨_,hs,.inl rfl⟩
    · exact (hs.2 b (Nat.ne_of_lt (Nat.lt_of_lt_of_le (Heap.lt_size e) I.ok.above))).trans (I.base.keep b o e n hb hx)
    · obtain ⟨sl,e1⟩:=I.base.slot b o e n hb hx
      exact ⟨sl,(hs.2 b (Nat.ne_of_lt (Nat.lt_of_lt_of_le (Heap.lt_size e) I.ok.above))).trans e1⟩
    · obtain ⟨o',e1⟩:=I.base.there b o e hx
      exact ⟨o',(hs.2 b (Nat.ne_of_lt (Nat.lt_of_lt_of_le (Heap.lt_size e) I.ok.above))).trans e1⟩
    · by_cases hj:j = i
      · subst hj
        rw [hi] at e1; cases e1
        rw [List.getElem?_set_self hiσ] at e2
        cases e2
        exact ⟨u,r,.inl ⟨hk,by simp⟩⟩
      · rw [List.getElem?_set_ne (Ne.symm hj)] at e2
        obtain ⟨u',r',q⟩:=hl j y v' e1 e2 e3
        refine ⟨u',r',?_⟩
        rcases q with ⟨k,e⟩ | ⟨k,c,e,z⟩
        · refine .inl ⟨k,?_⟩
          have:y ≠ x:=fun e=>hj (jiM hN e1 (e ▸ hi))
          simp [this,e]
        · exact .inr ⟨k,c,e,z.sameBut hs (cne y c e)⟩
    · obtain ⟨w',z⟩:=I.cell y c e
      exact ⟨w',z.sameBut hs (cne y c e)⟩
    · obtain ⟨e,n,ne,nf,d⟩:=I.pin p hp
      exact ⟨(hs.2 p.1 ne).trans e,n,ne,nf,d⟩
  · have hfn:X.fn x = true:=by
      rcases hf with z | z
      · exact z
      · rw [z] at hk; cases hk
    obtain ⟨c,hc⟩:=I.ok.has x (.inl hk)
    obtain ⟨w',z⟩:=I.cell x c hc
    refine wpAny_storeName_cell I.ok.kind hk hc z (fun h' hc' hs=>?_)
    obtain ⟨oc,hoc,hocd⟩:=id z
    refine h { s with heap:=h' } ⟨I.ok,I.os,I.bare,⟨fun b o e n hb hx=>?_,fun b o e n hb hx=>?_,I.base.free,fun b o e hx=>?_,I.base.tups,I.base.frzs,I.base.tbls⟩,⟨m,hn.sameBut hs (Ne.symm (cne x c hc)),fun j y v' e1 e2 e3=>?_⟩,fun y c' e=>?_,I.free,I.freeC,fun p hp=>?_,tracked ⟨oc,hoc,I.freeC x c hc⟩ hs,by simpa using I.len⟩ ⟨c,hs,.inr hc⟩
    · exact (hs.2 b (Nat.ne_of_lt (Nat.lt_of_lt_of_le (Heap.lt_size e) (I.ok.cab x c hfn hc)))).trans (I.base.keep b o e n hb hx)
    · obtain ⟨sl,e1⟩:=I.base.slot b o e n hb hx
      exact ⟨sl,(hs.2 b (Nat.ne_of_lt (Nat.lt_of_lt_of_le (Heap.lt_size e) (I.ok.cab x c hfn hc)))).trans e1⟩
    · obtain ⟨o',e1⟩:=I.base.there b o e hx
      exact ⟨o',(hs.2 b (Nat.ne_of_lt (Nat.lt_of_lt_of_le (Heap.lt_size e) (I.ok.cab x c hfn hc)))).trans e1⟩
    · by_cases hj:j = i
      · subst hj
        rw [hi] at e1; cases e1
        rw [List.getElem?_set_self hiσ] at e2
        cases e2
        exact ⟨u,r,.inr ⟨.inl hk,c,hc,hc'⟩⟩
      · rw [List.getElem?_set_ne (Ne.symm hj)] at e2
        obtain ⟨u',r',q⟩:=hl j y v' e1 e2 e3
        refine ⟨u',r',?_⟩
        rcases q with q | ⟨k,c',e,z'⟩
        · exact .inl q
        · refine .inr ⟨k,c',e,z'.sameBut hs ?_⟩
          rintro rfl
          exact hj (jiM hN e1 (I.ok.inj _ _ _ e hc ▸ hi))
    · by_cases hcc:c' = c
      · subst hcc; exact ⟨_,hc'⟩
      · obtain ⟨w2,z2⟩:=I.cell y c' e
        exact ⟨w2,z2.sameBut hs hcc⟩
    · obtain ⟨e,n,ne,nf,d⟩:=I.pin p hp
      refine ⟨(hs.2 p.1 ?_).trans e,n,ne,nf,d⟩
      intro q
      rw [q,hoc] at e
      have q':oc = p.2:=Option.some.inj e
      exact d w' (by rw [<- q']; exact hocd)
theorem ji2 {M:Model} {A:Around} {E:Value->Shared->Prop} {i:Nat} {x:Str} {v:V} {u:Value} {Q:Unit->Shared->Prop} (I:Inv X pins σ H s) (hN:X.N.Nodup) (hi:X.N[i]? = some x) (hx:Loc X.env.scope x) (r:RelV v u)
    (h:∀ s',Inv X pins (σ.set i (some v)) H s'->Q () s') (hf:X.fn x = true ∨ X.env.scope.names.lookup x = some .local:=by first | exact .inl rfl | exact .inr rfl | assumption):wpAny M A (storeName X.env x u) Q E s :=
  jhv I hN hi hx r (fun s' I' _=>h s' I') hf
theorem Inv.call' {s':Shared} {ch:List Addr} (I:Inv X pins σ H s) (ho:s'.os = s.os) (u:Un (frs X.stack) ch H H' s.heap s'.heap) (hok:HOk X.prog X.w H' s'.heap) (hg:AllBare s'.gens)
    (hch:∀ b ∈ ch,(b ∈ X.ex ∨ X.s₀.heap.objs.size <= b) /\ b ≠ X.env.locals /\ (∀ x c,X.env.cells.lookup x = some c->c ≠ b) /\ ∀ p ∈ X.pn ++ pins,p.1 ≠ b):Inv X pins σ H' s':=by
  obtain ⟨h',g',d',t',o'⟩:=s'
  have e:o' = s.os:=ho
  subst e
  exact I.call (g':=g') (t':=t') (d':=d') u hok hg hch
end
noncomputable abbrev XK:=Value->Option Addr->Hp->Prop
noncomputable abbrev St:=List (Option V)
noncomputable abbrev VK:=V->Hp->Prop
noncomputable abbrev TE:=St->Hp->VK->Prop
noncomputable abbrev TT:=St->Hp->(Bool->Hp->Prop)->Prop
noncomputable abbrev TA:=St->Hp->(List V->Hp->Prop)->Prop
structure Ends where
  nx:St->Hp->Prop
  rt:VK
  bk:St->Hp->Prop:=fun _ _=>False
  ct:St->Hp->Prop:=fun _ _=>False
noncomputable abbrev TS:=Ends->St->Hp->Prop
noncomputable def EP (X:Cx) (pins:List (Addr × Obj)) (σ:St) (Q:VK) (u:Value) (s':Shared):Prop:=∃ v H',Inv X pins σ H' s' /\ RelV v u /\ Q v H'
noncomputable def TP (X:Cx) (pins:List (Addr × Obj)) (σ:St) (Q:Bool->Hp->Prop) (b:Bool) (s':Shared):Prop:=∃ H',Inv X pins σ H' s' /\ Q b H'
noncomputable def AP (X:Cx) (pins:List (Addr × Obj)) (σ:St) (Q:List V->Hp->Prop) (us:List Value) (s':Shared):Prop:=∃ vs H',Inv X pins σ H' s' /\ Vals vs us /\ Q vs H'
noncomputable def SP (X:Cx) (pins:List (Addr × Obj)) (D:Ends) (f:Flow) (s':Shared):Prop :=
  match f with
  | .next=>∃ σ' H',Inv X pins σ' H' s' /\ D.nx σ' H'
  | .brk=>∃ σ' H',Inv X pins σ' H' s' /\ D.bk σ' H'
  | .cont=>∃ σ' H',Inv X pins σ' H' s' /\ D.ct σ' H'
  | .ret u=>∃ v σ' H',Inv X pins σ' H' s' /\ RelV v u /\ D.rt v H'
noncomputable def PE (X:Cx) (e:Expr) (t:TE):Prop :=
  ∀ (pins:List (Addr × Obj)) (s:Shared) (σ:St) (H:Hp) (Q:VK),Inv X pins σ H s->t σ H Q->wpAny (model X.prog X.w) X.A (eval e X.env) (EP X pins σ Q) X.xe s
noncomputable def PT (X:Cx) (e:Expr) (t:TT):Prop :=
  ∀ (pins:List (Addr × Obj)) (s:Shared) (σ:St) (H:Hp) (Q:Bool->Hp->Prop),Inv X pins σ H s->t σ H Q->wpAny (model X.prog X.w) X.A (isTrue e X.env (eval e X.env)) (TP X pins σ Q) X.xe s
noncomputable def PW (X:Cx) (e:Expr) (t:TT):Prop :=
  ∀ (whole:Sem Value) (pins:List (Addr × Obj)) (s:Shared) (σ:St) (H:Hp) (Q:Bool->Hp->Prop),Inv X pins σ H s->t σ H Q->wpAny (model X.prog X.w) X.A (isTrue e X.env whole) (TP X pins σ Q) X.xe s
theorem PW.pt {X:Cx} {e:Expr} {t:TT} (h:PW X e t):PT X e t:=h _
noncomputable def PA (X:Cx) (es:List Expr) (t:TA):Prop :=
  ∀ (pos:Pos) (pins:List (Addr × Obj)) (s:Shared) (σ:St) (H:Hp) (Q:List V->Hp->Prop),Inv X pins σ H s->t σ H Q->wpAny (model X.prog X.w) X.A (spliced (backTo pos (starEach es X.env))) (AP X pins σ Q) X.xe s
noncomputable def PS (X:Cx) (st:Stmt) (t:TS):Prop :=
  ∀ (pins:List (Addr × Obj)) (s:Shared) (σ:St) (H:Hp) (D:Ends),Inv X pins σ H s->t D σ H->wpAny (model X.prog X.w) X.A (exec st X.env) (SP X pins D) X.xe s
noncomputable def PSs (X:Cx) (st:List Stmt) (t:TS):Prop :=
  ∀ (pins:List (Addr × Obj)) (s:Shared) (σ:St) (H:Hp) (D:Ends),Inv X pins σ H s->t D σ H->wpAny (model X.prog X.w) X.A (execs st X.env) (SP X pins D) X.xe s
theorem thn {α:Type} {t:Sem α} {Q Q':α->Shared->Prop} {M:Model} {A:Around} {E:Value->Shared->Prop} {s:Shared} (h:wpAny M A t Q E s) (hQ:∀ a s,Q a s->Q' a s):wpAny M A t Q' E s:=wpAny_mono h hQ fun _ _ x=>x
end L2
namespace L2
open PySem PySem.Spec PyProof.Rows
section
variable {X:Cx}
noncomputable def tVar (i:Nat):TE:=fun σ H Q=>∃ v,σ[i]? = some (some v) /\ Q v H
noncomputable def tC (v:V):TE:=fun _ H Q=>Q v H
theorem pe_var {i:Nat} {x:Str} {pos:Pos} (hN:X.N[i]? = some x) (hv:Vis X.env.scope x) (hd:(x == ("__debug__" : Str)) = false:=by decide) (hcd:(x == ("__classdict__" : Str)) = false:=by decide):PE X (.Name x pos) (tVar i):=by
  intro pins s σ H Q I h
  obtain ⟨v,e,h⟩:=h
  obtain ⟨m,hn,hl⟩:=I.loc
  obtain ⟨u,r,l⟩:=hl i x v hN e hv
  have fin:EP X pins σ Q u s:=⟨v,H,I,r,h⟩
  rcases l with ⟨hk,hm⟩ | ⟨hk,c,hc,hcell⟩
  · exact wpAny_Name (wpAny_loadName_local I.ok.kind hk hn hm fin) hd
  · rcases hk with hk | hk
    · exact wpAny_Name (wpAny_loadName_cell I.ok.kind hk hc hcell fin) hd
    · exact wpAny_Name (wpAny_loadName_free I.ok.kind hk hc hcell fin hcd) hd
theorem jj {i j pos}:PE X (.Constant (.int i) j pos) (tC (.int i)):=fun _ _ _ H _ I h=>wpAny_Constant_int ⟨.int i,H,I.tok _,⟨_,rfl⟩,h⟩
theorem jcN {b j pos}:PE X (.Constant (.bool b) j pos) (tC (.bl b)):=fun _ _ _ H _ I h=>Constant_bool ⟨.bl b,H,I,rfl,h⟩
theorem Zv {j pos}:PE X (.Constant .none j pos) (tC .non):=fun _ _ _ H _ I h=>Constant_none ⟨.non,H,I,rfl,h⟩
theorem jG {x j pos}:PE X (.Constant (.str x) j pos) (tC (.str x)):=fun _ _ _ H _ I h=>Calls.Constant_str ⟨.str x,H,I.tok _,⟨_,rfl⟩,h⟩
noncomputable def Gl (X:Cx) (x:Str):Prop:=X.env.kindOf x = some .globalImplicit
theorem jfa {E:Value->Shared->Prop} {pins:List (Addr × Obj)} {s:Shared} {σ:St} {H:Hp} {x:Str} {u:Value} {pos:Pos} {Q:Value->Shared->Prop} (I:Inv X pins σ H s) (hg:Gl X x) (hm:X.mg x = some u) (h:Q u s)
    (hd:(x == ("__debug__" : Str)) = false:=by decide):wpAny (model X.prog X.w) X.A (eval (.Name x pos) X.env) Q E s :=
  Calls.Name_function_global I.ok.kind hg (Calls.loadGlobal_global (by rw [I.ok.glob]; exact I.mod.glob.keeps I.bk) hm h) hd
theorem Z6 {E:Value->Shared->Prop} {pins:List (Addr × Obj)} {s:Shared} {σ:St} {H:Hp} {x:Str} {u:Value} {pos:Pos} {Q:Value->Shared->Prop} (I:Inv X pins σ H s) (hg:Gl X x) (hm:X.mg x = none) (hv:bootBuiltins x = some u) (h:Q u s)
    (hn:x ≠ "__name__" := by decide) (hd:(x == ("__debug__" : Str)) = false:=by decide):wpAny (model X.prog X.w) X.A (eval (.Name x pos) X.env) Q E s:=by
  obtain ⟨mb,h1,h2⟩:=I.mod.blt
  exact Calls.Name_function_global I.ok.kind hg (Calls.loadGlobal_builtin (by rw [I.ok.glob]; exact I.mod.glob.keeps I.bk) hm (by rw [I.ok.blt]; exact h1.keeps I.bk) ((h2 x hn).trans hv) h) hd
theorem pe_glob {x:Str} {v:V} {u:Value} {pos:Pos} (hg:Gl X x) (hm:X.mg x = some u) (r:RelV v u) (hd:(x == ("__debug__" : Str)) = false:=by decide):PE X (.Name x pos) (tC v) :=
  fun _ _ _ H _ I h=>jfa I hg hm ⟨v,H,I,r,h⟩ hd
theorem pe_bltn {x:Str} {v:V} {u:Value} {pos:Pos} (hg:Gl X x) (hm:X.mg x = none) (hv:bootBuiltins x = some u) (r:RelV v u) (hn:x ≠ "__name__" := by decide) (hd:(x == ("__debug__" : Str)) = false:=by decide):PE X (.Name x pos) (tC v) :=
  fun _ _ _ H _ I h=>Z6 I hg hm hv ⟨v,H,I,r,h⟩ hn hd
variable {a b:Expr} {ta tb:TE} {pos:Pos}
noncomputable def tB (t:TE):TT:=fun σ H Q=>t σ H fun x H1=>∃ c,x = .bl c /\ Q c H1
theorem JD {e:Expr} {t:TE} (h:PE X e t) (he:∀ whole,isTrue e X.env whole = (do let v <- whole; standAt e.pos; holding [v] (truthy v)):=by intro _; rfl):PT X e (tB t):=by
  intro pins s σ H Q I hw
  refine isTrue_plain (thn (h pins s σ H _ I hw) fun v s1 zz=>?_) (he _)
  obtain ⟨x,H1,I1,r1,q1⟩:=zz
  obtain ⟨d,rfl,q⟩:=q1
  cases r1
  exact wpAny_truthy_bool ⟨H1,I1,q⟩
variable {tA tB':TT} {rest:List Expr}
noncomputable def tAnd (t u:TT):TT:=fun σ H Q=>t σ H fun c H1=>if c = true then u σ H1 Q else Q false H1
noncomputable def tOr (t u:TT):TT:=fun σ H Q=>t σ H fun c H1=>if c = true then Q true H1 else u σ H1 Q
noncomputable def tNot (t:TT):TT:=fun σ H Q=>t σ H fun c H1=>Q (!c) H1
theorem ZV (ha:PT X a tA):PW X (.BoolOp .And [a] pos) tA:=by
  intro wh pins s σ H Q I h
  refine isTrue_and (thn (ha pins s σ H Q I h) fun c s1 e=>?_)
  cases c with
  | true=>exact isTrue_and_nil e
  | false=>exact e
theorem Z8 (ha:PT X a tA):PW X (.BoolOp .Or [a] pos) tA:=by
  intro wh pins s σ H Q I h
  refine isTrue_or (thn (ha pins s σ H Q I h) fun c s1 e=>?_)
  cases c with
  | false=>exact isTrue_or_nil e
  | true=>exact e
theorem jcb (ha:PT X a tA) (hb:PW X (.BoolOp .And (b :: rest) pos) tB'):PW X (.BoolOp .And (a :: b :: rest) pos) (tAnd tA tB'):=by
  intro wh pins s σ H Q I h
  refine isTrue_and (thn (ha pins s σ H _ I h) fun c s1 zz=>?_)
  obtain ⟨H1,I1,q1⟩:=zz
  cases c with
  | true=>exact hb wh pins s1 σ H1 Q I1 q1
  | false=>exact ⟨H1,I1,q1⟩
theorem jcc (ha:PT X a tA) (hb:PW X (.BoolOp .Or (b :: rest) pos) tB'):PW X (.BoolOp .Or (a :: b :: rest) pos) (tOr tA tB'):=by
  intro wh pins s σ H Q I h
  refine isTrue_or (thn (ha pins s σ H _ I h) fun c s1 zz=>?_)
  obtain ⟨H1,I1,q1⟩:=zz
  cases c with
  | true=>exact ⟨H1,I1,q1⟩
  | false=>exact hb wh pins s1 σ H1 Q I1 q1
theorem qy (ha:PT X a tA):PT X (.UnaryOp .Not a pos) (tNot tA):=by
  intro pins s σ H Q I h
  exact isTrue_not (ha pins s σ H (fun c H1=>Q (!c) H1) I h)
noncomputable def tAndV (ta tb:TE):TE:=fun σ H Q=>ta σ H fun x H1=>∃ c,x = .bl c /\ if c = true then tb σ H1 Q else Q (.bl false) H1
noncomputable def tOrV (ta tb:TE):TE:=fun σ H Q=>ta σ H fun x H1=>∃ c,x = .bl c /\ if c = true then Q (.bl true) H1 else tb σ H1 Q
noncomputable def tNotV (ta:TE):TE:=fun σ H Q=>ta σ H fun x H1=>∃ c,x = .bl c /\ Q (.bl (!c)) H1
theorem jb9 {op} {t:TE} (h:PE X a t):PE X (.BoolOp op [a] pos) t:=fun pins s σ H Q I hw=>BoolOp_one (h pins s σ H Q I hw)
theorem jeg (ha:PE X a ta) (hb:PE X (.BoolOp .And (b :: rest) pos) tb):PE X (.BoolOp .And (a :: b :: rest) pos) (tAndV ta tb):=by
  intro pins s σ H Q I h
  refine BoolOp_and (thn (ha pins s σ H _ I h) fun v s1 zz=>?_)
  obtain ⟨x,H1,I1,r1,q1⟩:=zz
  obtain ⟨c,rfl,q1⟩:=q1
  cases r1
  refine wpAny_truthy_bool ?_
  cases c with
  | true=>exact hb pins s1 σ H1 Q I1 q1
  | false=>exact ⟨.bl false,H1,I1,rfl,q1⟩
theorem pe_or (ha:PE X a ta) (hb:PE X (.BoolOp .Or (b :: rest) pos) tb):PE X (.BoolOp .Or (a :: b :: rest) pos) (tOrV ta tb):=by
  intro pins s σ H Q I h
  refine BoolOp_or (thn (ha pins s σ H _ I h) fun v s1 zz=>?_)
  obtain ⟨x,H1,I1,r1,q1⟩:=zz
  obtain ⟨c,rfl,q1⟩:=q1
  cases r1
  refine wpAny_truthy_bool ?_
  cases c with
  | false=>exact hb pins s1 σ H1 Q I1 q1
  | true=>exact ⟨.bl true,H1,I1,rfl,q1⟩
theorem jf3 (ha:PE X a ta):PE X (.UnaryOp .Not a pos) (tNotV ta):=by
  intro pins s σ H Q I h
  refine UnaryOp_ (thn (ha pins s σ H _ I h) fun v s1 zz=>?_)
  obtain ⟨x,H1,I1,r1,q1⟩:=zz
  obtain ⟨c,rfl,q1⟩:=q1
  cases r1
  exact not_of (wpAny_truthy_bool ⟨.bl (!c),H1,I1,rfl,q1⟩)
noncomputable def tIf (t:TT) (ta tb:TE):TE:=fun σ H Q=>t σ H fun c H1=>if c = true then ta σ H1 Q else tb σ H1 Q
theorem jdD {c:Expr} (hc:PT X c tA) (ha:PE X a ta) (hb:PE X b tb):PE X (.IfExp c a b pos) (tIf tA ta tb):=by
  intro pins s σ H Q I h
  refine wpAny_IfExp (thn (hc pins s σ H _ I h) fun d s1 zz=>?_)
  obtain ⟨H1,I1,q1⟩:=zz
  cases d with
  | true=>exact ha pins s1 σ H1 Q I1 q1
  | false=>exact hb pins s1 σ H1 Q I1 q1
end
end L2
namespace L2
open PySem PySem.Spec PyProof.Rows
noncomputable def SqL (K:PySem.W.Frag) (H:Hp) (a:Addr) (xs:List V):Prop :=
  Rd H a (.lst xs) ∨
    ∃ (o:Obj) (its:Array Value) (n:Nat),K.lookup a = some o /\ o.cls = .type "list" /\ o.dict = none /\ o.data = .seq its n /\ its.size <= sizeLine /\ Vals xs its.toList
noncomputable def SqT (K:PySem.W.Frag) (H:Hp) (a:Addr) (xs:List V):Prop :=
  Rd H a (.tup xs) ∨
    ∃ (o:Obj) (its:Array Value) (n:Nat),K.lookup a = some o /\ o.cls = .type "tuple" /\ o.data = .seq its n /\ its.size <= sizeLine /\ Vals xs its.toList
noncomputable def absV:Value->Option V
  | .none=>some .non
  | .bool b=>some (.bl b)
  | .int i _=>some (.int i)
  | .str x _=>some (.str x)
  | .bytes b _=>some (.byt b)
  | .float b _=>some (.flt b)
  | .ref a=>some (.ref a)
  | .type n=>some (.ty n)
  | _=>none
theorem RelV.abs {x:V} {u:Value} (r:RelV x u):absV u = some x:=by
  cases x with
  | non=>cases r; rfl
  | bl _=>cases r; rfl
  | int _=>obtain ⟨t,rfl⟩:=r; rfl
  | str _=>obtain ⟨t,rfl⟩:=r; rfl
  | byt _=>obtain ⟨t,rfl⟩:=r; rfl
  | flt _=>obtain ⟨t,rfl⟩:=r; rfl
  | ref _=>cases r; rfl
  | ty _=>cases r; rfl
theorem RelV.inj {x y:V} {u:Value} (r:RelV x u) (q:RelV y u):x = y:=Option.some.inj (r.abs.symm.trans q.abs)
theorem Vals.inj:∀ {xs ys:List V} {us:List Value},Vals xs us->Vals ys us->xs = ys
  | _,_,_,.nil,.nil=>rfl
  | _,_,_,.cons r t,.cons r' t'=>by rw [r.inj r',Vals.inj t t']
section
variable {X:Cx} {pins:List (Addr × Obj)} {σ:St} {H:Hp} {s:Shared} {a:Addr} {xs ys:List V}
theorem SqL.of {K:PySem.W.Frag} (h:H a = some (.lst xs)):SqL K H a xs:=.inl (.inl h)
theorem SqT.of {K:PySem.W.Frag} (h:H a = some (.tup xs)):SqT K H a xs:=.inl (.inl h)
theorem Inv.list (I:Inv X pins σ H s) (h:SqL X.K H a xs):∃ its:List Value,Vals xs its /\ PlainL s.heap a its.toArray /\ xs.length <= sizeLine:=by
  rcases h with h | ⟨o,its,n,hk,hc,hd,hs,hz,r⟩
  · obtain ⟨z,its,n,r,e⟩:=h.ok I.hok
    exact ⟨its,r,⟨_,n,e,rfl,rfl,rfl⟩,z⟩
  · refine ⟨its.toList,r,⟨o,n,I.kIn a o hk,hc,hd,by simpa using hs⟩,?_⟩
    have e:=r.length
    simp only [Array.length_toList] at e
    omega
theorem Inv.tuple (I:Inv X pins σ H s) (h:SqT X.K H a xs):∃ its:List Value,Vals xs its /\ IsTup s.heap a its.toArray /\ xs.length <= sizeLine:=by
  rcases h with h | ⟨o,its,n,hk,hc,hs,hz,r⟩
  · obtain ⟨z,its,r,p⟩:=h.ok I.hok
    exact ⟨its,r,p,z⟩
  · refine ⟨its.toList,r,⟨o,I.kIn a o hk,hc,n,by simpa using hs⟩,?_⟩
    have e:=r.length
    simp only [Array.length_toList] at e
    omega
theorem Inv.jdu (I:Inv X pins σ H s) (h:SqL X.K H a xs) (h':SqL X.K H a ys):xs = ys:=by
  obtain ⟨its,r,⟨o,n,e,_,_,d⟩,_⟩:=I.list h
  obtain ⟨its',r',⟨o',n',e',_,_,d'⟩,_⟩:=I.list h'
  rw [e] at e'; cases e'
  rw [d] at d'
  injection d' with d1 _
  have:its = its':=by simpa using congrArg Array.toList d1
  subst this
  exact r.inj r'
end
noncomputable abbrev Cx.wish (X:Cx) (E:Value->Shared->Prop):Cx:={ X with xe:=E }
noncomputable abbrev Cx.nox (X:Cx):Cx:=X.wish fun _ _=>False
theorem Cx.Ok.wish {X:Cx} (ok:X.Ok) (E:Value->Shared->Prop):(X.wish E).Ok :=
  ⟨ok.mod,ok.kind,ok.glob,ok.blt,ok.above,ok.inj,ok.has,ok.cab,ok.hd,ok.frames,ok.stk,ok.exf,ok.bs,ok.bsz,ok.noex,ok.exfs,ok.funs,ok.frf⟩
theorem Cx.Ok.jbb {X:Cx} {E:Value->Shared->Prop} (ok:(X.wish E).Ok):X.Ok :=
  ⟨ok.mod,ok.kind,ok.glob,ok.blt,ok.above,ok.inj,ok.has,ok.cab,ok.hd,ok.frames,ok.stk,ok.exf,ok.bs,ok.bsz,ok.noex,ok.exfs,ok.funs,ok.frf⟩
section
variable {X:Cx} {pins:List (Addr × Obj)} {σ:St} {H:Hp} {s:Shared} {E:Value->Shared->Prop}
theorem Inv.wish (I:Inv X pins σ H s) (E:Value->Shared->Prop):Inv (X.wish E) pins σ H s:=⟨I.ok.wish E,I.os,I.bare,I.base,I.loc,I.cell,I.free,I.freeC,I.pin,I.hok,I.len⟩
theorem Inv.jbb (I:Inv (X.wish E) pins σ H s):Inv X pins σ H s:=⟨I.ok.jbb,I.os,I.bare,I.base,I.loc,I.cell,I.free,I.freeC,I.pin,I.hok,I.len⟩
theorem SP.jbb {D:Ends} {f:Flow} {s':Shared} (h:SP (X.wish E) pins D f s'):SP X pins D f s':=by
  cases f with
  | next=>obtain ⟨σ',H',I,q⟩:=h; exact ⟨σ',H',I.jbb,q⟩
  | brk=>obtain ⟨σ',H',I,q⟩:=h; exact ⟨σ',H',I.jbb,q⟩
  | cont=>obtain ⟨σ',H',I,q⟩:=h; exact ⟨σ',H',I.jbb,q⟩
  | ret u=>obtain ⟨v,σ',H',I,r,q⟩:=h; exact ⟨v,σ',H',I.jbb,r,q⟩
theorem PSs.nox {st:List Stmt} {t:TS} (h:PSs X.nox st t):PSs X st t:=fun pins s σ H D I hw =>
  wpAny_mono (h pins s σ H D (I.wish _) hw) (fun _ _ q=>q.jbb) fun _ _ z=>False.elim z
end
section
variable {X:Cx} {st:Stmt} {rest:List Stmt} {t u:TS} {e:Expr} {te:TE} {pos:Pos}
noncomputable def tNext:TS:=fun D σ H=>D.nx σ H
noncomputable def tSeq (t u:TS):TS:=fun D σ H=>t { D with nx:=u D } σ H
theorem jM:PSs X [] tNext:=fun _ _ σ H _ I h=>wpAny_execs_nil ⟨σ,H,I,h⟩
theorem jk (h1:PS X st t) (h2:PSs X rest u):PSs X (st :: rest) (tSeq t u):=by
  intro pins s σ H D I h
  refine wpAny_execs_cons (thn (h1 pins s σ H { D with nx:=u D } I h) fun f s1 q=>?_)
  cases f with
  | next =>
    obtain ⟨σ',H',I',q⟩:=q
    exact h2 pins s1 σ' H' D I' q
  | ret v=>exact q
  | brk=>exact q
  | cont=>exact q
theorem jr (h1:PS X st t):PSs X [st] t:=by
  intro pins s σ H D I h
  refine wpAny_execs_cons (thn (h1 pins s σ H D I h) fun f s1 q=>?_)
  cases f with
  | next=>exact wpAny_execs_nil q
  | ret v=>exact q
  | brk=>exact q
  | cont=>exact q
theorem Inv.quiet {pins:List (Addr × Obj)} {σ:St} {H:Hp} {s:Shared} (I:Inv X pins σ H s):interactive X.env = false:=by simp [interactive,I.ok.kind]
noncomputable def tDrop (te:TE):TS:=fun D σ H=>te σ H fun _ H1=>D.nx σ H1
theorem JW (he:PE X e te) (hs:swapsWith e none pos.line X.env = pure false:=by rfl):PS X (.Expr e pos) (tDrop te):=by
  intro pins s σ H D I h
  exact wpAny_Expr_any (thn (he pins s σ H _ I h) fun v s1 ⟨x,H1,I1,r1,q1⟩=>⟨σ,H1,I1,q1⟩) I.quiet hs
noncomputable def tRet (te:TE):TS:=fun D σ H=>te σ H D.rt
theorem jJ (he:PE X e te):PS X (.Return (some e) pos) (tRet te):=by
  intro pins s σ H D I h
  exact wpAny_Return_some (thn (he pins s σ H _ I h) fun v s1 ⟨x,H1,I1,r1,q1⟩=>⟨x,σ,H1,I1,r1,q1⟩)
noncomputable def tIfS (c:TT) (t u:TS):TS:=fun D σ H=>c σ H fun b H1=>if b = true then t D σ H1 else u D σ H1
theorem j8 {c:Expr} {a b:List Stmt} {tc:TT} (hc:PT X c tc) (ha:PSs X a t) (hb:PSs X b u):PS X (.If c a b pos) (tIfS tc t u):=by
  intro pins s σ H D I h
  refine wpAny_If (thn (hc pins s σ H _ I h) fun d s1 zz=>?_)
  obtain ⟨H1,I1,q1⟩:=zz
  cases d with
  | true=>exact ha pins s1 σ H1 D I1 q1
  | false=>exact hb pins s1 σ H1 D I1 q1
noncomputable def tNever:TS:=fun _ _ _=>False
theorem JC:PS X st tNever:=fun _ _ _ _ _ _ h=>h.elim
end
noncomputable abbrev TG:=V->St->Hp->(St->Hp->Prop)->Prop
noncomputable abbrev TGs:=List V->St->Hp->(St->Hp->Prop)->Prop
noncomputable def PG (X:Cx) (target:Expr) (t:TG):Prop :=
  ∀ (pins:List (Addr × Obj)) (s:Shared) (σ:St) (H:Hp) (v:V) (u:Value) (Q:St->Hp->Prop),Inv X pins σ H s->RelV v u->t v σ H Q ->
    wpAny (model X.prog X.w) X.A (assign target X.env u) (fun _ s'=>∃ σ' H',Inv X pins σ' H' s' /\ Q σ' H') X.xe s
noncomputable def PGs (X:Cx) (ts:List Expr) (t:TGs):Prop :=
  ∀ (pins:List (Addr × Obj)) (s:Shared) (σ:St) (H:Hp) (vs:List V) (us:List Value) (Q:St->Hp->Prop),Inv X pins σ H s->Vals vs us->t vs σ H Q ->
    wpAny (model X.prog X.w) X.A (assignInOrder ((assignEach ts X.env).map (·.2)) us) (fun _ s'=>∃ σ' H',Inv X pins σ' H' s' /\ Q σ' H') X.xe s
section
variable {X:Cx} {pos:Pos}
noncomputable def YL (i:Nat):TG:=fun v σ H Q=>Q (σ.set i (some v)) H
theorem jV {i:Nat} {x:Str} (hN:X.N.Nodup) (hi:X.N[i]? = some x) (hx:Loc X.env.scope x) (hf:X.fn x = true ∨ X.env.scope.names.lookup x = some .local:=by first | exact .inl rfl | exact .inr rfl | assumption):PG X (.Name x pos) (YL i):=by
  intro pins s σ H v u Q I r h
  exact wpAny_assign_Name (ji2 I hN hi hx r (fun s' I'=>⟨_,H,I',h⟩) hf)
noncomputable def gNil:TGs:=fun vs σ H Q=>vs = [] /\ Q σ H
noncomputable def jg8 (t:TG) (u:TGs):TGs:=fun vs σ H Q=>∃ v r,vs = v :: r /\ t v σ H fun σ' H'=>u r σ' H' Q
theorem zc:PGs X [] gNil:=by
  intro pins s σ H vs us Q I r h
  obtain ⟨e,h⟩:=h
  subst e
  cases r
  exact assignInOrder_nil ⟨σ,H,I,h⟩
theorem JQ {e:Expr} {es:List Expr} {t:TG} {u:TGs} (h1:PG X e t) (h2:PGs X es u)
    (hs:(assignEach (e :: es) X.env).map (·.2) = assign e X.env :: (assignEach es X.env).map (·.2):=by rfl):PGs X (e :: es) (jg8 t u):=by
  intro pins s σ H vs us Q I r h
  obtain ⟨v,vr,e1,h⟩:=h
  subst e1
  cases r with
  | cons r rr =>
    rw [hs]
    refine assignInOrder_cons (thn (h1 pins s σ H _ _ _ I r h) fun _ s1 zz=>?_)
    obtain ⟨σ1,H1,I1,q1⟩:=zz
    exact h2 pins s1 σ1 H1 _ _ Q I1 rr q1
noncomputable def gTup (K:PySem.W.Frag) (n:Nat) (t:TGs):TG:=fun v σ H Q=>∃ a xs,v = .ref a /\ SqT K H a xs /\ xs.length = n /\ t xs σ H Q
theorem Z7 {es:List Expr} {k:Nat} {t:TGs} {n:Nat} (hc:X.calm = true) (h:PGs X es t)
    (hn:(assignEach es X.env).length = n:=by rfl) (hst:(assignEach es X.env).findIdx? (·.1) = none:=by rfl):PG X (.Tuple es k pos) (gTup X.K n t):=by
  intro pins s σ H v u Q I r hw
  obtain ⟨a,xs,e1,hq,hl,hw⟩:=hw
  subst e1
  cases r
  obtain ⟨its,rv,ht,hz⟩:=I.tuple hq
  refine assign_Tuple_tuple (I.ok.hd hc) ht (by simp [hn,<- hl,rv.length]) hst fun h' hx=>?_
  have I1:Inv X pins σ H { s with heap:=h' }:=I.kept (t':=s.toks) fun b o e=>hx b o (Nat.ne_of_lt (Heap.lt_size e)) e
  exact h pins _ σ H xs _ Q I1 (by simpa using rv) hw
noncomputable def tAsg (te:TE) (g:TG):TS:=fun D σ H=>te σ H fun x H1=>g x σ H1 D.nx
theorem jh4 {tg e:Expr} {te:TE} {g:TG} (he:PE X e te) (hg:PG X tg g) (hs:swapsWithSole [tg] e pos.line X.env = pure false:=by rfl) (hw:swappedStores [tg] e X.env = pure none:=by rfl)
    (h1:(assignEach [tg] X.env).map (·.2) = [assign tg X.env]:=by rfl):PS X (.Assign [tg] e pos) (tAsg te g):=by
  intro pins s σ H D I h
  refine wpAny_Assign_stores (thn (he pins s σ H _ I h) fun v s1 zz=>?_) hs hw
  obtain ⟨x,H1,I1,r1,q1⟩:=zz
  rw [h1]
  exact thn (hg pins s1 σ H1 x v _ I1 r1 q1) fun _ s2 q=>q
theorem jT {i:Nat} {x:Str} {e:Expr} {te:TE} {pos':Pos} (hN:X.N.Nodup) (hi:X.N[i]? = some x) (hx:Loc X.env.scope x) (he:PE X e te) (hs:swapsWith e (some (.Name x pos')) pos.line X.env = pure false:=by rfl) (hf:X.fn x = true ∨ X.env.scope.names.lookup x = some .local:=by first | exact .inl rfl | exact .inr rfl | assumption) :
    PS X (.Assign [.Name x pos'] e pos) (tAsg te (YL i)):=by
  intro pins s σ H D I h
  refine wpAny_Assign_Name (thn (he pins s σ H _ I h) fun v s1 zz=>?_) hs
  obtain ⟨y,H1,I1,r1,q1⟩:=zz
  exact ji2 I1 hN hi hx r1 (fun s2 I2=>⟨_,H1,I2,q1⟩) hf
end
section
variable {X:Cx} {pos:Pos}
end
structure It where
  go:Nat->Hp->Prop
  yld:Nat->Hp->V->Hp->Prop
  stop:Nat->Hp->Prop
noncomputable def FpOk (X:Cx) (pins:List (Addr × Obj)) (H:Hp) (b:Addr):Prop :=
  H b = none /\ b ≠ X.env.locals /\ b ∉ X.fs /\ (b ∈ X.ex ∨ X.s₀.heap.objs.size <= b) /\ (∀ x c,X.env.cells.lookup x = some c->c ≠ b) /\ ∀ p ∈ X.pn ++ pins,p.1 ≠ b
theorem Inv.fpOk {X:Cx} {pins:List (Addr × Obj)} {σ:St} {H H':Hp} {s:Shared} {b:Addr} (I:Inv X pins σ H s) (hb:s.heap.objs.size <= b) (hn:H' b = none):FpOk X pins H' b:=by
  refine ⟨hn,Nat.ne_of_gt (Nat.lt_of_lt_of_le I.lt hb),I.nofs hb,.inr (Nat.le_trans I.sz hb),fun x c e z=>?_,fun p hp z=>?_⟩
  · obtain ⟨v,q⟩:=I.cell x c e
    exact absurd (Nat.lt_of_lt_of_le q.lt (by rw [z]; exact hb)) (Nat.lt_irrefl _)
  · exact absurd (Nat.lt_of_lt_of_le (Heap.lt_size (I.pin p hp).1) (by rw [z]; exact hb)) (Nat.lt_irrefl _)
structure Turn (P:Program) (w:World) (K:PySem.W.Frag) (tg:Expr) (J:It) (fp:List Addr) (it:Addr) (tn:Nat->Heap->Prop):Prop where
  mem:it ∈ fp
  obj:∀ i h,tn i h->∀ b ∈ fp,∃ o,h.get? b = some o /\ ∀ v,o.data ≠ .cell v
  keep:∀ i h h',tn i h->(∀ b ∈ fp,∀ o,h.get? b = some o->h'.get? b = some o)->tn i h'
  item:∀ (X:Cx),X.prog = P->X.w = w->X.K = K->X.calm = true->∀ (i:Nat) (pins:List (Addr × Obj)) (s:Shared) (σ:St) (H:Hp) (E:Value->Shared->Prop),Inv X pins σ H s->(∀ b ∈ fp,FpOk X pins H b)->tn i s.heap->J.go i H ->
    wpAny (model P w) X.A (pyNext (.ref it)) (fun r s1=>∃ u,r = some u /\
      wpAny (model P w) X.A (letOwnedTupleGo tg (.ref it) u) (fun _ s2=>∃ x H',Inv X pins σ H' s2 /\ RelV x u /\ J.yld i H x H' /\ tn (i + 1) s2.heap /\ ∀ b ∈ fp,H' b = none) E s1) E s
  done:∀ (X:Cx),X.prog = P->X.w = w->X.K = K->X.calm = true->∀ (i:Nat) (pins:List (Addr × Obj)) (s:Shared) (σ:St) (H:Hp) (E:Value->Shared->Prop),Inv X pins σ H s->(∀ b ∈ fp,FpOk X pins H b)->tn i s.heap->J.stop i H ->
    wpAny (model P w) X.A (pyNext (.ref it)) (fun r s1=>r = none /\ Inv X pins σ H s1) E s
  self:∀ (A:Around) (i:Nat) (s:Shared) (Q:Value->Shared->Prop) (E:Value->Shared->Prop),tn i s.heap->Q (.ref it) s->wpAny (model P w) A (pyIter (.ref it)) Q E s
noncomputable abbrev TI:=St->Hp->(It->Hp->Prop)->Prop
noncomputable def PIE (X:Cx) (pins:List (Addr × Obj)) (σ:St) (tg:Expr) (R:It->Hp->Prop) (itv:Value) (s2:Shared):Prop :=
  ∃ (it:Addr) (fp:List Addr) (tn:Nat->Heap->Prop) (J:It) (H':Hp),itv = .ref it /\ Inv X pins σ H' s2 /\ Turn X.prog X.w X.K tg J fp it tn /\ tn 0 s2.heap /\ (∀ b ∈ fp,FpOk X pins H' b) /\ R J H'
noncomputable def PI (X:Cx) (tg iter:Expr) (wi:TI):Prop :=
  ∀ (pins:List (Addr × Obj)) (s:Shared) (σ:St) (H:Hp) (R:It->Hp->Prop),Inv X pins σ H s->wi σ H R ->
    wpAny (model X.prog X.w) X.A (eval iter X.env) (fun v s1=>wpAny (model X.prog X.w) X.A (pyIter v) (PIE X pins σ tg R) X.xe s1) X.xe s
theorem go_of {M:Model} {A:Around} {E:Value->Shared->Prop} {s:Shared} {tg:Expr} {it:Addr} {u:Value} {o:Obj} {n:String} {vs:Array Value} {Q:Unit->Shared->Prop} (ho:s.heap.get? it = some o) (hc:o.cls = .type n) (hd:o.data = .fields vs)
    (hn:["enumerate", "zip", "dict_itemiterator", "dict_reverseitemiterator", "odict_iterator", "itertools.zip_longest", "itertools.pairwise"].contains n = false) (hQ:Q () s):wpAny M A (letOwnedTupleGo tg (.ref it) u) Q E s:=by
  unfold letOwnedTupleGo
  cases tg <;> first
    | exact wpAny_pure hQ
    | (cases u <;> first
        | exact wpAny_pure hQ
        | (refine wpAny_bind (wpAny_load ho ?_)
           rw [hc,hd]
           show wpAny M A (if (["enumerate", "zip", "dict_itemiterator", "dict_reverseitemiterator", "odict_iterator", "itertools.zip_longest", "itertools.pairwise"].contains n && vs[0]? == some (rawInt _)) = true then _ else _) Q E s
           rw [if_neg (by intro h; rw [hn,Bool.false_and] at h; cases h)]
           exact wpAny_pure hQ))
noncomputable def Itl (K:PySem.W.Frag) (a:Addr):It :=
  ⟨fun i H=>∃ xs x,SqL K H a xs /\ xs[i]? = some x,fun i H x H'=>H' = H /\ ∀ xs,SqL K H a xs->xs[i]? = some x,fun i H=>∃ xs,SqL K H a xs /\ xs.length <= i⟩
noncomputable def Itr (lo:Int) (n:Nat):It:=⟨fun i _=>i < n,fun i H x H'=>H' = H /\ x = .int (lo + i),fun i _=>n <= i⟩
theorem jk2 {P:Program} {w:World} {K:PySem.W.Frag} {tg:Expr} (a it:Addr):Turn P w K tg (Itl K a) [it] it (fun i h=>h.IsListIter it a i) where
  mem:=by simp
  obj:=fun i h st b hb=>by
    have e:b = it:=by simpa using hb
    subst e
    obtain ⟨o,e,c,d⟩:=st
    exact ⟨o,e,fun v z=>by rw [d] at z; cases z⟩
  keep:=fun i h h' st k=>st.at fun o e=>k it (by simp) o e
  item:=by
    intro X hP hw hK hc i pins s σ H E I hf st hg
    subst hP hw hK
    obtain ⟨xs,x,hq,hx⟩:=hg
    obtain ⟨its,rv,p,hz⟩:=I.list hq
    obtain ⟨u,hu,ru⟩:=rv.get hx
    obtain ⟨f0,f1,f2,f3,f4,f5⟩:=hf it (by simp)
    refine wpAny_pyNext_list_item st p.isList (x:=u) (by simpa using hu) fun h' st' sb=>?_
    have I1:Inv X pins σ H { s with heap:=h' }:=I.turned (t':=s.toks) (fun b o hb e=>(sb.2 b hb).trans e) f0 f1 f3 f4 f5
    obtain ⟨o,e,c,d⟩:=id st'
    exact ⟨u,rfl,go_of (s:={ s with heap:=h' }) e c d (by decide) ⟨x,H,I1,ru,⟨rfl,fun ys hy=>by rw [I.jdu hy hq]; exact hx⟩,st',fun b hb=>(hf b hb).1⟩⟩
  done:=by
    intro X hP hw hK hc i pins s σ H E I hf st hg
    subst hP hw hK
    obtain ⟨xs,hq,hx⟩:=hg
    obtain ⟨its,rv,p,hz⟩:=I.list hq
    obtain ⟨f0,f1,f2,f3,f4,f5⟩:=hf it (by simp)
    have hl:=rv.length
    exact wpAny_pyNext_list_end (I.ok.hd hc) st p.isList (by simp; omega) fun h' eb=>⟨rfl,I.turned (t':=s.toks) (fun b o hb e=>eb b o hb e) f0 f1 f3 f4 f5⟩
  self:=fun _ _ _ _ _ st h=>wpAny_pyIter_listiter st h
theorem jjW {P:Program} {w:World} {K:PySem.W.Frag} {tg:Expr} (it:Addr) (lo:Int) (n:Nat):Turn P w K tg (Itr lo n) [it] it (fun i h=>IsRangeIter h it (lo + (i:Nat) * 1) ((n:Int) - (i:Nat)) 1) where
  mem:=by simp
  obj:=fun i h st b hb=>by
    have e:b = it:=by simpa using hb
    subst e
    exact ⟨_,st,fun v z=>by
      have z':Data.fields _ = Data.cell v:=z
      cases z'⟩
  keep:=fun i h h' st k=>k it (by simp) _ st
  item:=by
    intro X hP hw hK hc i pins s σ H E I hf st hg
    subst hP hw hK
    obtain ⟨f0,f1,f2,f3,f4,f5⟩:=hf it (by simp)
    have W:=Walks.range (prog:=X.prog) (w:=X.w) (I.ok.hd hc) it lo 1 n
    refine W.item i s _ _ hg st fun v h' tk hv st' kk=>?_
    obtain ⟨t,rfl⟩:=hv
    have I1:Inv X pins σ H { s with heap:=h',toks:=tk }:=I.turned (fun b o hb e=>kk b o (by simpa using hb) e) f0 f1 f3 f4 f5
    refine ⟨_,rfl,go_of (s:={ s with heap:=h',toks:=tk }) (n := "range_iterator") st' rfl rfl (by decide) ⟨.int (lo + i),H,I1,⟨t,?_⟩,⟨rfl,rfl⟩,st',fun b hb=>(hf b hb).1⟩⟩
    rw [Int.mul_one]
  done:=by
    intro X hP hw hK hc i pins s σ H E I hf st hg
    subst hP hw hK
    obtain ⟨f0,f1,f2,f3,f4,f5⟩:=hf it (by simp)
    exact wpAny_pyNext_range_end (I.ok.hd hc) st (by have:n <= i:=hg; omega) fun h' eb=>⟨rfl,I.turned (t':=s.toks) (fun b o hb e=>eb b o hb e) f0 f1 f3 f4 f5⟩
  self:=fun _ _ _ _ _ st h=>wpAny_pyIter_rangeiter st h
end L2
namespace L2
open PySem PySem.Spec PyProof.Rows
section
variable {X:Cx} {tg:Expr}
noncomputable def iList (K:PySem.W.Frag) (tl:TE):TI:=fun σ H R=>tl σ H fun x H1=>∃ a,x = .ref a /\ (∃ xs,SqL K H1 a xs) /\ R (Itl K a) H1
theorem JL {l:Expr} {tl:TE} (hl:PE X l tl):PI X tg l (iList X.K tl):=by
  intro pins s σ H R I h
  refine thn (hl pins s σ H _ I h) fun v s1 zz=>?_
  obtain ⟨x,H1,I1,r1,q1⟩:=zz
  obtain ⟨a,e,⟨xs,hq⟩,q⟩:=q1
  subst e
  cases r1
  obtain ⟨its,rv,p,hz⟩:=I1.list hq
  refine wpAny_pyIter_list p.isList ?_
  refine ⟨s1.heap.objs.size,[s1.heap.objs.size],_,_,H1,rfl,I1.kept (t':=s1.toks) fun b o e=>Heap.get?_push_of_some _ e,jk2 a _,⟨_,Heap.get?_push_size _ rfl,rfl,rfl⟩,fun b hb=>?_,q⟩
  have e:b = s1.heap.objs.size:=by simpa using hb
  subst e
  exact I1.fpOk (Nat.le_refl _) (I1.hok.fresh (Nat.le_refl _))
theorem range_it {pins:List (Addr × Obj)} {σ:St} {H:Hp} {s:Shared} {R:It->Hp->Prop} {E:Value->Shared->Prop} {lo hi:Int} {t u v:Tok} {tk:Nat} (I:Inv X pins σ H s) (h1:-(2 ^ 62) <= lo) (h2:lo < 2 ^ 62) (h3:-(2 ^ 62) <= hi) (h4:hi < 2 ^ 62)
    (q:R (Itr lo (hi - lo).toNat) H):wpAny (model X.prog X.w) X.A (pyIter (.ref s.heap.objs.size)) (PIE X pins σ tg R) E { s with heap:=s.heap.push { cls:=.type "range",data:=.fields #[.int lo t,.int hi u,.int 1 v] },toks:=tk }:=by
  refine wpAny_pyIter_range (IsRange.new ..) (small_one h1 h2 h3 h4) ?_
  have I1:Inv X pins σ H { s with heap:=s.heap.push { cls:=.type "range",data:=.fields #[.int lo t,.int hi u,.int 1 v] },toks:=tk }:=I.kept fun b o e=>Heap.get?_push_of_some _ e
  refine ⟨(s.heap.push { cls:=.type "range",data:=.fields #[.int lo t,.int hi u,.int 1 v] }).objs.size,[(s.heap.push { cls:=.type "range",data:=.fields #[.int lo t,.int hi u,.int 1 v] }).objs.size],_,_,H,rfl,
    I1.kept (t':=tk) fun b o e=>Heap.get?_push_of_some _ e,jjW _ lo (hi - lo).toNat,?_,fun b hb=>?_,q⟩
  · have e1:lo + ((0:Nat):Int) * 1 = lo:=by simp
    have e2:(((hi - lo).toNat:Nat):Int) - ((0:Nat):Int) = Builtin.Range.rangeSize lo hi 1:=by rw [rangeSize_one]; split <;> omega
    show IsRangeIter _ _ (lo + ((0:Nat):Int) * 1) ((((hi - lo).toNat:Nat):Int) - ((0:Nat):Int)) 1
    rw [e1,e2]
    exact Heap.get?_push_size _ rfl
  · have e:b = (s.heap.push { cls:=.type "range",data:=.fields #[.int lo t,.int hi u,.int 1 v] }).objs.size:=by simpa using hb
    subst e
    exact I1.fpOk (Nat.le_refl _) (I1.hok.fresh (Nat.le_refl _))
noncomputable def iRng1 (ta:TA):TI:=fun σ H R=>ta σ H fun vs H1=>∃ j:Int,vs = [.int j] /\ -(2 ^ 62) <= j /\ j < 2 ^ 62 /\ R (Itr 0 j.toNat) H1
theorem Jh {a:Expr} {ta:TA} {p pos:Pos} (hg:Gl X "range") (hm:X.mg "range" = none) (ha:PA X [a] ta) (hs:starEach [a] X.env = [(false,eval a X.env)]:=by rfl):PI X tg (.Call (.Name "range" p) [a] [] pos) (iRng1 ta):=by
  intro pins s σ H R I h
  refine Call_ (Z6 I hg hm boot_range (PyProof.Rows.callWith_type1 (thn (ha pos pins s σ H _ I h) fun us s1 zz=>?_) hs rfl))
  obtain ⟨vs,H1,I1,r1,q1⟩:=zz
  obtain ⟨j,e,q1,q2,q⟩:=q1
  subst e
  cases r1 with
  | cons r rr =>
    cases rr
    obtain ⟨t,rfl⟩:=r
    exact call_range_1 (range_it I1 (by omega) (by omega) q1 q2 (by simpa using q))
noncomputable def tFor (wi:TI) (g:TG) (tb:TS):TS:=fun D σ H=>wi σ H fun J H1=>∃ W:Nat->Nat->St->Hp->Prop,(∃ m,W 0 m σ H1) /\ ∀ i m σ H,W i m σ H ->
  (J.stop i H /\ D.nx σ H) ∨ (J.go i H /\ ∃ N:St->Hp->Prop,(∀ σ' H',N σ' H'->∃ m',m' < m /\ W (i + 1) m' σ' H') /\ ∀ x H',J.yld i H x H'->g x σ H' fun σ2 H2=>tb { D with nx:=N,ct:=N,bk:=D.nx } σ2 H2)
noncomputable def jf5 (fp:List Addr) (h:Heap):List (Addr × Obj):=fp.filterMap fun b=>(h.get? b).map fun o=>(b,o)
theorem jaX {fp:List Addr} {h:Heap} {b:Addr} {o:Obj} (hb:b ∈ fp) (e:h.get? b = some o):(b,o) ∈ jf5 fp h:=List.mem_filterMap.mpr ⟨b,hb,by rw [e]; rfl⟩
theorem jkL {fp:List Addr} {h:Heap} {p:Addr × Obj} (hp:p ∈ jf5 fp h):p.1 ∈ fp /\ h.get? p.1 = some p.2:=by
  obtain ⟨b,hb,e⟩:=List.mem_filterMap.mp hp
  cases q:h.get? b with
  | none=>rw [q] at e; cases e
  | some o =>
    rw [q] at e
    have e':(b,o) = p:=Option.some.inj e
    subst e'
    exact ⟨hb,q⟩
theorem Inv.pinned {pins:List (Addr × Obj)} {σ:St} {H:Hp} {s:Shared} {fp:List Addr} (I:Inv X pins σ H s) (hf:∀ b ∈ fp,FpOk X pins H b) (ho:∀ b ∈ fp,∃ o,s.heap.get? b = some o /\ ∀ v,o.data ≠ .cell v):Inv X (pins ++ jf5 fp s.heap) σ H s :=
  I.jkf fun p hp=>(List.mem_append.mp hp).elim (fun z=>I.pin p (List.mem_append_right _ z)) fun z=>by
    obtain ⟨hb,e⟩:=jkL z
    obtain ⟨f0,f1,f2,_⟩:=hf p.1 hb
    obtain ⟨o,e',d⟩:=ho p.1 hb
    rw [e] at e'; cases e'
    exact ⟨e,f0,f1,f2,d⟩
theorem Inv.jdN {pins pl:List (Addr × Obj)} {σ:St} {H:Hp} {s:Shared} (I:Inv X (pins ++ pl) σ H s):Inv X pins σ H s:=I.jkf fun p hp=>I.pin p (List.mem_append_right _ (List.mem_append_left _ hp))
theorem qt {iter:Expr} {body:List Stmt} {wi:TI} {g:TG} {tb:TS} {pos:Pos} (hp:PassesOwn (model X.prog X.w) X.A X.env X.xe) (hc:X.calm = true) (hi:PI X tg iter wi) (hg:PG X tg g) (hb:PSs X body tb)
    (hs:∀ x,foldedSetIterable iter X.env x = pure x:=by intro _; rfl):PS X (.For tg iter body [] pos) (tFor wi g tb):=by
  intro pins s σ H D I h
  refine wpAny_For (thn (hi pins s σ H _ I h) fun v s1 h1=>thn h1 fun itv s2 h2=>?_) hs
  obtain ⟨it,fp,tn,J,H2,e,I2,T,st2,f2,W,⟨m0,w0⟩,turn⟩:=h2
  subst e
  have stat:∀ {H':Hp},(∀ b ∈ fp,H' b = none)->∀ b ∈ fp,FpOk X pins H' b:=fun hn b hb=>⟨hn b hb,(f2 b hb).2⟩
  refine codeAny_forLoop_any (fun n s'=>∃ i σ' H',Inv X pins σ' H' s' /\ tn i s'.heap /\ (∀ b ∈ fp,H' b = none) /\ W i n σ' H') ?_ m0 ⟨0,σ,H2,I2,st2,fun b hb=>(f2 b hb).1,w0⟩
  rintro n s3 ⟨i,σ3,H3,I3,st3,fr3,w3⟩
  rcases turn i n σ3 H3 w3 with ⟨stop,qn⟩ | ⟨go,N,hN,step⟩
  · refine wpAny_passesOwn hp (thn (T.done X rfl rfl rfl hc i pins s3 σ3 H3 X.xe I3 (stat fr3) st3 stop) fun r s4 zz=>?_)
    obtain ⟨hr,I4⟩:=zz
    subst hr
    exact wpAny_execs_nil ⟨σ3,H3,I4,qn⟩
  · refine wpAny_passesOwn hp (thn (T.item X rfl rfl rfl hc i pins s3 σ3 H3 X.xe I3 (stat fr3) st3 go) fun r s4 zz=>?_)
    obtain ⟨u,hr,h4⟩:=zz
    subst hr
    refine wpAny_passesOwn hp (thn h4 fun _ s5 zz=>?_)
    obtain ⟨x,H5,I5,r5,y5,st5,fr5⟩:=zz
    have I5':=I5.pinned (stat fr5) (T.obj _ _ st5)
    refine wpAny_passesOwn hp (thn (hg _ s5 σ3 H5 x u _ I5' r5 (step x H5 y5)) fun _ s6 zz=>?_)
    obtain ⟨σ6,H6,I6,q6⟩:=zz
    refine wpAny_passesOwn hp (thn (hb _ s6 σ6 H6 _ I6 q6) fun f s7 q7=>?_)
    have again:∀ {σ7:St} {H7:Hp},Inv X (pins ++ jf5 fp s5.heap) σ7 H7 s7->N σ7 H7->∃ m,m < n /\ ∃ i σ' H',Inv X pins σ' H' s7 /\ tn i s7.heap /\ (∀ b ∈ fp,H' b = none) /\ W i m σ' H':=fun {σ7 H7} I7 n7=>by
      obtain ⟨m',hm,w7⟩:=hN σ7 H7 n7
      refine ⟨m',hm,i + 1,σ7,H7,I7.jdN,T.keep _ _ _ st5 fun b hb o e=>(I7.pin (b,o) (List.mem_append_right _ (List.mem_append_right _ (jaX hb e)))).1,fun b hb=>?_,w7⟩
      obtain ⟨o,e,d⟩:=T.obj _ _ st5 b hb
      exact (I7.pin (b,o) (List.mem_append_right _ (List.mem_append_right _ (jaX hb e)))).2.1
    cases f with
    | next=>obtain ⟨σ7,H7,I7,n7⟩:=q7; exact again I7 n7
    | cont=>obtain ⟨σ7,H7,I7,n7⟩:=q7; exact again I7 n7
    | brk=>obtain ⟨σ7,H7,I7,q7⟩:=q7; exact ⟨σ7,H7,I7.jdN,q7⟩
    | ret v=>obtain ⟨x7,σ7,H7,I7,r7,q7⟩:=q7; exact ⟨x7,σ7,H7,I7.jdN,r7,q7⟩
end
theorem yC {K:PySem.W.Frag} {a:Addr} {xs:List V} {g:TG} {tb:TS} {D:Ends} {σ:St} {H:Hp} (Pv:Nat->St->Hp->Prop) (h0:Pv 0 σ H) (hl:∀ i σ H,i <= xs.length->Pv i σ H->SqL K H a xs)
    (hs:∀ i x σ H,xs[i]? = some x->Pv i σ H->g x σ H fun σ2 H2=>tb { D with nx:=Pv (i + 1),ct:=Pv (i + 1),bk:=D.nx } σ2 H2) (hd:∀ σ H,Pv xs.length σ H->D.nx σ H) :
    ∃ W:Nat->Nat->St->Hp->Prop,(∃ m,W 0 m σ H) /\ ∀ i m σ H,W i m σ H ->
      ((Itl K a).stop i H /\ D.nx σ H) ∨ ((Itl K a).go i H /\ ∃ N:St->Hp->Prop,(∀ σ' H',N σ' H'->∃ m',m' < m /\ W (i + 1) m' σ' H') /\ ∀ x H',(Itl K a).yld i H x H'->g x σ H' fun σ2 H2=>tb { D with nx:=N,ct:=N,bk:=D.nx } σ2 H2):=by
  refine ⟨fun i m σ H=>m = xs.length - i /\ i <= xs.length /\ Pv i σ H,⟨xs.length,by simp,Nat.zero_le _,h0⟩,?_⟩
  rintro i m σ H ⟨rfl,hi,p⟩
  have q:=hl i σ H hi p
  by_cases hlt:i < xs.length
  · refine .inr ⟨⟨xs,xs[i],q,by simp [hlt]⟩,Pv (i + 1),fun σ' H' p'=>⟨xs.length - (i + 1),by omega,rfl,hlt,p'⟩,fun x H' y=>?_⟩
    obtain ⟨e,y⟩:=y
    subst e
    exact hs i x σ _ (y xs q) p
  · have e:i = xs.length:=by omega
    subst e
    exact .inl ⟨⟨xs,q,Nat.le_refl _⟩,hd σ H p⟩
theorem yX {lo:Int} {n:Nat} {g:TG} {tb:TS} {D:Ends} {σ:St} {H:Hp} (Pv:Nat->St->Hp->Prop) (h0:Pv 0 σ H)
    (hs:∀ i σ H,i < n->Pv i σ H->g (.int (lo + i)) σ H fun σ2 H2=>tb { D with nx:=Pv (i + 1),ct:=Pv (i + 1),bk:=D.nx } σ2 H2) (hd:∀ σ H,Pv n σ H->D.nx σ H) :
    ∃ W:Nat->Nat->St->Hp->Prop,(∃ m,W 0 m σ H) /\ ∀ i m σ H,W i m σ H ->
      ((Itr lo n).stop i H /\ D.nx σ H) ∨ ((Itr lo n).go i H /\ ∃ N:St->Hp->Prop,(∀ σ' H',N σ' H'->∃ m',m' < m /\ W (i + 1) m' σ' H') /\ ∀ x H',(Itr lo n).yld i H x H'->g x σ H' fun σ2 H2=>tb { D with nx:=N,ct:=N,bk:=D.nx } σ2 H2):=by
  refine ⟨fun i m σ H=>m = n - i /\ i <= n /\ Pv i σ H,⟨n,by simp,Nat.zero_le _,h0⟩,?_⟩
  rintro i m σ H ⟨rfl,hi,p⟩
  by_cases hlt:i < n
  · refine .inr ⟨hlt,Pv (i + 1),fun σ' H' p'=>⟨n - (i + 1),by omega,rfl,hlt,p'⟩,fun x H' y=>?_⟩
    obtain ⟨e,y⟩:=y
    subst e y
    exact hs i σ _ hlt p
  · have e:i = n:=by omega
    subst e
    exact .inl ⟨Nat.le_refl _,hd σ H p⟩
end L2
namespace L2
open PySem PySem.Spec PyProof.Rows
noncomputable abbrev R2:=V->V->Hp->VK->Prop
noncomputable def OpR (X:Cx) (f:Value->Value->Sem Value) (r:R2):Prop :=
  ∀ (pins:List (Addr × Obj)) (s:Shared) (σ:St) (H:Hp) (x y:V) (v u:Value) (Q:VK),Inv X pins σ H s->RelV x v->RelV y u->r x y H Q ->
    wpAny (model X.prog X.w) X.A (f v u) (EP X pins σ Q) X.xe s
noncomputable def UnR (X:Cx) (f:Value->Sem Value) (r:V->Hp->VK->Prop):Prop :=
  ∀ (pins:List (Addr × Obj)) (s:Shared) (σ:St) (H:Hp) (x:V) (v:Value) (Q:VK),Inv X pins σ H s->RelV x v->r x H Q ->
    wpAny (model X.prog X.w) X.A (f v) (EP X pins σ Q) X.xe s
noncomputable def yx (X:Cx) (f:Value) (r:List V->Hp->VK->Prop):Prop :=
  ∀ (pins:List (Addr × Obj)) (s:Shared) (σ:St) (H:Hp) (xs:List V) (us:List Value) (Q:VK),Inv X pins σ H s->Vals xs us->r xs H Q ->
    wpAny (model X.prog X.w) X.A (call f us) (EP X pins σ Q) X.xe s
noncomputable def tOp (r:R2) (ta tb:TE):TE:=fun σ H Q=>ta σ H fun x H1=>tb σ H1 fun y H2=>r x y H2 Q
noncomputable def tUn (r:V->Hp->VK->Prop) (ta:TE):TE:=fun σ H Q=>ta σ H fun x H1=>r x H1 Q
noncomputable def rI (C:Int->Int->Prop) (g:Int->Int->V):R2:=fun x y H Q=>∃ i j,x = .int i /\ y = .int j /\ C i j /\ Q (g i j) H
noncomputable def rI0 (g:Int->Int->V):R2:=fun x y H Q=>∃ i j,x = .int i /\ y = .int j /\ Q (g i j) H
noncomputable def rU (g:Int->V):V->Hp->VK->Prop:=fun x H Q=>∃ i,x = .int i /\ Q (g i) H
section
variable {X:Cx} {a b c:Expr} {ta tb tc:TE} {pos:Pos}
theorem binT (ha:PE X a ta) (hb:PE X b tb) {pins:List (Addr × Obj)} {s:Shared} {σ:St} {H:Hp} {R:V->V->Hp->Prop} (I:Inv X pins σ H s)
    (h:ta σ H fun x H1=>tb σ H1 fun y H2=>R x y H2) {Q:Value->Shared->Prop} {f:Value->Value->Sem Value}
    (hf:∀ v u s2 x y H2,Inv X pins σ H2 s2->RelV x v->RelV y u->R x y H2->wpAny (model X.prog X.w) X.A (f v u) Q X.xe s2) :
    wpAny (model X.prog X.w) X.A (eval a X.env) (fun v s₁=>wpAny (model X.prog X.w) X.A (eval b X.env) (fun u s₂=>wpAny (model X.prog X.w) X.A (f v u) Q X.xe s₂) X.xe s₁) X.xe s:=by
  refine thn (ha pins s σ H _ I h) fun v s1 zz=>?_
  obtain ⟨x,H1,I1,r1,q1⟩:=zz
  refine thn (hb pins s1 σ H1 _ I1 q1) fun u s2 zz=>?_
  obtain ⟨y,H2,I2,r2,q2⟩:=zz
  exact hf v u s2 x y H2 I2 r1 r2 q2
theorem jF {op:Operator} {r:R2} (ho:OpR X (binaryOp op) r) (ha:PE X a ta) (hb:PE X b tb):PE X (.BinOp a op b pos) (tOp r ta tb):=by
  intro pins s σ H Q I h
  exact wpAny_BinOp (binT ha hb I h fun v u s2 x y H2 I2 rx ry q=>ho pins s2 σ H2 x y v u Q I2 rx ry q)
theorem pe_un {op:UnaryOp} {r:V->Hp->VK->Prop} (ho:UnR X (unaryOp op) r) (ha:PE X a ta):PE X (.UnaryOp op a pos) (tUn r ta):=by
  intro pins s σ H Q I h
  exact UnaryOp_ (thn (ha pins s σ H _ I h) fun v s1 ⟨x,H1,I1,r1,q1⟩=>ho pins s1 σ H1 x v Q I1 r1 q1)
theorem opI {f:Value->Value->Sem Value} {C:Int->Int->Prop} {g:Int->Int->Int}
    (rule:∀ (i j:Int) (t u:Tok) (s:Shared) (Q:Value->Shared->Prop) (E:Value->Shared->Prop),C i j->Q (.int (g i j) s.toks) { s with toks:=s.toks + 1 }->wpAny (model X.prog X.w) X.A (f (.int i t) (.int j u)) Q E s) :
    OpR X f (rI C fun i j=>.int (g i j)):=by
  intro pins s σ H x y v u Q I rx ry h
  obtain ⟨i,j,rfl,rfl,hc,q⟩:=h
  obtain ⟨t,rfl⟩:=rx
  obtain ⟨t',rfl⟩:=ry
  exact rule i j t t' s _ _ hc ⟨.int (g i j),H,I.tok _,⟨_,rfl⟩,q⟩
theorem opI0 {f:Value->Value->Sem Value} {g:Int->Int->Int}
    (rule:∀ (i j:Int) (t u:Tok) (s:Shared) (Q:Value->Shared->Prop) (E:Value->Shared->Prop),Q (.int (g i j) s.toks) { s with toks:=s.toks + 1 }->wpAny (model X.prog X.w) X.A (f (.int i t) (.int j u)) Q E s) :
    OpR X f (rI0 fun i j=>.int (g i j)):=by
  intro pins s σ H x y v u Q I rx ry h
  obtain ⟨i,j,rfl,rfl,q⟩:=h
  obtain ⟨t,rfl⟩:=rx
  obtain ⟨t',rfl⟩:=ry
  exact rule i j t t' s _ _ ⟨.int (g i j),H,I.tok _,⟨_,rfl⟩,q⟩
theorem opB0 {f:Value->Value->Sem Value} {g:Int->Int->Bool}
    (rule:∀ (i j:Int) (t u:Tok) (s:Shared) (Q:Value->Shared->Prop) (E:Value->Shared->Prop),Q (.bool (g i j)) s->wpAny (model X.prog X.w) X.A (f (.int i t) (.int j u)) Q E s) :
    OpR X f (rI0 fun i j=>.bl (g i j)):=by
  intro pins s σ H x y v u Q I rx ry h
  obtain ⟨i,j,rfl,rfl,q⟩:=h
  obtain ⟨t,rfl⟩:=rx
  obtain ⟨t',rfl⟩:=ry
  exact rule i j t t' s _ _ ⟨.bl (g i j),H,I,rfl,q⟩
noncomputable def CDiv (i j:Int):Prop:=0 < j /\ j < 1073741824
noncomputable def CPow (i j:Int):Prop:=0 <= j /\ j <= 1000000 /\ i.natAbs < 2 ^ 64
theorem jjX (k:Nat):(0:Int) <= 2 ^ k:=by
  rw [two_pow_cast]
  exact Int.natCast_nonneg _
theorem JB:OpR X (binaryOp .Add) (rI0 fun i j=>.int (i + j)):=opI0 fun _ _ _ _ _ _ _ q=>add_int q
theorem jef:OpR X (binaryOp .Sub) (rI0 fun i j=>.int (i - j)):=opI0 fun _ _ _ _ _ _ _ q=>sub_int q
theorem Qs:OpR X (binaryOp .FloorDiv) (rI CDiv fun i j=>.int (i / j)):=opI fun i j _ _ _ _ _ hc q=>by
  have h1:(0:Int) < j:=hc.1
  have h2:j < 1073741824:=hc.2
  exact floordiv_int (by omega) (by rw [Int.fdiv_eq_ediv_of_nonneg i (by omega)]; exact q) (.inl (PyProof.noPylong_small (by omega)))
theorem Jm:OpR X (binaryOp .Mod) (rI (fun _ j=>0 < j) fun i j=>.int (i % j)):=opI fun i j _ _ _ _ _ hc q=>by
  have h1:(0:Int) < j:=hc
  exact mod_int' (by omega) (by rw [Int.fmod_eq_emod_of_nonneg i (by omega)]; exact q)
theorem jhZ:OpR X (binaryOp .Pow) (rI CPow fun i j=>.int (i ^ j.toNat)):=opI fun _ _ _ _ _ _ _ hc q=>pow_int_small hc.1 hc.2.1 hc.2.2 q
theorem op_shl:OpR X (binaryOp .LShift) (rI CPow fun i j=>.int (i * 2 ^ j.toNat)):=opI fun _ _ _ _ _ _ _ hc q=>lshift_int_small hc.1 hc.2.1 hc.2.2 q
theorem op_shr:OpR X (binaryOp .RShift) (rI (fun _ j=>0 <= j) fun i j=>.int (i / 2 ^ j.toNat)):=opI fun i j _ _ _ _ _ hc q =>
  rshift_int hc (by rw [Int.fdiv_eq_ediv_of_nonneg i (jjX _)]; exact q)
theorem op_and:OpR X (binaryOp .BitAnd) (rI0 fun i j=>.int (Builtin.bitAnd i j)):=opI0 fun _ _ _ _ _ _ _ q=>and_int q
theorem op_or:OpR X (binaryOp .BitOr) (rI0 fun i j=>.int (Builtin.bitOr i j)):=opI0 fun _ _ _ _ _ _ _ q=>or_int q
theorem unI {f:Value->Sem Value} {g:Int->Int}
    (rule:∀ (i:Int) (t:Tok) (s:Shared) (Q:Value->Shared->Prop) (E:Value->Shared->Prop),Q (.int (g i) s.toks) { s with toks:=s.toks + 1 }->wpAny (model X.prog X.w) X.A (f (.int i t)) Q E s) :
    UnR X f (rU fun i=>.int (g i)):=by
  intro pins s σ H x v Q I rx h
  obtain ⟨i,rfl,q⟩:=h
  obtain ⟨t,rfl⟩:=rx
  exact rule i t s _ _ ⟨.int (g i),H,I.tok _,⟨_,rfl⟩,q⟩
theorem un_neg:UnR X (unaryOp .USub) (rU fun i=>.int (-i)):=unI fun _ _ _ _ _ q=>neg_int q
end
noncomputable def scal:V->V->Bool
  | .non,.non=>true | .non,.int _=>true | .int _,.non=>true | .non,.bl _=>true | .bl _,.non=>true | .non,.str _=>true | .str _,.non=>true
  | .int _,.int _=>true | .bl _,.bl _=>true | .str _,.str _=>true | .byt _,.byt _=>true
  | .int _,.str _=>true | .str _,.int _=>true | .bl _,.str _=>true | .str _,.bl _=>true
  | _,_=>false
noncomputable def rEq:R2:=fun x y H Q=>scal x y = true /\ Q (.bl (decide (x = y))) H
noncomputable def rNe:R2:=fun x y H Q=>scal x y = true /\ Q (.bl (!decide (x = y))) H
theorem jj7 {i j:Int}:decide (V.int i = V.int j) = (i == j):=by
  rw [Bool.eq_iff_iff]
  simp
theorem dec_bl {i j:Bool}:decide (V.bl i = V.bl j) = (i == j):=by
  rw [Bool.eq_iff_iff]
  simp
theorem jj8 {i j:Str}:decide (V.str i = V.str j) = (i == j):=by
  rw [Bool.eq_iff_iff]
  simp
theorem jj6 {i j:Array UInt8}:decide (V.byt i = V.byt j) = (i.toList == j.toList):=by
  rw [Bool.eq_iff_iff]
  cases i
  cases j
  simp
section
variable {X:Cx} {a b c:Expr} {ta tb tc:TE} {pos:Pos}
theorem JG {pins:List (Addr × Obj)} {σ:St} {H:Hp} {s:Shared} {Q:VK} {k k':Bool} (I:Inv X pins σ H s) (q:Q (.bl k) H) (e:k = k'):EP X pins σ Q (.bool k') s:=by
  subst e
  exact ⟨.bl k,H,I,rfl,q⟩
theorem Jv:OpR X (compareOp .Eq) rEq:=by
  intro pins s σ H x y v u Q I rx ry h
  obtain ⟨hs,q⟩:=h
  cases x with
  | non =>
    cases rx
    cases y with
    | non=>cases ry; exact PySem.EqNone.eq_none_none (JG I q (by simp))
    | bl j=>cases ry; exact PySem.EqNone.eq_none_bool (JG I q (by simp))
    | int j=>obtain ⟨t',rfl⟩:=ry; exact PySem.EqNone.eq_none_int (JG I q (by simp))
    | str j=>obtain ⟨t',rfl⟩:=ry; exact PySem.EqNone.eq_none_str (JG I q (by simp))
    | _=>exact absurd (show false = true from hs) Bool.false_ne_true
  | bl i =>
    cases rx
    cases y with
    | non=>cases ry; exact PySem.EqNone.eq_bool_none (JG I q (by simp))
    | bl j=>cases ry; exact eq_bool (JG I q dec_bl)
    | str j=>obtain ⟨t',rfl⟩:=ry; exact PySem.EqMixed.eq_bool_str (JG I q (by simp))
    | _=>exact absurd (show false = true from hs) Bool.false_ne_true
  | int i =>
    obtain ⟨t,rfl⟩:=rx
    cases y with
    | non=>cases ry; exact PySem.EqNone.eq_int_none (JG I q (by simp))
    | int j=>obtain ⟨t',rfl⟩:=ry; exact eq_int (JG I q jj7)
    | str j=>obtain ⟨t',rfl⟩:=ry; exact PySem.EqMixed.eq_int_str (JG I q (by simp))
    | _=>exact absurd (show false = true from hs) Bool.false_ne_true
  | str i =>
    obtain ⟨t,rfl⟩:=rx
    cases y with
    | non=>cases ry; exact PySem.EqNone.eq_str_none (JG I q (by simp))
    | bl j=>cases ry; exact PySem.EqMixed.eq_str_bool (JG I q (by simp))
    | int j=>obtain ⟨t',rfl⟩:=ry; exact PySem.EqMixed.eq_str_int (JG I q (by simp))
    | str j=>obtain ⟨t',rfl⟩:=ry; exact eq_str (JG I q jj8)
    | _=>exact absurd (show false = true from hs) Bool.false_ne_true
  | byt i =>
    obtain ⟨t,rfl⟩:=rx
    cases y with
    | byt j=>obtain ⟨t',rfl⟩:=ry; exact PySem.W.eq_bytes (JG I q jj6)
    | _=>exact absurd (show false = true from hs) Bool.false_ne_true
  | _=>cases y <;> exact absurd (show false = true from hs) Bool.false_ne_true
theorem op_ne:OpR X (compareOp .NotEq) rNe:=by
  intro pins s σ H x y v u Q I rx ry h
  obtain ⟨hs,q⟩:=h
  cases x with
  | non =>
    cases rx
    cases y with
    | non=>cases ry; exact PySem.EqNone.ne_none_none (JG I q (by simp))
    | bl j=>cases ry; exact PySem.EqNone.ne_none_bool (JG I q (by simp))
    | int j=>obtain ⟨t',rfl⟩:=ry; exact PySem.EqNone.ne_none_int (JG I q (by simp))
    | str j=>obtain ⟨t',rfl⟩:=ry; exact PySem.EqNone.ne_none_str (JG I q (by simp))
    | _=>exact absurd (show false = true from hs) Bool.false_ne_true
  | bl i =>
    cases rx
    cases y with
    | non=>cases ry; exact PySem.EqNone.ne_bool_none (JG I q (by simp))
    | bl j=>cases ry; exact ne_bool (JG I q (congrArg not dec_bl))
    | str j=>obtain ⟨t',rfl⟩:=ry; exact PySem.EqMixed.ne_bool_str (JG I q (by simp))
    | _=>exact absurd (show false = true from hs) Bool.false_ne_true
  | int i =>
    obtain ⟨t,rfl⟩:=rx
    cases y with
    | non=>cases ry; exact PySem.EqNone.ne_int_none (JG I q (by simp))
    | int j=>obtain ⟨t',rfl⟩:=ry; exact ne_int (JG I q (congrArg not jj7))
    | str j=>obtain ⟨t',rfl⟩:=ry; exact PySem.EqMixed.ne_int_str (JG I q (by simp))
    | _=>exact absurd (show false = true from hs) Bool.false_ne_true
  | str i =>
    obtain ⟨t,rfl⟩:=rx
    cases y with
    | non=>cases ry; exact PySem.EqNone.ne_str_none (JG I q (by simp))
    | bl j=>cases ry; exact PySem.EqMixed.ne_str_bool (JG I q (by simp))
    | int j=>obtain ⟨t',rfl⟩:=ry; exact PySem.EqMixed.ne_str_int (JG I q (by simp))
    | str j=>obtain ⟨t',rfl⟩:=ry; exact ne_str (JG I q (congrArg not jj8))
    | _=>exact absurd (show false = true from hs) Bool.false_ne_true
  | byt i =>
    obtain ⟨t,rfl⟩:=rx
    cases y with
    | byt j=>obtain ⟨t',rfl⟩:=ry; exact PySem.W.ne_bytes (JG I q (congrArg not jj6))
    | _=>exact absurd (show false = true from hs) Bool.false_ne_true
  | _=>cases y <;> exact absurd (show false = true from hs) Bool.false_ne_true
theorem op_lt:OpR X (compareOp .Lt) (rI0 fun i j=>.bl (decide (i < j))):=opB0 fun _ _ _ _ _ _ _ q=>lt_int q
theorem jhl:OpR X (compareOp .LtE) (rI0 fun i j=>.bl (decide (i <= j))):=opB0 fun _ _ _ _ _ _ _ q=>le_int q
theorem jfZ:OpR X (compareOp .Gt) (rI0 fun i j=>.bl (decide (j < i))):=opB0 fun _ _ _ _ _ _ _ q=>gt_int q
theorem op_ge:OpR X (compareOp .GtE) (rI0 fun i j=>.bl (decide (j <= i))):=opB0 fun _ _ _ _ _ _ _ q=>ge_int q
theorem op_isN:OpR X (compareOp .Is) (fun x y H Q=>y = .non /\ Q (.bl (decide (x = .non))) H):=by
  intro pins s σ H x y v u Q I rx ry h
  obtain ⟨rfl,q⟩:=h
  cases ry
  refine is_none_gen (JG I q ?_)
  cases x <;> first
    | (cases rx; rfl)
    | (obtain ⟨t,rfl⟩:=rx; rfl)
theorem j5 (b:Expr) {op:CmpOp} (h:op ≠ .In:=by decide) (h2:op ≠ .NotIn:=by decide):behindInMarks op b = false:=by
  have e1:(op == CmpOp.In) = false:=by cases op <;> first | rfl | exact absurd rfl h
  have e2:(op == CmpOp.NotIn) = false:=by cases op <;> first | rfl | exact absurd rfl h2
  cases b <;> simp [behindInMarks,e1,e2]
theorem zb {op:CmpOp} {r:R2} (ho:OpR X (compareOp op) r) (ha:PE X a ta) (hb:PE X b tb) (hm:behindInMarks op b = false):PE X (.Compare a [op] [b] pos) (tOp r ta tb):=by
  intro pins s σ H Q I h
  exact wpAny_Compare1 (binT ha hb I h fun v u s2 x y H2 I2 rx ry q=>ho pins s2 σ H2 x y v u Q I2 rx ry q) hm
noncomputable def tTest (t:TE):TT:=fun σ H Q=>t σ H fun x H'=>∃ k,x = .bl k /\ Q k H'
theorem jP {op:CmpOp} {r:R2} (ho:OpR X (compareOp op) r) (ha:PE X a ta) (hb:PE X b tb) (hm:behindInMarks op b = false):PT X (.Compare a [op] [b] pos) (tTest (tOp r ta tb)):=by
  intro pins s σ H Q I h
  refine wpAny_isTrue_Compare1 (thn (ha pins s σ H _ I h) fun v s1 ⟨x,H1,I1,r1,q1⟩=>thn (hb pins s1 σ H1 _ I1 q1) fun u s2 ⟨y,H2,I2,r2,q2⟩ =>
    thn (ho pins s2 σ H2 x y v u _ I2 r1 r2 q2) fun c s3 zz=>?_) hm
  obtain ⟨z,H3,I3,r3,k,e,q3⟩:=zz
  subst e
  cases r3
  exact wpAny_truthy_bool ⟨H3,I3,q3⟩
noncomputable def jig (r r':R2) (ta tb tc:TE):TE:=fun σ H Q=>ta σ H fun x H1=>tb σ H1 fun y H2=>r x y H2 fun z H3=>∃ k,z = .bl k /\
  (if k = true then tc σ H3 fun w' H4=>r' y w' H4 Q else Q (.bl false) H3)
theorem jb8 {op op':CmpOp} {r r':R2} (ho:OpR X (compareOp op) r) (ho':OpR X (compareOp op') r') (ha:PE X a ta) (hb:PE X b tb) (hc:PE X c tc)
    (hm:lastMarks [op,op'] [b,c] = false:=by with_unfolding_all rfl):PE X (.Compare a [op,op'] [b,c] pos) (jig r r' ta tb tc):=by
  intro pins s σ H Q I h
  refine Compare_chain (thn (ha pins s σ H _ I h) fun v s1 ⟨x,H1,I1,r1,q1⟩=>chain_link (thn (hb pins s1 σ H1 _ I1 q1) fun u s2 ⟨y,H2,I2,r2,q2⟩ =>
    thn (ho pins s2 σ H2 x y v u _ I2 r1 r2 q2) fun d s3 zz=>?_)) hm
  obtain ⟨z,H3,I3,r3,k,e,q3⟩:=zz
  subst e
  cases r3
  refine wpAny_truthy_bool ?_
  cases k with
  | false=>exact ite_ff ⟨.bl false,H3,I3,rfl,q3⟩
  | true=>exact ite_tt (chain_last (thn (hc pins s3 σ H3 _ I3 q3) fun w' s4 ⟨z',H4,I4,r4,q4⟩=>ho' pins s4 σ H4 y z' u w' Q I4 r2 r4 q4))
theorem jdG {op op':CmpOp} {r r':R2} (ho:OpR X (compareOp op) r) (ho':OpR X (compareOp op') r') (ha:PE X a ta) (hb:PE X b tb) (hc:PE X c tc)
    (hm:lastMarks [op,op'] [b,c] = false:=by with_unfolding_all rfl):PT X (.Compare a [op,op'] [b,c] pos) (tTest (jig r r' ta tb tc)):=by
  intro pins s σ H Q I h
  refine isTrue_chain (thn (ha pins s σ H _ I h) fun v s1 ⟨x,H1,I1,r1,q1⟩=>test_link (thn (hb pins s1 σ H1 _ I1 q1) fun u s2 ⟨y,H2,I2,r2,q2⟩ =>
    thn (ho pins s2 σ H2 x y v u _ I2 r1 r2 q2) fun d s3 zz=>?_)) hm
  obtain ⟨z,H3,I3,r3,k,e,q3⟩:=zz
  subst e
  cases r3
  refine wpAny_truthy_bool ?_
  cases k with
  | false =>
    obtain ⟨k',e',q'⟩:=q3
    cases e'
    exact ite_ff ⟨H3,I3,q'⟩
  | true =>
    refine ite_tt (test_last (thn (hc pins s3 σ H3 _ I3 q3) fun w' s4 ⟨z',H4,I4,r4,q4⟩=>thn (ho' pins s4 σ H4 y z' u w' _ I4 r2 r4 q4) fun d' s5 zz=>?_))
    obtain ⟨z2,H5,I5,r5,k2,e2,q5⟩:=zz
    subst e2
    cases r5
    exact wpAny_truthy_bool ⟨H5,I5,q5⟩
theorem jfM:(sizeLine:Nat) < 2 ^ 63:=by rw [sizeLine_eq]; decide
theorem j4:OpR X (binaryOp .Add) (fun x y H Q=>∃ i j,x = .str i /\ y = .str j /\ i.length + j.length <= sizeLine /\ Q (.str (i ++ j)) H):=by
  intro pins s σ H x y v u Q I rx ry h
  obtain ⟨i,j,rfl,rfl,hz,q⟩:=h
  obtain ⟨t,rfl⟩:=rx
  obtain ⟨t',rfl⟩:=ry
  exact add_str (fun t' tk=>⟨.str (i ++ j),H,I.tok _,⟨_,rfl⟩,q⟩) hz
theorem vals1 {x:V} {us:List Value} (r:Vals [x] us):∃ u,us = [u] /\ RelV x u:=by
  cases r with
  | cons r1 r2=>cases r2; exact ⟨_,rfl,r1⟩
theorem vals2 {x y:V} {us:List Value} (r:Vals [x,y] us):∃ u w',us = [u,w'] /\ RelV x u /\ RelV y w':=by
  cases r with
  | cons r1 r2 =>
    cases r2 with
    | cons r3 r4=>cases r4; exact ⟨_,_,rfl,r1,r3⟩
theorem jg4 (hc:X.calm = true):yx X (.builtin "max") (fun xs H Q=>∃ i j,xs = [.int i,.int j] /\ Q (.int (if j > i then j else i)) H):=by
  intro pins s σ H xs us Q I r h
  obtain ⟨i,j,rfl,q⟩:=h
  obtain ⟨u,w',rfl,⟨t,rfl⟩,⟨t',rfl⟩⟩:=vals2 r
  refine max_two_ints (I.ok.hd hc) fun h' tk k=>⟨_,H,I.kept k,?_,q⟩
  by_cases hj:j > i
  · rw [if_pos hj,if_pos hj]; exact ⟨_,rfl⟩
  · rw [if_neg hj,if_neg hj]; exact ⟨_,rfl⟩
theorem jdY (hc:X.calm = true):yx X (.builtin "min") (fun xs H Q=>∃ i j,xs = [.int i,.int j] /\ Q (.int (if j < i then j else i)) H):=by
  intro pins s σ H xs us Q I r h
  obtain ⟨i,j,rfl,q⟩:=h
  obtain ⟨u,w',rfl,⟨t,rfl⟩,⟨t',rfl⟩⟩:=vals2 r
  refine min_two_ints (I.ok.hd hc) fun h' tk k=>⟨_,H,I.kept k,?_,q⟩
  by_cases hj:j < i
  · rw [if_pos hj,if_pos hj]; exact ⟨_,rfl⟩
  · rw [if_neg hj,if_neg hj]; exact ⟨_,rfl⟩
theorem jg3:yx X (.type "int") (fun xs H Q=>(∃ i,xs = [.int i] /\ Q (.int i) H) ∨ ∃ k,xs = [.bl k] /\ Q (.int (if k then 1 else 0)) H):=by
  intro pins s σ H xs us Q I r h
  rcases h with ⟨i,rfl,q⟩ | ⟨k,rfl,q⟩
  · obtain ⟨u,rfl,t,rfl⟩:=vals1 r
    exact call_int_int ⟨.int i,H,I,⟨_,rfl⟩,q⟩
  · obtain ⟨u,rfl,r1⟩:=vals1 r
    cases r1
    exact call_int_bool ⟨.int (if k then 1 else 0),H,I.tok _,⟨_,rfl⟩,q⟩
theorem JT:yx X (.type "str") (fun xs H Q=>∃ i,xs = [.int i] /\ i.natAbs.log2 < 1920 /\ Q (.str (toString i)) H):=by
  intro pins s σ H xs us Q I r h
  obtain ⟨i,rfl,hz,q⟩:=h
  obtain ⟨u,rfl,t,rfl⟩:=vals1 r
  exact PySem.P.str_of_int hz ⟨.str _,H,I.tok _,⟨_,rfl⟩,q⟩
theorem jeC:yx X (.builtin "divmod") (fun xs H Q=>∃ i j,xs = [.int i,.int j] /\ CDiv i j /\ ∀ p,H p = none->Q (.ref p) (upd H p (.tup [.int (i / j),.int (i % j)]))):=by
  intro pins s σ H xs us Q I r h
  obtain ⟨i,j,rfl,⟨h1,h2⟩,q⟩:=h
  obtain ⟨u,w',rfl,⟨t,rfl⟩,⟨t',rfl⟩⟩:=vals2 r
  refine divmod_int (by omega) ?_ (.inl (PyProof.noPylong_small (by omega)))
  rw [Int.fdiv_eq_ediv_of_nonneg i (by omega),Int.fmod_eq_emod_of_nonneg i (by omega)]
  have hn:H s.heap.objs.size = none:=I.hok.fresh (Nat.le_refl _)
  refine ⟨.ref s.heap.objs.size,_,?_,rfl,q _ hn⟩
  refine I.laid (fun b o e=>Heap.get?_push_of_some _ e) (Nat.le_refl _) ⟨by simp only [List.length_cons,List.length_nil]; rw [sizeLine_eq]; decide,[.int (i / j) s.toks,.int (i % j) (s.toks + 1)],.cons ⟨_,rfl⟩ (.cons ⟨_,rfl⟩ .nil),?_⟩
  exact ⟨_,Heap.get?_push_size s.heap rfl,rfl,0,rfl⟩
end
end L2
namespace L2
open PySem PySem.Spec PyProof.Rows
structure ObjM (h:Heap) (x dx C:Addr) (mA:Str->Option Value):Prop where
  obj:h.get? x = some (PySem.W.instObj C dx)
  ns:h.Ns1 dx mA
  ne:dx ≠ x
theorem jkH {h:Heap} {dx:Addr} {mA:Str->Option Value} (n:h.Ns1 dx mA):∃ od,h.get? dx = some od /\ ∀ name,PySem.W.lookIn name od = some (mA name):=by
  obtain ⟨o,es,ep,ho,hd,hk,_,hm⟩:=n
  refine ⟨o,ho,fun name=>?_⟩
  have e:=hm name
  unfold nsFind findBy at e
  rw [<- Array.find?_toList] at e
  unfold PySem.W.lookIn
  rw [hd]
  dsimp only
  split
  · rename_i y q
    rw [q] at e
    exact congrArg some e
  · rename_i q
    rw [q] at e
    have a:es.toList.any (·.refKey) = false:=by
      rw [List.any_eq_false]
      intro y hy
      obtain ⟨z,t,hkey⟩:=hk y (Array.mem_toList_iff.mp hy)
      simp [DictEntry.refKey,hkey]
    have a':¬ es.toList.any (·.refKey) = true:=by rw [a]; exact Bool.false_ne_true
    rw [if_neg a']
    exact congrArg some e
theorem ObjM.look {h:Heap} {x dx C:Addr} {mA:Str->Option Value} (I:ObjM h x dx C mA):∃ od,PySem.W.InstAt h x (PySem.W.instObj C dx) C (some od) /\ ∀ name,PySem.W.lookIn name od = some (mA name) :=
  let ⟨od,ho,hl⟩:=jkH I.ns
  ⟨od,⟨I.obj,rfl,rfl,ho⟩,hl⟩
section
variable {prog:Program} {w:World} {A:Around} {E:Value->Shared->Prop} {s:Shared} {K:PySem.W.Frag} {x dx C f:Addr} {mA:Str->Option Value} {name:Str} {v:Value}
theorem get_map {expr:Bool} {Q:Value->Shared->Prop} (X:K.In s.heap) (I:ObjM s.heap x dx C mA) (hg:PySem.W.plainGet K C name = true) (hh:PySem.W.hasDictIn K C = true)
    (ha:PySem.W.findIn K (.ref C) name = some none) (hv:mA name = some v) (hv':PySem.W.handedIn v = true) (h:Q v { s with toks:=s.toks + 1 }) :
    wpAny (model prog w) A (getAttr (.ref x) name expr) Q E s:=by
  obtain ⟨od,J,hl⟩:=I.look
  exact PySem.W.get_value X J (PySem.W.plainGet_of hg).1 (PySem.W.findObj_own hh ha rfl (by rw [hl,hv])) hv' h
theorem get_meth {pl:Sem Bool} {Q:Value × List Value->Shared->Prop} (X:K.In s.heap) (I:ObjM s.heap x dx C mA) (hg:PySem.W.plainGet K C name = true)
    (hf:PySem.W.findIn K (.ref C) name = some (some (.ref f))) (ht:PySem.W.isFn K (.ref f) = true) (hv:mA name = none) (h:Q (.ref f,[.ref x]) s) :
    wpAny (model prog w) A (getMethod (.ref x) name pl) Q E s:=by
  obtain ⟨od,J,hl⟩:=I.look
  exact PySem.W.method_fn X J (PySem.W.plainGet_of hg).1 (PySem.W.plainGet_of hg).2 hf (beq_iff_eq.mp ht) (by show (PySem.W.lookIn name od).map (·.isSome) = some false; rw [hl,hv]; rfl) h
theorem set_map {ns:List Str} {Q:Unit->Shared->Prop} (X:K.In s.heap) (I:ObjM s.heap x dx C mA)
    (hs:PySem.W.findIn K (.ref C) "__setattr__" = some (some (.builtin "object.__setattr__"))) (hp:PySem.W.plainOver K C = true) (ht:PySem.W.takerIn K C name = some none) (hh:PySem.W.hasDictIn K C = true)
    (hw:PySem.Within mA ns) (hsz:ns.length <= sizeLine)
    (h:∀ h',ObjM h' x dx C (fun y=>if y = name then some v else mA y)->Heap.SameBut dx s.heap h'->Q () { s with heap:=h',toks:=s.toks + 2 }) :
    wpAny (model prog w) A (setAttr (.ref x) name v) Q E s:=by
  obtain ⟨od,J,hl⟩:=I.look
  refine PySem.W.set_plain X J hs (PySem.W.osa_open (s:={ s with toks:=s.toks + 1 }) (r:=none) X J hp ht fun b=>?_)
  obtain ⟨cd,hc,hd'⟩:=PySem.W.any_some hh
  have hx:s.heap.get? x = some ⟨.ref C,some dx,.plain,#[]⟩:=I.obj
  refine wpAny_bind (wpAny_pure (wpAny_bind (wpAny_bind (wpAny_loadPart hx (wpAny_bind (PySem.W.Looks.here (s:={ s with toks:=s.toks + 1 }) (PySem.W.looks_clsIn X hc) ?_))))))
  rw [hd']
  refine wpAny_pure (a:=some dx) (wpAny_bind (wpAny_pure (wpAny_bind ?_)))
  refine wpAny_nsSet1 (s:={ s with toks:=s.toks + 1 }) I.ns fun h' hn2 hs2=>?_
  obtain ⟨oD,esD,epD,hoD,hdD,hcD⟩:=hn2.count (PySem.Within.cons name v hw)
  refine wpAny_bind (wpAny_lookBehind hoD (by rw [hdD]; exact pastItsLine_dict (Nat.le_trans hcD (by rw [List.length_cons]; omega))) ?_)
  exact wpAny_pure (h _ ⟨(hs2.2 _ (Ne.symm I.ne)).trans I.obj,hn2,I.ne⟩ hs2)
theorem make_map {R:Result->Shared->Prop} {vs:List Value} {kw:List (Str × Value)} (X:K.In s.heap) (hm:PySem.W.makesIn K C = true)
    (hi:PySem.W.findIn K (.ref C) "__init__" = some (some (.ref f))) (hf:PySem.W.typeIn K (.ref f) = some (.type "function"))
    (h:codeAny (model prog w) (A.under (.builtin "type.__call__" ⟨.ref C :: vs,kw⟩)) (.call (.ref f) ⟨.ref (s.heap.objs.size + 1) :: vs,kw⟩) (PySem.W.InitBack (s.heap.objs.size + 1) R)
      { s with heap:=(s.heap.push PySem.W.emptyDict).push (PySem.W.instObj C s.heap.objs.size) }) :
    codeAny (model prog w) A (.call (.ref C) ⟨vs,kw⟩) R s:=by
  obtain ⟨hh,g,d,t,os⟩:=s
  exact PySem.W.make_core (PySem.W.makes_of X hm) (PySem.W.looks_findIn X hi) (fun self=>PySem.W.bind_fn X self hf) (.inl rfl) h
theorem jkI {R:Result->Shared->Prop} (X:K.In s.heap) (hm:PySem.W.makesIn K C = true)
    (hi:PySem.W.findIn K (.ref C) "__init__" = some (some (.builtin "object.__init__")))
    (hb:∀ self,PySem.W.Looks (model prog w) s.heap (bindSpecial (.builtin "object.__init__") self) (.builtin "object.__init__",[self]))
    (h:codeAny (model prog w) (A.under (.builtin "type.__call__" ⟨[.ref C],[]⟩)) (.call (.builtin "object.__init__") ⟨[.ref (s.heap.objs.size + 1)],[]⟩) (PySem.W.InitBack (s.heap.objs.size + 1) R)
      { s with heap:=(s.heap.push PySem.W.emptyDict).push (PySem.W.instObj C s.heap.objs.size) }) :
    codeAny (model prog w) A (.call (.ref C) ⟨[],[]⟩) R s:=by
  obtain ⟨hh,g,d,t,os⟩:=s
  exact PySem.W.make_core (PySem.W.makes_of X hm) (PySem.W.looks_findIn X hi) hb (.inr ⟨rfl,rfl⟩) h
end
noncomputable def putF (f:Str) (v:V):List (Str × V)->List (Str × V)
  | []=>[(f,v)]
  | (g,x) :: r=>if g = f then (g,v) :: r else (g,x) :: putF f v r
theorem zA (f g:Str) (v:V):∀ fs:List (Str × V),(putF f v fs).lookup g = if g = f then some v else fs.lookup g
  | []=>by
    show List.lookup g [(f,v)] = _
    by_cases h:g = f
    · have hb:(g == f) = true:=beq_iff_eq.mpr h
      simp only [List.lookup,hb,if_pos h]
    · have hb:(g == f) = false:=beq_eq_false_iff_ne.mpr h
      simp only [List.lookup,hb,if_neg h]
  | (k,x) :: r=>by
    have ih:=zA f g v r
    rw [show putF f v ((k,x) :: r) = (if k = f then (k,v) :: r else (k,x) :: putF f v r) from rfl]
    by_cases hk:k = f
    · rw [if_pos hk]
      by_cases h:g = k
      · have hb:(g == k) = true:=beq_iff_eq.mpr h
        simp only [List.lookup,hb,if_pos (h.trans hk)]
      · have hb:(g == k) = false:=beq_eq_false_iff_ne.mpr h
        simp only [List.lookup,hb,if_neg (fun e:g = f=>h (e.trans hk.symm))]
    · rw [if_neg hk]
      by_cases h:g = k
      · have hb:(g == k) = true:=beq_iff_eq.mpr h
        simp only [List.lookup,hb,if_neg (fun e:g = f=>hk (h.symm.trans e))]
      · have hb:(g == k) = false:=beq_eq_false_iff_ne.mpr h
        simp only [List.lookup,hb]
        exact ih
theorem jd4 (f:Str) (v:V):∀ fs:List (Str × V),f ∈ (putF f v fs).map (·.1) /\ ∀ g,g ∈ fs.map (·.1)->g ∈ (putF f v fs).map (·.1)
  | []=>⟨by simp [putF],fun g h=>by simp at h⟩
  | (k,x) :: r=>by
    obtain ⟨i1,i2⟩:=jd4 f v r
    rw [show putF f v ((k,x) :: r) = (if k = f then (k,v) :: r else (k,x) :: putF f v r) from rfl]
    by_cases hk:k = f
    · rw [if_pos hk]
      subst hk
      exact ⟨by simp,fun g h=>by simpa using h⟩
    · rw [if_neg hk]
      refine ⟨?_,fun g h=>?_⟩
      · rw [List.map_cons]
        exact List.mem_cons_of_mem _ i1
      · rw [List.map_cons] at h ⊢
        rcases List.mem_cons.mp h with e | e
        · exact List.mem_cons.mpr (.inl e)
        · exact List.mem_cons_of_mem _ (i2 g e)
theorem zy (f:Str) (v:V):∀ fs:List (Str × V),(putF f v fs).length <= fs.length + 1
  | []=>by simp [putF]
  | (k,x) :: r=>by
    have ih:=zy f v r
    rw [show putF f v ((k,x) :: r) = (if k = f then (k,v) :: r else (k,x) :: putF f v r) from rfl]
    by_cases hk:k = f
    · rw [if_pos hk,List.length_cons,List.length_cons]; omega
    · rw [if_neg hk,List.length_cons,List.length_cons]; omega
theorem RelO.some_of {v:V} {o:Option Value} (r:RelO (some v) o):∃ u,o = some u /\ RelV v u:=by
  cases o with
  | none=>exact (show False from r).elim
  | some u=>exact ⟨u,rfl,r⟩
theorem RelO.none_of {o:Option Value} (r:RelO none o):o = none:=by
  cases o with
  | none=>rfl
  | some u=>exact (show False from r).elim
theorem jkz {v:V} {u:Value} (r:RelV v u):PySem.W.handedIn u = true:=by
  cases v with
  | non=>cases (show u = Value.none from r); rfl
  | bl b=>cases (show u = Value.bool b from r); rfl
  | int i=>obtain ⟨t,e⟩:=(show ∃ t,u = Value.int i t from r); cases e; rfl
  | str x=>obtain ⟨t,e⟩:=(show ∃ t,u = Value.str x t from r); cases e; rfl
  | byt b=>obtain ⟨t,e⟩:=(show ∃ t,u = Value.bytes b t from r); cases e; rfl
  | flt b=>obtain ⟨t,e⟩:=(show ∃ t,u = Value.float b t from r); cases e; rfl
  | ref a=>cases (show u = Value.ref a from r); rfl
  | ty n=>cases (show u = Value.type n from r); rfl
section
variable {P:Program} {w:World} {H H':Hp} {h h':Heap} {a C dx:Addr} {fs fs':List (Str × V)}
theorem je8 (hok:HOk P w H h) (e:H a = some (.ins C dx fs)):∃ mA,ObjM h a dx C mA /\ (∀ f,RelO (fs.lookup f) (mA f)) /\ PySem.Within mA (fs.map (·.1)) /\ fs.length <= 1000 /\ H dx = some (.own a):=by
  obtain ⟨d,z,ne,ob,mA,n,r,q⟩:=(show qQ P w H h a (.ins C dx fs) from hok a _ e)
  exact ⟨mA,⟨ob,n,ne⟩,r,q,z,d⟩
end
structure Cls (K:PySem.W.Frag) (C:Addr):Prop where
  pg:PySem.W.plainGet K C Str.empty = true
  hd:PySem.W.hasDictIn K C = true
  po:PySem.W.plainOver K C = true
  sa:PySem.W.findIn K (.ref C) "__setattr__" = some (some (.builtin "object.__setattr__"))
theorem Cls.get {K:PySem.W.Frag} {C:Addr} (c:Cls K C) (f:Str):PySem.W.plainGet K C f = true:=c.pg
noncomputable def jaQ (K:PySem.W.Frag) (C:Addr) (f:Str):Prop:=PySem.W.findIn K (.ref C) f = some none
theorem jaQ.taker {K:PySem.W.Frag} {C:Addr} {f:Str} (n:jaQ K C f):PySem.W.takerIn K C f = some none:=by
  unfold PySem.W.takerIn
  rw [show PySem.W.findIn K (.ref C) f = some none from n]
  rfl
structure Meth (K:PySem.W.Frag) (C:Addr) (m:Str) (f:Addr):Prop where
  at_:PySem.W.findIn K (.ref C) m = some (some (.ref f))
  fn:PySem.W.isFn K (.ref f) = true
  kp:PySem.W.keepIn K (.ref f) = true
section
variable {X:Cx} {pins:List (Addr × Obj)} {σ:St} {H:Hp} {s:Shared} {a C dx:Addr} {fs:List (Str × V)} {f:Str} {v:V} {A:Around} {E:Value->Shared->Prop}
theorem jjq {b:Bool} {Q:Value->Shared->Prop} (I:Inv X pins σ H s) (e:H a = some (.ins C dx fs)) (c:Cls X.K C) (n:jaQ X.K C f) (l:fs.lookup f = some v)
    (h:∀ u s',Inv X pins σ H s'->RelV v u->Q u s'):wpAny (model X.prog X.w) A (getAttr (.ref a) f b) Q E s:=by
  obtain ⟨mA,O,r,_,_,_⟩:=je8 I.hok e
  obtain ⟨u,hu,ru⟩:=RelO.some_of (v:=v) (o:=mA f) (by rw [<- l]; exact r f)
  exact get_map I.kIn O (c.get f) c.hd n hu (jkz ru) (h u _ (I.tok _) ru)
theorem jfI {m:Str} {g:Addr} {pl:Sem Bool} {Q:Value × List Value->Shared->Prop} (I:Inv X pins σ H s) (e:H a = some (.ins C dx fs)) (c:Cls X.K C) (k:Meth X.K C m g) (l:fs.lookup m = none)
    (h:Q (.ref g,[.ref a]) s):wpAny (model X.prog X.w) A (getMethod (.ref a) m pl) Q E s:=by
  obtain ⟨mA,O,r,_,_,_⟩:=je8 I.hok e
  have hn:mA m = none:=RelO.none_of (by rw [<- l]; exact r m)
  exact get_meth I.kIn O (c.get m) k.at_ k.fn hn h
theorem jjM {y:V} {u:Value} {Q:Unit->Shared->Prop} (I:Inv X pins σ H s) (e:H a = some (.ins C dx fs)) (c:Cls X.K C) (n:jaQ X.K C f) (hl:fs.length < 1000) (ry:RelV y u)
    (h:∀ s',Inv X pins σ (upd H a (.ins C dx (putF f y fs))) s'->Q () s'):wpAny (model X.prog X.w) A (setAttr (.ref a) f u) Q E s:=by
  obtain ⟨mA,O,r,wi,_,ho⟩:=je8 I.hok e
  have hz:(fs.map (·.1)).length <= sizeLine:=by rw [List.length_map,sizeLine_eq]; omega
  refine set_map I.kIn O c.sa c.po n.taker c.hd wi hz fun h' O' sb=>h _ ?_
  have hd:∃ o,h'.get? dx = some o:=let ⟨o,_,_,e',_⟩:=O'.ns; ⟨o,e'⟩
  refine I.write (x:=a) (e:=dx) (by rw [e]; exact True.intro) (.inr ho) (fun b q hb z=>(sb.2 b hb).trans z) hd ?_
  refine ⟨by rw [jO O.ne]; exact ho,?_,O.ne,O'.obj,_,O'.ns,fun g=>?_,fun g hg=>?_⟩
  · have:=zy f y fs; omega
  · show RelO ((putF f y fs).lookup g) (if g = f then some u else mA g)
    rw [zA]
    by_cases q:g = f
    · rw [if_pos q,if_pos q]; exact ry
    · rw [if_neg q,if_neg q]; exact r g
  · by_cases q:g = f
    · rw [q]; exact (jd4 f y fs).1
    · refine (jd4 f y fs).2 g (wi g fun z=>hg ?_)
      show (if g = f then some u else mA g) = none
      rw [if_neg q]; exact z
theorem Inv.made (I:Inv X pins σ H s):Inv X pins σ (upd (upd H s.heap.objs.size (.own (s.heap.objs.size + 1))) (s.heap.objs.size + 1) (.ins C s.heap.objs.size []))
    { s with heap:=(s.heap.push PySem.W.emptyDict).push (PySem.W.instObj C s.heap.objs.size) }:=by
  have e1:(s.heap.push PySem.W.emptyDict).get? s.heap.objs.size = some PySem.W.emptyDict:=Heap.get?_push_size s.heap rfl
  have e2:((s.heap.push PySem.W.emptyDict).push (PySem.W.instObj C s.heap.objs.size)).get? (s.heap.objs.size + 1) = some (PySem.W.instObj C s.heap.objs.size):=by
    have:=Heap.get?_push_size (s.heap.push PySem.W.emptyDict) (o:=PySem.W.instObj C s.heap.objs.size) rfl
    rwa [Heap.size_push] at this
  have e3:(s.heap.push PySem.W.emptyDict).Ns s.heap.objs.size (fun _=>none):=⟨PySem.W.emptyDict,#[],_,e1,rfl,(fun e he=>absurd he (by simp)),fun _=>rfl⟩
  have I1:=I.laid (a:=s.heap.objs.size) (o:=.own (s.heap.objs.size + 1)) (h':=s.heap.push PySem.W.emptyDict) (t':=s.toks) (fun b u q=>Heap.get?_push_of_some _ q) (Nat.le_refl _) ⟨_,e1⟩
  refine I1.laid (a:=s.heap.objs.size + 1) (o:=.ins C s.heap.objs.size []) (t':=s.toks) (fun b u q=>Heap.get?_push_of_some _ q) (Nat.le_of_eq (Heap.size_push _ _)) ?_
  have ne:s.heap.objs.size ≠ s.heap.objs.size + 1:=Nat.ne_of_lt (Nat.lt_succ_self _)
  refine ⟨by rw [jO ne,jq],Nat.zero_le _,ne,e2,fun _=>none,(Heap.Ns1.of_empty e3).at fun o q=>Heap.get?_push_of_some _ q,fun _=>True.intro,fun y hy=>absurd rfl hy⟩
theorem attr_of {prog:Program} {w:World} {env:Env} {e:Expr} {f:Str} {pos:Pos} {s:Shared} {Q:Value->Shared->Prop} (hb:attributeBase e f env (eval e env) = eval e env)
    (h:wpAny (model prog w) A (eval e env) (fun o s₁=>wpAny (model prog w) A (getAttr o f true) Q E s₁) E s):wpAny (model prog w) A (eval (.Attribute e f pos) env) Q E s :=
  Attribute_any_ h (by rw [arm_eval_Attribute,hb])
end
noncomputable def tFld (K:PySem.W.Frag) (ta:TE) (f:Str):TE:=fun σ H Q=>ta σ H fun x H1=>∃ a C dx fs v,x = .ref a /\ H1 a = some (.ins C dx fs) /\ Cls K C /\ jaQ K C f /\ fs.lookup f = some v /\ Q v H1
noncomputable def sFld (K:PySem.W.Frag) (ta tv:TE) (f:Str):TS:=fun D σ H=>tv σ H fun y H1=>ta σ H1 fun x H2=>∃ a C dx fs,x = .ref a /\ H2 a = some (.ins C dx fs) /\ Cls K C /\ jaQ K C f /\ fs.length < 1000 /\
  D.nx σ (upd H2 a (.ins C dx (putF f y fs)))
section
variable {X:Cx} {o e value:Expr} {f:Str} {pos pos' tpos:Pos} {ta tv:TE}
theorem Jp (he:PE X e ta) (hb:attributeBase e f X.env (eval e X.env) = eval e X.env):PE X (.Attribute e f pos) (tFld X.K ta f):=by
  intro pins s σ H Q I h
  refine attr_of hb (thn (he pins s σ H _ I h) fun u s1 zz=>?_)
  obtain ⟨x,H1,I1,rx,a,C,dx,fs,v,ex,ea,c,n,l,q⟩:=zz
  subst ex
  obtain rfl:u = Value.ref a:=rx
  exact jjq I1 ea c n l fun u' s2 I2 ru=>⟨v,H1,I2,ru,q⟩
theorem YT (ha:PE X o ta) (hv:PE X value tv) (hs:swapsWith value (some (.Attribute o f pos')) pos.line X.env = pure false):PS X (.Assign [.Attribute o f pos'] value pos) (sFld X.K ta tv f):=by
  intro pins s σ H D I h
  refine plainObj_wpAny_Assign_Attribute (thn (hv pins s σ H _ I h) fun u s1 ⟨y,H1,I1,ry,q⟩=>thn (ha pins s1 σ H1 _ I1 q) fun ov s2 zz=>?_) hs
  obtain ⟨x,H2,I2,rx,a,C,dx,fs,ex,ea,c,n,l,q2⟩:=zz
  subst ex
  obtain rfl:ov = Value.ref a:=rx
  exact jjM I2 ea c n l ry fun s3 I3=>⟨σ,_,I3,q2⟩
end
section
variable {X:Cx} {pins:List (Addr × Obj)} {σ:St} {H:Hp} {s:Shared} {A:Around} {E:Value->Shared->Prop} {Q:Value->Shared->Prop} {c:Value} {b:Bool}
inductive TyOf (K:PySem.W.Frag) (H:Hp):V->Value->Prop where
  | non:TyOf K H .non (.type "NoneType")
  | bl (x:Bool):TyOf K H (.bl x) (.type "bool")
  | int (i:Int):TyOf K H (.int i) (.type "int")
  | str (x:Str):TyOf K H (.str x) (.type "str")
  | flt (x:UInt64):TyOf K H (.flt x) (.type "float")
  | lst {a:Addr} {xs:List V} (e:H a = some (.lst xs)):TyOf K H (.ref a) (.type "list")
  | frz {a:Addr} {o:Obj} {xs:List V} (e:H a = some (.frz o (.lst xs))):TyOf K H (.ref a) (.type "list")
  | tup {a:Addr} {xs:List V} (e:H a = some (.tup xs)):TyOf K H (.ref a) (.type "tuple")
  | dK {a:Addr} {kvs:List (Key × V)} (e:H a = some (.dK kvs)):TyOf K H (.ref a) (.type "dict")
  | dT {a:Addr} {kvs:List (List Key × V)} (e:H a = some (.dT kvs)):TyOf K H (.ref a) (.type "dict")
  | ins {a C dx:Addr} {fs:List (Str × V)} (e:H a = some (.ins C dx fs)) (cl:Cls K C) (ha:PySem.W.findIn K (.ref C) "__class__" = some (some (.builtin "object.__class__")))
      (hn:PySem.W.specialIn K (.builtin "object.__class__") "__get__" = some (some (.builtin "getset_descriptor.__get__"))) (htk:PySem.W.takesIn K (.builtin "object.__class__") = some true)
      (hm:PySem.W.mroIn K C (.type "object") = some true):TyOf K H (.ref a) (.ref C)
theorem jha {x:V} {u t:Value} (I:Inv X pins σ H s) (rx:RelV x u) (ty:TyOf X.K H x t) (e:PySem.W.kitOne X.K t c = some b) (h:∀ tk,Q (.bool b) { s with toks:=tk }) :
    wpAny (model X.prog X.w) A (call (.builtin "isinstance") [u,c]) Q E s:=by
  cases ty with
  | non=>cases (show u = Value.none from rx); exact PySem.W.kia_one PySem.W.kitx_none I.kIn True.intro e (fun z=>nomatch z) h
  | bl y=>cases (show u = Value.bool y from rx); exact PySem.W.kia_one PySem.W.kitx_bool I.kIn True.intro e (fun z=>nomatch z) h
  | int i=>obtain ⟨t,q⟩:=(show ∃ t,u = Value.int i t from rx); cases q; exact PySem.W.kia_one PySem.W.kitx_int I.kIn True.intro e (fun z=>nomatch z) h
  | str y=>obtain ⟨t,q⟩:=(show ∃ t,u = Value.str y t from rx); cases q; exact PySem.W.kia_one PySem.W.kitx_str I.kIn True.intro e (fun z=>nomatch z) h
  | flt y=>obtain ⟨t,q⟩:=(show ∃ t,u = Value.float y t from rx); cases q; exact PySem.W.kia_one PySem.W.kitx_float I.kIn True.intro e (fun z=>nomatch z) h
  | @lst a xs ea =>
    cases (show u = Value.ref a from rx)
    obtain ⟨_,_,n,_,h1⟩:=(show qQ X.prog X.w H s.heap a (.lst xs) from I.hok a _ ea)
    exact PySem.W.kia_one PySem.W.kitx_list I.kIn ⟨_,h1,rfl⟩ e (fun z=>nomatch z) h
  | @frz a ob xs ea =>
    cases (show u = Value.ref a from rx)
    obtain ⟨_,_,_,n,_,h1⟩:=(show qQ X.prog X.w H s.heap a (.frz ob (.lst xs)) from I.hok a _ ea)
    exact PySem.W.kia_one PySem.W.kitx_list I.kIn ⟨_,h1,rfl⟩ e (fun z=>nomatch z) h
  | @tup a xs ea =>
    cases (show u = Value.ref a from rx)
    obtain ⟨_,_,_,p⟩:=(show qQ X.prog X.w H s.heap a (.tup xs) from I.hok a _ ea)
    obtain ⟨o,h1,h2,_⟩:=p
    exact PySem.W.kia_one PySem.W.kitx_tuple I.kIn ⟨o,h1,h2⟩ e (fun z=>nomatch z) h
  | @dK a kvs ea =>
    cases (show u = Value.ref a from rx)
    obtain ⟨_,_,vs,_,p⟩:=(show qQ X.prog X.w H s.heap a (.dK kvs) from I.hok a _ ea)
    obtain ⟨o,es,ep,h1,h2,_⟩:=p
    exact PySem.W.kia_one PySem.W.kitx_dict I.kIn ⟨o,h1,h2.1⟩ e (fun z=>nomatch z) h
  | @dT a kvs ea =>
    cases (show u = Value.ref a from rx)
    obtain ⟨_,_,xs,_,o,es,ep,h1,h2,_⟩:=(show qQ X.prog X.w H s.heap a (.dT kvs) from I.hok a _ ea)
    exact PySem.W.kia_one PySem.W.kitx_dict I.kIn ⟨o,h1,h2.1⟩ e (fun z=>nomatch z) h
  | @ins a C dx fs ea cl ha hn htk hm =>
    cases (show u = Value.ref a from rx)
    obtain ⟨mA,O,_⟩:=je8 I.hok ea
    obtain ⟨od,J,_⟩:=O.look
    exact PySem.W.kia_one (PySem.W.kitx_own (cl.get _) cl.hd ha hn htk hm) I.kIn J e (fun z=>nomatch z) h
end
end L2
namespace L2
open PySem PySem.Spec PyProof.Rows
structure Room (k:Nat) (A:Around):Prop where
  hd:A.handled = none
  dp:A.depth + 3 * k + 5 < recursionLimit
  un:A.units + 16 * k + 200 < cLine
  gd:A.guards = some []
theorem Room.mono {j k:Nat} {A:Around} (r:Room k A) (h:j <= k):Room j A:=⟨r.hd,by have:=r.dp; omega,by have:=r.un; omega,r.gd⟩
theorem Room.deeper {k:Nat} {A:Around} (r:Room (k + 1) A) (env:Env):Room k (A.deeper env) :=
  ⟨r.hd,by have:=r.dp; show A.depth + 1 + 3 * k + 5 < _; omega,by have:=r.un; show A.units + 3 + 16 * k + 200 < _; omega,r.gd⟩
theorem jju {A:Around} {C:Addr} {us:List Value} {kw:List (Str × Value)}:(A.under (.builtin "type.__call__" ⟨.ref C :: us,kw⟩)).depth = A.depth + 1:=by
  first | rfl | simp [Around.under,Code.weight,Code.isCreation,Code.isGuard,Code.isCaller,Code.frames,Code.isFrame,guardIds]
theorem jjv {A:Around} {C:Addr} {us:List Value} {kw:List (Str × Value)}:(A.under (.builtin "type.__call__" ⟨.ref C :: us,kw⟩)).units = A.units + 1:=by
  first | rfl | simp [Around.under,Code.cUnits,Code.frames,Code.isFrame]
theorem Room.make {k:Nat} {A:Around} (r:Room (k + 1) A) (C:Addr) (us:List Value) (kw:List (Str × Value)):Room k (A.under (.builtin "type.__call__" ⟨.ref C :: us,kw⟩)) :=
  ⟨r.hd,by have:=r.dp; rw [jju]; omega,by have:=r.un; rw [jjv]; omega,by simp [Around.under,r.gd,Code.guards,Code.isGuard,guardIds,pushGuards]⟩
theorem Room.depth {k:Nat} {A:Around} (r:Room k A):A.depth < recursionLimit:=by have:=r.dp; omega
theorem Room.units {k:Nat} {A:Around} (r:Room k A):A.units + 64 < cLine:=by have:=r.un; omega
theorem Room.jjY {k:Nat} {A:Around} (r:Room k A):A.units < cLine:=by have:=r.un; omega
noncomputable def tNil:TA:=fun _ H Q=>Q [] H
noncomputable def jdM (ta:TE) (tr:TA):TA:=fun σ H Q=>ta σ H fun x H1=>tr σ H1 fun xs H2=>Q (x :: xs) H2
section
variable {X:Cx} {e:Expr} {es:List Expr} {te:TE} {t:TA} {pos:Pos}
theorem ji:PA X [] tNil:=fun _ _ _ _ H Q I h=>Calls.spliced_nil ⟨[],H,I,.nil,h⟩
theorem pa_cons (ha:PE X e te) (hr:PA X es t) (hs:starEach (e :: es) X.env = (false,eval e X.env) :: starEach es X.env:=by rfl):PA X (e :: es) (jdM te t):=by
  intro pos pins s σ H Q I h
  rw [hs]
  show wpAny _ _ (spliced ((false,eval e X.env) :: backTo pos (starEach es X.env))) _ _ s
  refine Calls.spliced_cons (thn (ha pins s σ H _ I h) fun u s1 zz=>?_)
  obtain ⟨x,H1,I1,r1,q1⟩:=zz
  exact thn (hr pos pins s1 σ H1 _ I1 q1) fun us s2 ⟨xs,H2,I2,r2,q2⟩=>⟨x :: xs,H2,I2,.cons r1 r2,q2⟩
noncomputable def tTup (t:TA):TE:=fun σ H Q=>t σ H fun xs H1=>xs.length <= sizeLine /\ ∀ p,H1 p = none->Q (.ref p) (upd H1 p (.tup xs))
noncomputable def tLst (t:TA):TE:=fun σ H Q=>t σ H fun xs H1=>xs.length <= sizeLine /\ ∀ p,H1 p = none->Q (.ref p) (upd H1 p (.lst xs))
theorem Qo {x1} (h:PA X es t):PE X (.Tuple es x1 pos) (tTup t):=by
  intro pins s σ H Q I hq
  refine wpAny_Tuple_spliced (thn (h pos pins s σ H _ I hq) fun us s1 ⟨xs,H1,I1,r,z,q⟩=>⟨by rw [<- r.length]; exact z,?_⟩)
  have hf:H1 s1.heap.objs.size = none:=I1.hok.fresh (Nat.le_refl _)
  refine ⟨.ref s1.heap.objs.size,upd H1 s1.heap.objs.size (.tup xs),I1.laid (t':=s1.toks) (fun b u e=>Heap.get?_push_of_some _ e) (Nat.le_refl _) ?_,rfl,q _ hf⟩
  exact ⟨z,us,r,⟨_,Heap.get?_push_size _ rfl,rfl,_,rfl⟩⟩
theorem JK (h:PA X es t):PE X (.List es pos) (tLst t):=by
  intro pins s σ H Q I hq
  refine wpAny_List_spliced (thn (h pos pins s σ H _ I hq) fun us s1 ⟨xs,H1,I1,r,z,q⟩=>⟨by rw [<- r.length]; exact z,?_⟩)
  have hf:H1 s1.heap.objs.size = none:=I1.hok.fresh (Nat.le_refl _)
  refine ⟨.ref s1.heap.objs.size,upd H1 s1.heap.objs.size (.lst xs),I1.laid (t':=s1.toks) (fun b u e=>Heap.get?_push_of_some _ e) (Nat.le_refl _) ?_,rfl,q _ hf⟩
  exact ⟨z,us,0,r,Heap.get?_push_size _ rfl⟩
end
noncomputable abbrev Sp:=List V->Hp->VK->XK->Prop
noncomputable abbrev CXT:=List Env->Hp->Shared->XK->Value->Shared->Prop
structure Env0 (P:Program) (w:World) (K:PySem.W.Frag) (mg:Str->Option Value) (base:Heap) (A:Around) (outer:List Env) (s:Shared) (H:Hp):Prop where
  frames:A.frames = some outer
  mod:Mod K mg base
  bs:∀ b o,base.get? b = some o->s.heap.get? b = some o /\ H b = none
  bsz:base.objs.size <= s.heap.objs.size
  funs:s.heap.FunFrames base outer
  frf:∀ b ∈ frs outer,H b = none
  hok:HOk P w H s.heap
  bare:AllBare s.gens
noncomputable def CE (outer:List Env) (P:Program) (w:World) (H:Hp) (s:Shared) (Q:VK) (u:Value) (s':Shared):Prop :=
  ∃ v H',s'.os = s.os /\ AllBare s'.gens /\ Un (frs outer) [] H H' s.heap s'.heap /\ HOk P w H' s'.heap /\ RelV v u /\ Q v H'
noncomputable def CR (CX:CXT) (outer:List Env) (P:Program) (w:World) (H:Hp) (s:Shared) (Q:VK) (E:XK) (r:Result) (s':Shared):Prop :=
  match r with
  | .ok (.ret u)=>CE outer P w H s Q u s'
  | .ok _=>False
  | .error e=>CX outer H s E e s'
structure FnOk (P:Program) (w:World) (K:PySem.W.Frag) (mg:Str->Option Value) (base:Heap) (CX:CXT) (k:Nat) (f:Addr) (fd:FuncData) (ps:List Str) (sp:Sp):Prop where
  len:∀ vs H Q E,sp vs H Q E->vs.length = ps.length
  run:∀ (A:Around) (outer:List Env) (s:Shared) (H:Hp) (args:Args) (us:List Value) (vs:List V) (Q:VK) (E:XK),Room k A->Env0 P w K mg base A outer s H->BindsTo s fd args (ps.zip us)->Vals vs us->sp vs H Q E ->
    codeAny (model P w) A (.call (.ref f) args) (CR CX outer P w H s Q E) s
theorem FnOk.mono {P:Program} {w:World} {K:PySem.W.Frag} {mg:Str->Option Value} {base:Heap} {CX:CXT} {j k:Nat} {f:Addr} {fd:FuncData} {ps:List Str} {sp:Sp} (F:FnOk P w K mg base CX j f fd ps sp) (h:j <= k) :
    FnOk P w K mg base CX k f fd ps sp:=⟨F.len,fun A outer s H args us vs Q E hr=>F.run A outer s H args us vs Q E (hr.mono h)⟩
theorem Env0.make {P:Program} {w:World} {K:PySem.W.Frag} {mg:Str->Option Value} {base:Heap} {A:Around} {outer:List Env} {s:Shared} {H:Hp} (e:Env0 P w K mg base A outer s H) (C:Addr) (us:List Value) (kw:List (Str × Value)) :
    Env0 P w K mg base (A.under (.builtin "type.__call__" ⟨.ref C :: us,kw⟩)) outer s H:=⟨by first | exact e.frames | (simpa [Around.under,Code.envs,Code.isFrame,pushEnvs] using e.frames),e.mod,e.bs,e.bsz,e.funs,e.frf,e.hok,e.bare⟩
section
variable {X:Cx} {pins:List (Addr × Obj)} {σ:St} {H:Hp} {s s':Shared}
theorem Inv.env0 (I:Inv X pins σ H s):Env0 X.prog X.w X.K X.mg X.base X.A X.stack s H :=
  ⟨I.ok.frames,I.ok.mod,I.bs,Nat.le_trans I.ok.bsz I.sz,I.stack,I.jki,I.hok,I.bare⟩
theorem Inv.after {Q:VK} {u:Value} (I:Inv X pins σ H s) (h:CE X.stack X.prog X.w H s Q u s'):EP X pins σ Q u s':=by
  obtain ⟨v,H',os,bare,un,hok,r,q⟩:=h
  obtain ⟨hh,g,d,t,os'⟩:=s'
  obtain rfl:os' = s.os:=os
  exact ⟨v,H',I.call (h':=hh) (g':=g) (d':=d) (t':=t) (ch:=[]) un hok bare (fun b z=>absurd z (by simp)),r,q⟩
end
noncomputable def tCall (sp:Sp) (dvs:List V) (E:XK) (t:TA):TE:=fun σ H Q=>t σ H fun vs H1=>sp (vs ++ dvs) H1 Q E
noncomputable def tMake (C:Addr) (sp:Sp) (dvs:List V) (E:XK) (t:TA):TE:=fun σ H Q=>t σ H fun vs H1=>∀ x dx,H1 x = none->H1 dx = none->dx ≠ x ->
  sp (.ref x :: (vs ++ dvs)) (upd (upd H1 dx (.own x)) x (.ins C dx [])) (fun v H2=>v = .non /\ Q (.ref x) H2) E
noncomputable def Binds (K:PySem.W.Frag) (fd:FuncData) (ps:List Str) (ds:List Value):Prop :=
  ∀ (s:Shared) (us:List Value),K.In s.heap->(us ++ ds).length = ps.length->BindsTo s fd ⟨us,[]⟩ (ps.zip (us ++ ds))
theorem Binds.all {K:PySem.W.Frag} {fd:FuncData} {ps:List Str} (h:∀ us:List Value,us.length = ps.length->bindArgs fd ⟨us,[]⟩ = pure (ps.zip us)):Binds K fd ps []:=fun s us _ hl=>by
  rw [List.append_nil] at hl ⊢
  exact .of_eq (h us hl)
noncomputable def jfn (CX:CXT) (X:Cx) (E:XK):Prop:=∀ (pins:List (Addr × Obj)) (σ:St) (H:Hp) (s:Shared) (e:Value) (s':Shared),Inv X pins σ H s->CX X.stack H s E e s'->X.xe e s'
section
variable {X:Cx} {CX:CXT} {k:Nat} {f C:Addr} {fd:FuncData} {ps:List Str} {sp:Sp} {dvs:List V} {ds:List Value} {E:XK} {x m:Str} {p pos apos:Pos} {e o:Expr} {es:List Expr} {ta:TE} {t:TA}
theorem jjI {pins:List (Addr × Obj)} {σ:St} {H:Hp} {s:Shared} {Q:VK} {us:List Value} {vs:List V} (F:FnOk X.prog X.w X.K X.mg X.base CX k f fd ps sp) (hr:Room k X.A) (hb:Binds X.K fd ps ds) (hd:Vals dvs ds) (hx:jfn CX X E)
    (I:Inv X pins σ H s) (r:Vals vs us) (h:sp (vs ++ dvs) H Q E):wpAny (model X.prog X.w) X.A (call (.ref f) us) (EP X pins σ Q) X.xe s:=by
  have r2:Vals (vs ++ dvs) (us ++ ds):=r.append hd
  have hl:(us ++ ds).length = ps.length:=by rw [<- r2.length]; exact F.len _ _ _ _ h
  refine wpAny_call (codeAny_mono (F.run X.A X.stack s H ⟨us,[]⟩ (us ++ ds) (vs ++ dvs) Q E hr I.env0 (hb s us I.kIn hl) r2 h) fun r s' hq=>?_)
  cases r with
  | error e=>exact hx pins σ H s e s' I hq
  | ok fl =>
    cases fl with
    | ret u=>exact I.after hq
    | next=>exact False.elim hq
    | brk=>exact False.elim hq
    | cont=>exact False.elim hq
theorem pe_call (F:FnOk X.prog X.w X.K X.mg X.base CX k f fd ps sp) (hr:Room k X.A) (hg:Gl X x) (hm:X.mg x = some (.ref f)) (hk:PySem.W.keepIn X.K (.ref f) = true) (hb:Binds X.K fd ps ds) (hd:Vals dvs ds) (hx:jfn CX X E)
    (ha:PA X (e :: es) t) (hdb:(x == ("__debug__" : Str)) = false:=by decide) (he:starEach (e :: es) X.env = (false,eval e X.env) :: starEach es X.env:=by rfl) (hpl:(backTo pos (starEach es X.env)).any (·.1) = false:=by rfl) :
    PE X (.Call (.Name x p) (e :: es) [] pos) (tCall sp dvs E t):=by
  intro pins s σ H Q I h
  refine wpAny_Call_Name_kw (jfa I hg hm ?_ hdb)
  refine PySem.W.callWith_K (h₀:=X.base) I.ok.mod.kin hk (thn (ha pos pins s σ H _ I h) fun us s1 ⟨vs,H1,I1,r,q⟩=>⟨I1.kIn,?_⟩) he hpl
  exact jjI F hr hb hd hx I1 r q
structure Mk (K:PySem.W.Frag) (C f:Addr):Prop where
  makes:PySem.W.makesIn K C = true
  init:PySem.W.findIn K (.ref C) "__init__" = some (some (.ref f))
  fn:PySem.W.isFn K (.ref f) = true
  kp:PySem.W.keepIn K (.ref C) = true
theorem run_make {pins:List (Addr × Obj)} {σ:St} {H:Hp} {s:Shared} {Q:VK} {us:List Value} {vs:List V} (M:Mk X.K C f) (F:FnOk X.prog X.w X.K X.mg X.base CX k f fd ps sp) (hr:Room (k + 1) X.A) (hb:Binds X.K fd ps ds) (hd:Vals dvs ds)
    (hx:jfn CX X E) (I:Inv X pins σ H s) (r:Vals vs us)
    (h:∀ x dx,H x = none->H dx = none->dx ≠ x->sp (.ref x :: (vs ++ dvs)) (upd (upd H dx (.own x)) x (.ins C dx [])) (fun v H2=>v = .non /\ Q (.ref x) H2) E) :
    wpAny (model X.prog X.w) X.A (call (.ref C) us) (EP X pins σ Q) X.xe s:=by
  have hq:=h (s.heap.objs.size + 1) s.heap.objs.size (I.hok.fresh (Nat.le_succ _)) (I.hok.fresh (Nat.le_refl _)) (Nat.ne_of_lt (Nat.lt_succ_self _))
  have I2:=Inv.made (C:=C) I
  have r2:Vals (V.ref (s.heap.objs.size + 1) :: (vs ++ dvs)) (Value.ref (s.heap.objs.size + 1) :: (us ++ ds)):=.cons rfl (r.append hd)
  have hl:(Value.ref (s.heap.objs.size + 1) :: us ++ ds).length = ps.length:=by
    have e:=r2.length
    rw [F.len _ _ _ _ hq] at e
    exact e.symm
  refine wpAny_call (make_map (f:=f) I.kIn M.makes M.init (beq_iff_eq.mp M.fn) (codeAny_mono (F.run _ X.stack _ _ ⟨Value.ref (s.heap.objs.size + 1) :: us,[]⟩ (Value.ref (s.heap.objs.size + 1) :: (us ++ ds)) _ _ E (hr.make C us [])
    (I2.env0.make C us []) (hb _ (Value.ref (s.heap.objs.size + 1) :: us) I2.kIn hl) r2 hq) fun r s' hq'=>?_))
  cases r with
  | error e=>exact hx pins σ _ _ e s' I2 hq'
  | ok fl =>
    cases fl with
    | ret u =>
      obtain ⟨v,H',I3,rv,ev,q3⟩:=I2.after hq'
      subst ev
      exact ⟨rv,⟨V.ref (s.heap.objs.size + 1),H',I3,rfl,q3⟩⟩
    | next=>exact False.elim hq'
    | brk=>exact False.elim hq'
    | cont=>exact False.elim hq'
theorem pe_make (M:Mk X.K C f) (F:FnOk X.prog X.w X.K X.mg X.base CX k f fd ps sp) (hr:Room (k + 1) X.A) (hg:Gl X x) (hm:X.mg x = some (.ref C)) (hb:Binds X.K fd ps ds) (hd:Vals dvs ds) (hx:jfn CX X E)
    (ha:PA X (e :: es) t) (hdb:(x == ("__debug__" : Str)) = false:=by decide) (he:starEach (e :: es) X.env = (false,eval e X.env) :: starEach es X.env:=by rfl) (hpl:(backTo pos (starEach es X.env)).any (·.1) = false:=by rfl) :
    PE X (.Call (.Name x p) (e :: es) [] pos) (tMake C sp dvs E t):=by
  intro pins s σ H Q I h
  refine wpAny_Call_Name_kw (jfa I hg hm ?_ hdb)
  refine PySem.W.callWith_K (h₀:=X.base) I.ok.mod.kin M.kp (thn (ha pos pins s σ H _ I h) fun us s1 ⟨vs,H1,I1,r,q⟩=>⟨I1.kIn,?_⟩) he hpl
  exact run_make M F hr hb hd hx I1 r q
end
section
variable {X:Cx} {CX:CXT} {k:Nat} {f C:Addr} {fd:FuncData} {ps ks:List Str} {sp:Sp} {E:XK} {x m:Str} {p pos apos kpos:Pos} {e o:Expr} {es:List Expr} {kws:List Keyword} {te ta:TE} {t tk:TA} {nm:Option Str}
variable {g:List Value->List Value->List Value} {gV:List V->List V->List V}
end
structure jL (N P:List Str) (sc:Scope):Prop where
  kind:sc.kind = .function
  co:sc.isCoroutine = false
  gen:sc.isGenerator = false
  nd:N.Nodup
  pre:N.take P.length = P
  par:∀ x ∈ P,sc.names.lookup x = some .local ∨ sc.names.lookup x = some .cell
  nofree:∀ y ∈ sc.names,y.2 ≠ .free
theorem jg2 {kindOf:Str->Option NameKind} {x:Str}:∀ {binds:List (Str × Value)} {m:Str->Option Value},(∀ v,(x,v) ∉ binds)->bindL kindOf binds m x = m x
  | [],_,_=>rfl
  | (n,v) :: r,m,h=>by
    unfold bindL
    rw [jg2 fun w hw=>h w (List.mem_cons_of_mem _ hw)]
    split
    · have:x ≠ n:=by rintro rfl; exact h v List.mem_cons_self
      simp [this]
    · rfl
theorem jg0 {kindOf:Str->Option NameKind} {x:Str}:∀ {binds:List (Str × Value)} {m:Str->Option Value},(∀ v,(x,v) ∉ binds)->bindC kindOf binds m x = m x
  | [],_,_=>rfl
  | (n,v) :: r,m,h=>by
    unfold bindC
    rw [jg0 fun w hw=>h w (List.mem_cons_of_mem _ hw)]
    split
    · rfl
    · have:x ≠ n:=by rintro rfl; exact h v List.mem_cons_self
      simp [this]
theorem jg1 {kindOf:Str->Option NameKind} {x:Str} {v:Value}:∀ {P:List Str} {vs:List Value} {i:Nat} {m:Str->Option Value},P.Nodup->P[i]? = some x->vs[i]? = some v->kindOf x = some .local ->
    bindL kindOf (P.zip vs) m x = some v
  | [],_,_,_,_,h,_,_=>by simp at h
  | _ :: _,[],_,_,_,_,h,_=>by simp at h
  | p :: P,w :: vs,0,m,nd,h1,h2,hk=>by
    simp at h1 h2; subst h1; subst h2
    show bindL kindOf ((p,w) :: P.zip vs) m p = _
    unfold bindL
    rw [jg2 fun v hv=>(List.nodup_cons.mp nd).1 (List.of_mem_zip hv).1,if_pos hk]
    simp
  | p :: P,w :: vs,i + 1,m,nd,h1,h2,hk=>by
    show bindL kindOf ((p,w) :: P.zip vs) m x = _
    unfold bindL
    exact jg1 (i:=i) (List.nodup_cons.mp nd).2 (by simpa using h1) (by simpa using h2) hk
theorem jgZ {kindOf:Str->Option NameKind} {x:Str} {v:Value}:∀ {P:List Str} {vs:List Value} {i:Nat} {m:Str->Option Value},P.Nodup->P[i]? = some x->vs[i]? = some v->kindOf x ≠ some .local ->
    bindC kindOf (P.zip vs) m x = some v
  | [],_,_,_,_,h,_,_=>by simp at h
  | _ :: _,[],_,_,_,_,h,_=>by simp at h
  | p :: P,w :: vs,0,m,nd,h1,h2,hk=>by
    simp at h1 h2; subst h1; subst h2
    show bindC kindOf ((p,w) :: P.zip vs) m p = _
    unfold bindC
    rw [jg0 fun v hv=>(List.nodup_cons.mp nd).1 (List.of_mem_zip hv).1,if_neg hk]
    simp
  | p :: P,w :: vs,i + 1,m,nd,h1,h2,hk=>by
    show bindC kindOf ((p,w) :: P.zip vs) m x = _
    unfold bindC
    exact jgZ (i:=i) (List.nodup_cons.mp nd).2 (by simpa using h1) (by simpa using h2) hk
noncomputable def start (N:List Str) (vs:List V):St:=vs.map some ++ List.replicate (N.length - vs.length) none
noncomputable def cxOf (CX:CXT) (P:Program) (w:World) (K:PySem.W.Frag) (mg:Str->Option Value) (base:Heap) (N:List Str) (qual:Str) (scope:Scope) (f:Addr) (cd:Value) (A:Around) (outer:List Env) (s:Shared) (H:Hp) (E:XK):Cx where
  prog:=P
  w:=w
  K:=K
  mg:=mg
  base:=base
  A:=A.deeper (envOfC qual scope s.heap.objs.size f cd)
  N:=N
  s₀:=s
  H₀:=H
  env:=envOfC qual scope s.heap.objs.size f cd
  outer:=outer
  stack:=envOfC qual scope s.heap.objs.size f cd :: outer
  ex:=[]
  calm:=true
  fn:=fun _=>true
  pn:=[]
  xe:=fun e s'=>wpAny (model P w) (A.deeper (envOfC qual scope s.heap.objs.size f cd)) (leaving (envOfC qual scope s.heap.objs.size f cd) e) (fun _ s''=>CX outer H s E e s'') (fun e' s''=>CX outer H s E e' s'') s'
theorem jfs {sc:Scope} {n:Nat} {x:Str} (h:sc.names.lookup x = some .cell):∃ c,(cellsFrom n sc.names []).lookup x = some c:=by
  have q:=PySem.W.cellsFrom_some sc.names n [] (.inl h)
  exact Option.isSome_iff_exists.mp q
theorem jkB {CX:CXT} {P:Program} {w:World} {K:PySem.W.Frag} {mg:Str->Option Value} {base:Heap} {N ps:List Str} {qual:Str} {scope:Scope} {f:Addr} {cd:Value} {A:Around} {outer:List Env} {s s1:Shared} {H:Hp} {E:XK} {us:List Value} {vs:List V}
    (S:jL N ps scope) (hd:A.handled = none) (e0:Env0 P w K mg base A outer s H) (hl:vs.length = ps.length) (r:Vals vs us)
    (x:InCallC s s.heap.objs.size (bindL (envOfC qual scope s.heap.objs.size f cd).kindOf (ps.zip us) fun _=>none) (cellsFrom (s.heap.objs.size + 1) scope.names []) (bindC (envOfC qual scope s.heap.objs.size f cd).kindOf (ps.zip us) fun _=>none) s1) :
    Inv (cxOf CX P w K mg base N qual scope f cd A outer s H E) [] (start N vs) H s1:=by
  have hpl:ps.length <= N.length:=by have:=congrArg List.length S.pre; rw [List.length_take] at this; omega
  obtain ⟨h1,tk,rfl,hk⟩:=x.done
  have noA:∀ b:Addr,b ∉ (cxOf CX P w K mg base N qual scope f cd A outer s H E).ex:=fun b z=>absurd (show b ∈ ([]:List Addr) from z) (by simp)
  refine ⟨⟨e0.mod,S.kind,rfl,rfl,Nat.le_refl _,fun y z c h1 h2=>?_,fun y hy=>?_,fun y c _ h=>?_,fun _=>hd,Around.frames_deeper e0.frames,.inr ⟨rfl,rfl⟩,fun b z=>absurd z (noA b),e0.bs,e0.bsz,fun b _ _=>noA b,fun b z=>absurd z (noA b),e0.funs,e0.frf⟩,
    rfl,e0.bare,Un.kept hk,⟨_,x.toInCall.ns,fun i y v h1 h2 h3=>?_⟩,fun y c h=>⟨_,x.cell y c h⟩,e0.hok.fresh (Nat.le_refl _),fun y c h=>?_,fun p hp=>absurd (show p ∈ ([]:List (Addr × Obj)) from hp) (by simp),e0.hok.kept hk,?_⟩
  · exact name_of_addr x.apart (PySem.mem_of_lookup h1) (PySem.mem_of_lookup h2)
  · have hy:scope.names.lookup y = some .cell ∨ scope.names.lookup y = some .free:=hy
    rcases hy with hy | hy
    · exact jfs hy
    · exact absurd rfl (S.nofree _ (PySem.mem_of_lookup hy))
  · exact Nat.le_of_lt (x.above y c (PySem.mem_of_lookup h))
  · have hi:i < vs.length:=by
      unfold start at h2
      by_cases hi:i < vs.length
      · exact hi
      · rw [List.getElem?_append_right (by simpa using hi)] at h2
        rw [List.getElem?_replicate] at h2
        split at h2 <;> cases h2
    have ha:vs[i]? = some v:=by
      unfold start at h2
      rw [List.getElem?_append_left (by simpa using hi),List.getElem?_map] at h2
      cases e:vs[i]? with
      | none=>rw [e] at h2; cases h2
      | some a=>rw [e] at h2; cases h2; rfl
    obtain ⟨u,hu,rv⟩:=r.get ha
    have hp:ps[i]? = some y:=by
      rw [<- S.pre,List.getElem?_take_of_lt (by omega)]; exact h1
    have ndP:ps.Nodup:=by rw [<- S.pre]; exact S.nd.sublist (List.take_sublist _ _)
    refine ⟨u,rv,?_⟩
    rcases S.par y (List.mem_of_getElem? hp) with k | k
    · exact .inl ⟨k,jg1 ndP hp hu k⟩
    · obtain ⟨c,e⟩:=jfs (n:=s.heap.objs.size + 1) k
      refine .inr ⟨.inl k,c,e,?_⟩
      have q:=x.cell y c e
      rw [jgZ ndP hp hu (by show scope.names.lookup y ≠ _; rw [k]; decide)] at q
      exact q
  · exact e0.hok.fresh (Nat.le_of_lt (x.above y c (PySem.mem_of_lookup h)))
  · unfold start
    show _ = N.length
    rw [List.length_append,List.length_map,List.length_replicate]
    omega
theorem fn_of {CX:CXT} {P:Program} {w:World} {K:PySem.W.Frag} {mg:Str->Option Value} {base:Heap} {k:Nat} {f:Addr} {name qual:Str} {params:Arguments} {body:List Stmt} {scope:Scope} {dV kV doc pm cdv ct oc:Value} {an od:Option Addr}
    {osl:Array (Option Value)} {N ps:List Str} {sp:Sp} (lk:K.lookup f = some ⟨oc,od,.func (PySem.W.fnOf name qual params body scope dV kV doc pm an cdv ct),osl⟩) (hcd:PySem.W.codeIn K cdv qual = true) (S:jL N ps scope)
    (len:∀ vs H Q E,sp vs H Q E->vs.length = ps.length)
    (hbody:∀ (A:Around) (outer:List Env) (s:Shared) (H:Hp) (vs:List V) (Q:VK) (E:XK),Room k (A.deeper (envOfC qual scope s.heap.objs.size f cdv))->sp vs H Q E ->
      ∃ t,PSs (cxOf CX P w K mg base N qual scope f cdv A outer s H E) body t /\ t { nx:=fun _ H'=>Q .non H',rt:=Q } (start N vs) H) :
    FnOk P w K mg base CX (k + 1) f (PySem.W.fnOf name qual params body scope dV kV doc pm an cdv ct) ps sp:=by
  refine ⟨len,fun A outer s H args us vs Q E hr e0 hb r hsp=>?_⟩
  have hl:=len _ _ _ _ hsp
  have KX:K.In s.heap:=e0.mod.kin.keeps fun b o e=>(e0.bs b o e).1
  have lim:s.heap.NoLimit:=e0.mod.nolimit.keeps fun b o e=>(e0.bs b o e).1
  have hkind:∀ y ∈ ps.zip us,scope.names.lookup y.1 = some .local ∨ (scope.names.lookup y.1 = some .cell /\ ((cellsFrom (s.heap.objs.size + 1) scope.names []).lookup y.1).isSome = true):=fun ⟨n,v⟩ hy=>by
    rcases S.par n (List.of_mem_zip hy).1 with q | q
    · exact .inl q
    · exact .inr ⟨q,PySem.W.cellsFrom_some _ _ _ (.inl q)⟩
  refine codeAny_call_function hr.depth (KX _ _ lk) rfl S.co S.gen rfl (PySem.W.codeRec_of KX hcd) (hb _ _ _ _ ?_)
  refine wpAny_newFunctionEnv_cells S.kind hkind fun env he s1 x=>?_
  subst he
  refine ⟨lim.keeps x.toInCall.keep,codeAny_func ?_⟩
  obtain ⟨t,ht,hq⟩:=hbody A outer s H vs Q E (hr.deeper _) hsp
  have I:Inv (cxOf CX P w K mg base N qual scope f cdv A outer s H E) [] (start N vs) H s1:=jkB S hr.hd e0 hl r x
  refine wpAny_mono (ht [] s1 (start N vs) H _ I hq) (fun fl s' hs=>?_) fun e s' hs=>hs
  have fin:∀ {σ':St} {H':Hp} {v:V} {u:Value},Inv (cxOf CX P w K mg base N qual scope f cdv A outer s H E) [] σ' H' s'->RelV v u->Q v H'->CE outer P w H s Q u s' :=
    fun {σ' H' v u} J rv q=>⟨v,H',J.os,J.bare,J.base,J.hok,rv,q⟩
  cases fl with
  | ret u =>
    obtain ⟨v,σ',H',J,rv,q⟩:=hs
    exact fin J rv q
  | next =>
    obtain ⟨σ',H',J,q⟩:=hs
    exact fin (v:=V.non) (u:=Value.none) J rfl q
  | brk =>
    obtain ⟨_,_,_,q⟩:=hs
    exact False.elim q
  | cont =>
    obtain ⟨_,_,_,q⟩:=hs
    exact False.elim q
end L2
namespace L2
open PySem PySem.Spec PyProof.Rows
section
variable {X:Cx} {x:Str} {p pos:Pos} {e:Expr} {es:List Expr} {t:TA} {id T:String} {r:List V->Hp->VK->Prop}
noncomputable def tCB (r:List V->Hp->VK->Prop) (t:TA):TE:=fun σ H Q=>t σ H fun vs H1=>r vs H1 Q
theorem pe_callB (hc:yx X (.builtin id) r) (hg:Gl X x) (hm:X.mg x = none) (hv:bootBuiltins x = some (.builtin id)) (ha:PA X (e :: es) t) (hn:x ≠ "__name__" := by decide) (hdb:(x == ("__debug__" : Str)) = false:=by decide)
    (he:starEach (e :: es) X.env = (false,eval e X.env) :: starEach es X.env:=by rfl) (hpl:(backTo pos (starEach es X.env)).any (·.1) = false:=by rfl):PE X (.Call (.Name x p) (e :: es) [] pos) (tCB r t):=by
  intro pins s σ H Q I h
  refine wpAny_Call_Name_kw (Z6 I hg hm hv ?_ hn hdb)
  exact PyProof.Rows.callWith_builtin1 (thn (ha pos pins s σ H _ I h) fun us s1 ⟨vs,H1,I1,r1,q1⟩=>hc pins s1 σ H1 vs us Q I1 r1 q1) he hpl
theorem jkT (hc:yx X (.type T) r) (hg:Gl X x) (hm:X.mg x = none) (hv:bootBuiltins x = some (.type T)) (ha:PA X (e :: es) t) (hn:x ≠ "__name__" := by decide) (hdb:(x == ("__debug__" : Str)) = false:=by decide)
    (he:starEach (e :: es) X.env = (false,eval e X.env) :: starEach es X.env:=by rfl) (hpl:(backTo pos (starEach es X.env)).any (·.1) = false:=by rfl):PE X (.Call (.Name x p) (e :: es) [] pos) (tCB r t):=by
  intro pins s σ H Q I h
  refine wpAny_Call_Name_kw (Z6 I hg hm hv ?_ hn hdb)
  exact PyProof.Rows.callWith_type1 (thn (ha pos pins s σ H _ I h) fun us s1 ⟨vs,H1,I1,r1,q1⟩=>hc pins s1 σ H1 vs us Q I1 r1 q1) he hpl
end
end L2
namespace HT
open PySem PyProof.Rows
section
open PySem.SeqAt
open PySem.AutoSeq1 (wpAny_loadPart')
open PySem.MeetsSeq PySem.MeetsSeq2 PySem.MeetsSeq3
end
section
variable {prog:Program} {w:World} {A:Around} {E:Value->Shared->Prop} {s:Shared}
noncomputable def sIx (n d:Nat):Option Int->Nat
  | none=>d
  | some v=>if v < 0 then (v + (n:Int)).toNat else min v.toNat n
theorem jiW (n d:Nat):sIx n d none = d:=rfl
theorem Yo (n d k:Nat):sIx n d (some (k:Int)) = min k n:=by
  show (if (k:Int) < 0 then ((k:Int) + (n:Int)).toNat else min (k:Int).toNat n) = min k n
  rw [if_neg (by omega),Int.toNat_natCast]
theorem sIx_le (n d:Nat) (hd:d <= n) (o:Option Int):sIx n d o <= n:=by
  cases o with
  | none=>exact hd
  | some v =>
    show (if v < 0 then (v + (n:Int)).toNat else min v.toNat n) <= n
    by_cases hv:v < 0
    · rw [if_pos hv]; omega
    · rw [if_neg hv]; exact Nat.min_le_right _ _
end
end HT
namespace L2
open PySem PySem.Spec PyProof.Rows
noncomputable abbrev TO:=St->Hp->(Option Int->Hp->Prop)->Prop
noncomputable def PO (X:Cx) (e:Option Expr) (t:TO):Prop :=
  ∀ (pins:List (Addr × Obj)) (s:Shared) (σ:St) (H:Hp) (Q:Option Int->Hp->Prop),Inv X pins σ H s->t σ H Q ->
    wpAny (model X.prog X.w) X.A (evalPart e X.env) (fun u s'=>∃ o H',Inv X pins σ H' s' /\ IsPart u o /\ Q o H') X.xe s
noncomputable def jkj:TO:=fun _ H Q=>Q none H
noncomputable def tPart (t:TE):TO:=fun σ H Q=>t σ H fun x H1=>∃ i,x = .int i /\ Q (some i) H1
section
variable {X:Cx} {e:Expr} {te:TE} {lo hi:Option Expr} {tl th:TO} {pos p2:Pos}
theorem ZS:PO X none jkj:=by
  intro pins s σ H Q I h
  rw [evalPart_none]
  exact wpAny_pure ⟨none,H,I,.none,h⟩
theorem qw (h:PE X e te):PO X (some e) (tPart te):=by
  intro pins s σ H Q I hw
  rw [evalPart_some]
  refine thn (h pins s σ H _ I hw) fun u s1 zz=>?_
  obtain ⟨x,H1,I1,r1,q1⟩:=zz
  obtain ⟨i,rfl,q⟩:=q1
  obtain ⟨t,rfl⟩:=r1
  exact ⟨some i,H1,I1,.int i t,q⟩
noncomputable def SlR (X:Cx) (r:V->Option Int->Option Int->Hp->VK->Prop):Prop :=
  ∀ (pins:List (Addr × Obj)) (s:Shared) (σ:St) (H:Hp) (x:V) (v vl vu:Value) (lo hi:Option Int) (sl:Addr) (Q:VK),Inv X pins σ H s->RelV x v->s.heap.IsSliceOf sl vl vu .none->IsPart vl lo->IsPart vu hi->r x lo hi H Q ->
    ∃ T id,typeLookup (.type T) "__getitem__" = pure (some (.builtin id)) /\ s.TypeIs v T /\ wpAny (model X.prog X.w) X.A (getItem v (.ref sl)) (EP X pins σ Q) X.xe s
noncomputable def tSl (r:V->Option Int->Option Int->Hp->VK->Prop) (te:TE) (tl th:TO):TE:=fun σ H Q=>te σ H fun x H1=>tl σ H1 fun l H2=>th σ H2 fun u H3=>r x l u H3 Q
theorem qU {r:V->Option Int->Option Int->Hp->VK->Prop} (hr:SlR X r) (he:PE X e te) (hl:PO X lo tl) (hu:PO X hi th):PE X (.Subscript e (.Slice lo hi none p2) pos) (tSl r te tl th):=by
  intro pins s σ H Q I h
  refine Subscript_ (thn (he pins s σ H _ I h) fun v s1 zz=>?_)
  obtain ⟨x,H1,I1,r1,q1⟩:=zz
  refine wpAny_Slice (thn (hl pins s1 σ H1 _ I1 q1) fun vl s2 ⟨l,H2,I2,pl,q2⟩=>thn (hu pins s2 σ H2 _ I2 q2) fun vu s3 zz=>?_)
  obtain ⟨u,H3,I3,pu,q3⟩:=zz
  rw [evalPart_none]
  refine wpAny_pure ?_
  have I4:Inv X pins σ H3 { s3 with heap:=s3.heap.push { cls:=.type "slice",data:=.fields #[vl,vu,.none] } }:=I3.kept (t':=s3.toks) fun b ob q=>Heap.get?_push_of_some _ q
  obtain ⟨T,id,hT,ht,hg⟩:=hr pins { s3 with heap:=s3.heap.push { cls:=.type "slice",data:=.fields #[vl,vu,.none] } } σ H3 x v vl vu l u s3.heap.objs.size Q I4 r1 (Heap.IsSliceOf.new ..) pl pu q3
  show wpAny (model X.prog X.w) X.A (subscriptTail e (.Slice lo hi none p2) v (.ref s3.heap.objs.size)) (EP X pins σ Q) X.xe { s3 with heap:=s3.heap.push { cls:=.type "slice",data:=.fields #[vl,vu,.none] } }
  exact tail_any (ops:=[.ref s3.heap.objs.size,v]) ht hT hg (by with_unfolding_all rfl)
noncomputable def cutV (xs:List V) (lo hi:Option Int):List V:=(xs.drop (HT.sIx xs.length 0 lo)).take (HT.sIx xs.length xs.length hi - HT.sIx xs.length 0 lo)
theorem jis (xs:List V) (lo hi:Option Int):(cutV xs lo hi).length <= xs.length:=by
  unfold cutV
  rw [List.length_take,List.length_drop]
  omega
end
end L2
namespace L2
open PySem PySem.Spec PyProof.Rows
noncomputable def ixN (n:Nat) (i:Int):Option Nat:=if 0 <= i then (if i < n then some i.toNat else none) else if -(n:Int) <= i then some (i + n).toNat else none
noncomputable def atI {α:Type} (xs:List α) (i:Int):Option α:=(ixN xs.length i).bind fun j=>xs[j]?
theorem ixN_seq {n:Nat} {i:Int} {j:Nat} (h:ixN n i = some j):seqIndex? i n = some j /\ j < n /\ -(n:Int) <= i /\ i < n:=by
  unfold ixN at h
  by_cases h0:0 <= i
  · rw [if_pos h0] at h
    by_cases h1:i < n
    · rw [if_pos h1] at h
      have e:i.toNat = j:=Option.some.inj h
      exact ⟨by rw [seqIndex_of h0 h1,e],by omega,by omega,h1⟩
    · rw [if_neg h1] at h; cases h
  · rw [if_neg h0] at h
    by_cases h1:-(n:Int) <= i
    · rw [if_pos h1] at h
      have e:(i + n).toNat = j:=Option.some.inj h
      exact ⟨by rw [seqIndex_neg (by omega) h1,e],by omega,h1,by omega⟩
    · rw [if_neg h1] at h; cases h
theorem jhI {α:Type} {xs:List α} {i:Int} {v:α} (h:atI xs i = some v):∃ j,seqIndex? i xs.length = some j /\ xs[j]? = some v /\ j < xs.length /\ -(xs.length:Int) <= i /\ i < xs.length:=by
  unfold atI at h
  cases e:ixN xs.length i with
  | none=>rw [e] at h; cases h
  | some j =>
    rw [e] at h
    obtain ⟨h1,h2,h3,h4⟩:=ixN_seq e
    exact ⟨j,h1,h,h2,h3,h4⟩
theorem Y8 {α:Type} {xs:List α} {j:Nat} {v:α} (h:xs[j]? = some v):atI xs (j:Int) = some v:=by
  have hj:j < xs.length:=(List.getElem?_eq_some_iff.mp h).1
  have e:ixN xs.length (j:Int) = some j:=by
    unfold ixN
    rw [if_pos (by omega),if_pos (by omega)]; simp
  unfold atI; rw [e]; exact h
noncomputable def jj2 (b:Expr):Prop:=∀ o i,subscripted b false o i = operate [o,i] (getItem o i)
noncomputable def IxR (X:Cx) (r:R2):Prop :=
  ∀ (value slice:Expr) (pins:List (Addr × Obj)) (s:Shared) (σ:St) (H:Hp) (x y:V) (v u:Value) (Q:VK),Inv X pins σ H s->RelV x v->RelV y u->r x y H Q ->
    subscripted slice false v u = operate [v,u] (getItem v u)->wpAny (model X.prog X.w) X.A (subscriptTail value slice v u) (EP X pins σ Q) X.xe s
noncomputable def MtR (X:Cx) (id:String) (r:V->List V->Hp->VK->Prop):Prop :=
  ∀ (pins:List (Addr × Obj)) (s:Shared) (σ:St) (H:Hp) (x:V) (xs:List V) (v:Value) (us:List Value) (Q:VK),Inv X pins σ H s->RelV x v->Vals xs us->r x xs H Q ->
    wpAny (model X.prog X.w) X.A (call (.builtin id) (v :: us)) (EP X pins σ Q) X.xe s
section
variable {X:Cx} {a b:Expr} {ta tb:TE} {pos:Pos}
theorem jY {r:R2} (hr:IxR X r) (ha:PE X a ta) (hb:PE X b tb) (hs:jj2 b):PE X (.Subscript a b pos) (tOp r ta tb):=by
  intro pins s σ H Q I h
  exact Subscript_ (binT ha hb I h fun v u s2 x y H2 I2 rx ry q=>hr a b pins s2 σ H2 x y v u Q I2 rx ry q (hs _ _))
noncomputable def rIxL (K:PySem.W.Frag):R2:=fun x y H Q=>∃ p xs i v,x = .ref p /\ y = .int i /\ SqL K H p xs /\ atI xs i = some v /\ Q v H
noncomputable def rIxT (K:PySem.W.Frag):R2:=fun x y H Q=>∃ p xs i v,x = .ref p /\ y = .int i /\ SqT K H p xs /\ atI xs i = some v /\ Q v H
noncomputable def rIxS:R2:=fun x y H Q=>∃ z i c,x = .str z /\ y = .int i /\ z.length <= sizeLine /\ atI z.cps.toList i = some c /\ Q (.str ⟨#[c]⟩) H
theorem ix_list:IxR X (rIxL X.K):=by
  intro value slice pins s σ H x y v u Q I rx ry h hs
  obtain ⟨p,xs,i,z,rfl,rfl,hq,he,q⟩:=h
  cases rx
  obtain ⟨t,rfl⟩:=ry
  obtain ⟨its,r,pl,hz⟩:=I.list hq
  obtain ⟨j,h1,h2,h3,h4,h5⟩:=jhI he
  obtain ⟨w,ew,rw'⟩:=r.get h2
  have hl:=r.length
  have hn:=jfM
  have fin:EP X pins σ Q w s:=⟨z,H,I,rw',q⟩
  by_cases h0:0 <= i
  · have hj:i.toNat = j:=by
      rw [seqIndex_of h0 h5] at h1
      exact Option.some.inj h1
    exact item_listR pl.isList h0 (by omega) (by rw [hj]; simpa using ew) fin hs
  · have hj:(i + (its.toArray.size:Int)).toNat = j:=by
      rw [seqIndex_neg (by omega) h4] at h1
      rw [List.size_toArray,<- hl]
      exact Option.some.inj h1
    exact subscriptTail_builtinR (x:=w) pl.isList.typeIs slot_list_getitem.lookup
      (wpAny_getItem_list_neg (Q:=fun r s'=>r = w /\ EP X pins σ Q r s') pl.isList (by omega) (by rw [List.size_toArray] <;> omega) (by omega) (by rw [hj]; simpa using ew) ⟨rfl,fin⟩) hs
theorem qR:IxR X (rIxT X.K):=by
  intro value slice pins s σ H x y v u Q I rx ry h hs
  obtain ⟨p,xs,i,z,rfl,rfl,hq,he,q⟩:=h
  cases rx
  obtain ⟨t,rfl⟩:=ry
  obtain ⟨its,r,pl,hz⟩:=I.tuple hq
  obtain ⟨j,h1,h2,h3,h4,h5⟩:=jhI he
  obtain ⟨w,ew,rw'⟩:=r.get h2
  have hl:=r.length
  have hn:=jfM
  have fin:EP X pins σ Q w s:=⟨z,H,I,rw',q⟩
  exact subscriptTail_builtinR (x:=w) pl.typeIs slot_tuple_getitem.lookup
    (getItem_tuple (j:=j) (Q:=fun r s'=>r = w /\ EP X pins σ Q r s') pl (by omega) (by omega) (by rw [List.size_toArray,<- hl]; exact h1) (by simpa using ew) ⟨rfl,fin⟩) hs
theorem ix_str:IxR X rIxS:=by
  intro value slice pins s σ H x y v u Q I rx ry h hs
  obtain ⟨z,i,c,rfl,rfl,hz,he,q⟩:=h
  obtain ⟨t,rfl⟩:=rx
  obtain ⟨t',rfl⟩:=ry
  obtain ⟨j,h1,h2,h3,h4,h5⟩:=jhI he
  have hl:z.cps.toList.length = z.length:=by simp [Str.length]
  rw [hl] at h1 h4 h5
  have hn:=jfM
  exact tail_any (typeIs_str s z t) slot_str_getitem.lookup (getItem_str (c:=c) (by
    have e1:decide (i < -(2 ^ 63:Int)) = false:=decide_eq_false (by omega)
    have e2:decide (i ≥ 2 ^ 63) = false:=decide_eq_false (by omega)
    rw [e1,e2,Bool.or_false]) (by rw [h1]; simpa using h2) ⟨.str ⟨#[c]⟩,H,I.tok _,⟨_,rfl⟩,q⟩) hs
theorem jia (lo hi:Option Int) (n:Nat):(sliceBounds lo hi none n).1 = ((HT.sIx n 0 lo:Nat):Int) /\ (sliceBounds lo hi none n).2.1 = ((HT.sIx n n hi:Nat):Int) /\ (sliceBounds lo hi none n).2.2 = 1:=by
  refine ⟨?_,?_,rfl⟩
  · cases lo with
    | none=>simp [sliceBounds,HT.sIx]
    | some i =>
      simp only [sliceBounds,HT.sIx,Option.getD_none,show (1:Int) > 0 by decide,if_true]
      by_cases h:i < 0
      · simp only [h,if_true] <;> omega
      · simp only [h,if_false] <;> omega
  · cases hi with
    | none=>simp [sliceBounds,HT.sIx]
    | some i =>
      simp only [sliceBounds,HT.sIx,Option.getD_none,show (1:Int) > 0 by decide,if_true]
      by_cases h:i < 0
      · simp only [h,if_true] <;> omega
      · simp only [h,if_false] <;> omega
theorem jgR (its:List Value) (lo hi:Option Int):slicePick its.toArray lo hi none = ((its.drop (HT.sIx its.length 0 lo)).take (HT.sIx its.length its.length hi - HT.sIx its.length 0 lo)).toArray:=by
  obtain ⟨h1,h2,h3⟩:=jia lo hi its.toArray.size
  unfold slicePick
  rw [h1,h2,h3]
  simp only [sliceRange_one,pick_run,List.size_toArray] <;> rfl
noncomputable def rSlL (K:PySem.W.Frag):V->Option Int->Option Int->Hp->VK->Prop:=fun x lo hi H Q=>∃ a xs,x = .ref a /\ SqL K H a xs /\ ∀ p,H p = none->Q (.ref p) (upd H p (.lst (cutV xs lo hi)))
theorem jh9:SlR X (rSlL X.K):=by
  intro pins s σ H x v vl vu lo hi sl Q I rx hs pl pu h
  obtain ⟨a,xs,rfl,hx,q⟩:=h
  cases rx
  obtain ⟨its,r,ht,hz⟩:=I.list hx
  have hlen:=r.length
  refine ⟨"list",_,slot_list_getitem.lookup,ht.isList.typeIs,?_⟩
  refine wpAny_getItem_list_slice ht.isList hs pl pu .none (by simp) ?_ (by rw [List.size_toArray] <;> omega)
  rw [jgR,<- hlen]
  refine ⟨.ref s.heap.objs.size,_,I.laid (t':=s.toks) (o:=.lst (cutV xs lo hi)) (fun b ob q=>Heap.get?_push_of_some _ q) (Nat.le_refl _) ?_,rfl,q _ (I.hok.fresh (Nat.le_refl _))⟩
  exact ⟨Nat.le_trans (jis xs lo hi) hz,_,0,(r.drop (HT.sIx xs.length 0 lo)).take (HT.sIx xs.length xs.length hi - HT.sIx xs.length 0 lo),Heap.get?_push_size _ rfl⟩
noncomputable def jeD:V->Bool
  | .non=>true
  | .bl _=>true
  | .int _=>true
  | .str _=>true
  | _=>false
noncomputable def eqV:V->V->Bool
  | .non,.non=>true
  | .bl a,.bl b=>a == b
  | .bl a,.int b=>(if a then 1 else 0) == b
  | .int a,.bl b=>a == (if b then 1 else 0)
  | .int a,.int b=>a == b
  | .str a,.str b=>a == b
  | _,_=>false
theorem eqAt_V {A:Around} {s:Shared} {y x:V} {u v:Value} (ry:RelV y u) (rx:RelV x v) (fy:jeD y = true) (fx:jeD x = true):SeqAt.EqAt A s u v (eqV y x):=by
  cases y with
  | non =>
    cases ry
    cases x with
    | non=>cases rx; exact SeqAt.EqAt.same _
    | bl b=>cases rx; exact SeqAt.EqAt.none_bool b
    | int b=>obtain ⟨t,rfl⟩:=rx; exact SeqAt.EqAt.none_int b t
    | str b=>obtain ⟨t,rfl⟩:=rx; exact SeqAt.EqAt.none_str b t
    | _=>exact absurd (show false = true from fx) Bool.false_ne_true
  | bl a =>
    cases ry
    cases x with
    | non=>cases rx; exact SeqAt.EqAt.bool_none a
    | bl b=>cases rx; exact SeqAt.EqAt.bool_bool a b
    | int b=>obtain ⟨t,rfl⟩:=rx; exact SeqAt.EqAt.bool_int a b t
    | str b=>obtain ⟨t,rfl⟩:=rx; exact SeqAt.EqAt.bool_str a b t
    | _=>exact absurd (show false = true from fx) Bool.false_ne_true
  | int a =>
    obtain ⟨t',rfl⟩:=ry
    cases x with
    | non=>cases rx; exact SeqAt.EqAt.int_none a t'
    | bl b=>cases rx; exact SeqAt.EqAt.int_bool a t' b
    | int b=>obtain ⟨t,rfl⟩:=rx; exact SeqAt.EqAt.int_int a t' b t
    | str b=>obtain ⟨t,rfl⟩:=rx; exact SeqAt.EqAt.int_str a t' b t
    | _=>exact absurd (show false = true from fx) Bool.false_ne_true
  | str a =>
    obtain ⟨t',rfl⟩:=ry
    cases x with
    | non=>cases rx; exact SeqAt.EqAt.str_none a t'
    | bl b=>cases rx; exact SeqAt.EqAt.str_bool a t' b
    | int b=>obtain ⟨t,rfl⟩:=rx; exact SeqAt.EqAt.str_int a t' b t
    | str b=>obtain ⟨t,rfl⟩:=rx; exact SeqAt.EqAt.str_str a t' b t
    | _=>exact absurd (show false = true from fx) Bool.false_ne_true
  | _=>exact absurd (show false = true from fy) Bool.false_ne_true
noncomputable def eqU (x:V) (u:Value):Bool:=match u with
  | .none=>eqV .non x
  | .bool b=>eqV (.bl b) x
  | .int i _=>eqV (.int i) x
  | .str z _=>eqV (.str z) x
  | _=>false
theorem eqU_of {x y:V} {u:Value} (r:RelV y u) (f:jeD y = true):eqU x u = eqV y x:=by
  cases y with
  | non=>cases r; rfl
  | bl b=>cases r; rfl
  | int i=>obtain ⟨t,rfl⟩:=r; rfl
  | str z=>obtain ⟨t,rfl⟩:=r; rfl
  | _=>exact absurd (show false = true from f) Bool.false_ne_true
theorem jdo {x:V}:∀ {xs:List V} {us:List Value},Vals xs us->xs.all jeD = true->us.any (eqU x) = xs.any fun y=>eqV y x
  | _,_,.nil,_=>rfl
  | y :: xs,u :: us,.cons r t,f=>by
    rw [List.all_cons,Bool.and_eq_true] at f
    rw [List.any_cons,List.any_cons,eqU_of r f.1,jdo t f.2]
theorem jbZ {A:Around} {s:Shared} {x:V} {v:Value} (rx:RelV x v) (fx:jeD x = true):∀ {xs:List V} {us:List Value},Vals xs us->xs.all jeD = true->∀ u ∈ us,SeqAt.EqAt A s u v (eqU x u)
  | _,_,.nil,_=>fun u hu=>by cases hu
  | y :: xs,u :: us,.cons r t,f=>fun u' hu=>by
    rw [List.all_cons,Bool.and_eq_true] at f
    rcases List.mem_cons.mp hu with rfl | hu
    · rw [eqU_of r f.1]; exact eqAt_V r rx f.1 fx
    · exact jbZ rx fx t f.2 u' hu
noncomputable def inV (x:V) (xs:List V):Bool:=xs.any fun y=>eqV y x
noncomputable def rIn (K:PySem.W.Frag) (neg:Bool):R2:=fun x y H Q=>∃ p xs,y = .ref p /\ (SqL K H p xs ∨ SqT K H p xs) /\ jeD x = true /\ xs.all jeD = true /\ Q (.bl (if neg then !inV x xs else inV x xs)) H
theorem jed:OpR X (compareOp .In) (rIn X.K false):=by
  intro pins s σ H x y v u Q I rx ry h
  obtain ⟨p,xs,rfl,hq,fx,fs,q⟩:=h
  cases ry
  rcases hq with hq | hq
  · obtain ⟨its,r,pl,hz⟩:=I.list hq
    refine SeqAt.in_listAt (eqU x) pl.isList (fun w hw=>jbZ rx fx r fs w (by simpa using hw)) ⟨.bl _,H,I,rfl,?_⟩
    rw [show its.toArray.any (eqU x) = its.any (eqU x) by simp,jdo r fs]
    exact q
  · obtain ⟨its,r,pl,hz⟩:=I.tuple hq
    refine SeqAt.in_tupleAt (eqU x) pl (fun w hw=>jbZ rx fx r fs w (by simpa using hw)) ⟨.bl _,H,I,rfl,?_⟩
    rw [show its.toArray.any (eqU x) = its.any (eqU x) by simp,jdo r fs]
    exact q
theorem ja0:OpR X (compareOp .NotIn) (rIn X.K true):=by
  intro pins s σ H x y v u Q I rx ry h
  obtain ⟨p,xs,rfl,hq,fx,fs,q⟩:=h
  cases ry
  rcases hq with hq | hq
  · obtain ⟨its,r,pl,hz⟩:=I.list hq
    refine SeqAt.notIn_listAt (eqU x) pl.isList (fun w hw=>jbZ rx fx r fs w (by simpa using hw)) ⟨.bl _,H,I,rfl,?_⟩
    rw [show its.toArray.any (eqU x) = its.any (eqU x) by simp,jdo r fs]
    exact q
  · obtain ⟨its,r,pl,hz⟩:=I.tuple hq
    refine SeqAt.notIn_tupleAt (eqU x) pl (fun w hw=>jbZ rx fx r fs w (by simpa using hw)) ⟨.bl _,H,I,rfl,?_⟩
    rw [show its.toArray.any (eqU x) = its.any (eqU x) by simp,jdo r fs]
    exact q
theorem Ja:yx X (.builtin "len") (fun xs H Q=>∃ p ys,xs = [.ref p] /\ (SqL X.K H p ys ∨ SqT X.K H p ys) /\ Q (.int ys.length) H):=by
  intro pins s σ H xs us Q I r h
  obtain ⟨p,ys,rfl,hq,q⟩:=h
  obtain ⟨u,rfl,rx⟩:=vals1 r
  cases rx
  have hn:=jfM
  rcases hq with hq | hq
  · obtain ⟨its,r',pl,hz⟩:=I.list hq
    have hlen:=r'.length
    exact Calls.call_len_list pl.isList (by simp only [List.size_toArray] <;> omega) ⟨.int ys.length,H,I.tok _,⟨s.toks + 1,by rw [List.size_toArray,hlen]⟩,q⟩
  · obtain ⟨its,r',pl,hz⟩:=I.tuple hq
    have hlen:=r'.length
    exact len_tuple pl (by simp only [List.size_toArray] <;> omega) ⟨.int ys.length,H,I.tok _,⟨s.toks + 1,by rw [List.size_toArray,hlen]⟩,q⟩
theorem zQ:yx X (.builtin "len") (fun xs H Q=>∃ z,xs = [.str z] /\ z.length <= sizeLine /\ Q (.int z.length) H):=by
  intro pins s σ H xs us Q I r h
  obtain ⟨z,rfl,hz,q⟩:=h
  obtain ⟨u,rfl,t,rfl⟩:=vals1 r
  have hn:=jfM
  exact len_str (by omega) ⟨.int z.length,H,I.tok _,⟨_,rfl⟩,q⟩
theorem jdp:yx X (.type "list") (fun xs H Q=>∃ p ys,xs = [.ref p] /\ (SqL X.K H p ys ∨ SqT X.K H p ys) /\ ∀ l,H l = none->Q (.ref l) (upd H l (.lst ys))):=by
  intro pins s σ H xs us Q I r h
  obtain ⟨p,ys,rfl,hq,q⟩:=h
  obtain ⟨u,rfl,rx⟩:=vals1 r
  cases rx
  have fin:∀ (its:List Value),Vals ys its->ys.length <= sizeLine->∀ (h':Heap) (c':Nat),(∀ b o',s.heap.get? b = some o'->h'.get? b = some o') ->
      h'.get? s.heap.objs.size = some { cls:=.type "list",dict:=none,data:=.seq its.toArray c',slots:=#[] }->EP X pins σ Q (.ref s.heap.objs.size) { s with heap:=h' }:=fun its r' hz h' c' kp e =>
    ⟨.ref s.heap.objs.size,_,I.laid (t':=s.toks) kp (Nat.le_refl _) (show qQ X.prog X.w _ h' _ (.lst ys) from ⟨hz,its,c',r',e⟩),rfl,q _ (I.hok.fresh (Nat.le_refl _))⟩
  rcases hq with hq | hq
  · obtain ⟨its,r',pl,hz⟩:=I.list hq
    have hlen:=r'.length
    obtain ⟨o,ho,hc,n,hd⟩:=pl.isList
    exact call_list_seq p (.inl rfl) ho hc hd (fun h' c' kp e=>fin its r' hz h' c' kp e) (by simp only [List.size_toArray] <;> omega)
  · obtain ⟨its,r',pl,hz⟩:=I.tuple hq
    have hlen:=r'.length
    obtain ⟨o,ho,hc,n,hd⟩:=pl
    exact call_list_seq p (.inr rfl) ho hc hd (fun h' c' kp e=>fin its r' hz h' c' kp e) (by simp only [List.size_toArray] <;> omega)
noncomputable def tyV (K:PySem.W.Frag) (T:String) (x:V) (H:Hp):Prop:=match x with
  | .str _=>T = "str"
  | .int _=>T = "int"
  | .ref p=>(T = "list" /\ ∃ xs,SqL K H p xs) ∨ (T = "tuple" /\ ∃ o,K.lookup p = some o /\ o.cls = .type "tuple" /\ o.dict = none) ∨
      (T = "dict" /\ ((∃ kvs,H p = some (.dK kvs)) ∨ ∃ kvs,H p = some (.dT kvs))) ∨ (T = "set" /\ ∃ S n,H p = some (.set S n))
  | _=>False
theorem tyV_is {pins:List (Addr × Obj)} {σ:St} {H:Hp} {s:Shared} {T:String} {x:V} {v:Value} (I:Inv X pins σ H s) (r:RelV x v) (ty:tyV X.K T x H) :
    s.TypeIs v T /\ ∀ a,v = .ref a->∃ ob,s.heap.get? a = some ob /\ ob.dict = none:=by
  cases x with
  | str z =>
    obtain ⟨t,rfl⟩:=r
    cases (show T = "str" from ty)
    exact ⟨typeIs_str s z t,fun _ e=>nomatch e⟩
  | int i =>
    obtain ⟨t,rfl⟩:=r
    cases (show T = "int" from ty)
    exact ⟨typeIs_int s i t,fun _ e=>nomatch e⟩
  | ref p =>
    cases r
    rcases ty with ⟨rfl,xs,hq⟩ | ⟨rfl,o,hk,hc,hd⟩ | ⟨rfl,hk⟩ | ⟨rfl,S,n,hk⟩
    · obtain ⟨its,_,pl,_⟩:=I.list hq
      refine ⟨pl.isList.typeIs,fun a e=>?_⟩
      cases e
      obtain ⟨o,n,e,c,hd,_⟩:=pl
      exact ⟨o,e,hd⟩
    · refine ⟨⟨o,I.kIn p o hk,hc⟩,fun a e=>?_⟩
      cases e
      exact ⟨o,I.kIn _ o hk,hd⟩
    · have z:∃ o,s.heap.get? p = some o /\ o.ExactDict:=by
        rcases hk with ⟨kvs,hk⟩ | ⟨kvs,hk⟩
        · obtain ⟨_,_,_,_,o,_,_,e,ex,_⟩:=I.hok p _ hk
          exact ⟨o,e,ex⟩
        · obtain ⟨_,_,_,_,o,_,_,e,ex,_⟩:=I.hok p _ hk
          exact ⟨o,e,ex⟩
      obtain ⟨o,e,ex⟩:=z
      refine ⟨⟨o,e,ex.1⟩,fun a e2=>?_⟩
      cases e2
      exact ⟨o,e,ex.2.1⟩
    · obtain ⟨o,_,_,_,e,ex,_⟩:=I.hok p _ hk
      refine ⟨⟨o,e,ex.1⟩,fun a e2=>?_⟩
      cases e2
      exact ⟨o,e,ex.2.1⟩
  | _=>exact False.elim ty
noncomputable def tBM (K:PySem.W.Frag) (T:String) (r:V->List V->Hp->VK->Prop) (to:TE) (t:TA):TE:=fun σ H Q=>to σ H fun x H1=>tyV K T x H1 /\ t σ H1 fun xs H2=>r x xs H2 Q
variable {o e:Expr} {es:List Expr} {to:TE} {t:TA} {name:Str} {apos cpos:Pos} {T id:String} {r:V->List V->Hp->VK->Prop}
theorem pe_bm (pa:PlainAttrs T) (slot:Slot T name id) (hty:typeOf (.builtin id) = pure (.type "method_descriptor")) (hm:MtR X id r) (ho:PE X o to) (ha:PA X (e :: es) t)
    (hbase:attributeBase o name X.env (eval o X.env) = eval o X.env:=by rfl)
    (hfew:((backTo cpos (starEach (e :: es) X.env)).all (fun x=>!x.1) && (backToKw cpos (keywordEach [] X.env)).all (fun x=>x.1.isSome)
      && decide ((e :: es).length + ([]:List Keyword).length + (if ([]:List Keyword).isEmpty then 0 else 1) < 30)) = true:=by rfl)
    (hline:(apos.endLine == cpos.line) = true:=by rfl) (hs:starEach (e :: es) X.env = (false,eval e X.env) :: starEach es X.env:=by rfl) (hplain:(backTo cpos (starEach es X.env)).any (·.1) = false:=by rfl) :
    PE X (.Call (.Attribute o name apos) (e :: es) [] cpos) (tBM X.K T r to t):=by
  intro pins s σ H Q I h
  refine wpAny_Call_method_late hbase hfew hline rfl (thn (ho pins s σ H _ I h) fun v s1 zz=>?_)
  obtain ⟨x,H1,I1,r1,ty,q1⟩:=zz
  obtain ⟨h1,h2⟩:=tyV_is I1 r1 ty
  refine ⟨T,id,pa,slot,hty,h1,h2,?_⟩
  have hA:=ha cpos pins s1 σ H1 _ I1 q1
  rw [hs] at hA ⊢
  refine Calls.callWith_builtin (by show (false || (backTo cpos (starEach es X.env)).any (·.1)) = false; rw [hplain] <;> rfl) (Calls.evalArgs_plain ?_)
  exact thn hA fun us s2 ⟨vs,H2,I2,r2,q2⟩=>hm pins s2 σ H2 x vs v us Q I2 r1 r2 q2
end
end L2
namespace L2
open PySem PySem.Spec PyProof.Rows
noncomputable def MtM (X:Cx) (id:String) (r:V->List V->Hp->VK->Prop):Prop :=
  ∀ (pins:List (Addr × Obj)) (s:Shared) (σ:St) (H:Hp) (x:V) (xs:List V) (v:Value) (us:List Value) (Q:VK),Inv X pins σ H s->RelV x v->Vals xs us->r x xs H Q ->
    wpAny (model X.prog X.w) X.A (call (.builtin id) (v :: us)) (EP X pins σ Q) X.xe s
theorem Vals.one {x:V} {us:List Value} (h:Vals [x] us):∃ u,us = [u] /\ RelV x u:=by
  cases h with | cons r h=>cases h with | nil=>exact ⟨_,rfl,r⟩
theorem Vals.reverse {xs:List V} {us:List Value} (h:Vals xs us):Vals xs.reverse us.reverse:=by
  induction h with
  | nil=>exact .nil
  | cons r t ih=>rw [List.reverse_cons,List.reverse_cons]; exact Vals.append ih (.cons r .nil)
theorem Vals.rep {xs:List V} {us:List Value} (h:Vals xs us):∀ k:Nat,Vals (List.replicate k xs).flatten (List.replicate k us).flatten
  | 0=>.nil
  | k + 1=>by
    rw [List.replicate_succ,List.replicate_succ,List.flatten_cons,List.flatten_cons]
    exact Vals.append h (Vals.rep h k)
theorem foldl_rep (its:List Value):∀ (k:Nat) (acc:List Value),
    List.foldl (fun x1 x2=>x1 ++ x2) acc.toArray (List.replicate k its.toArray) = (acc ++ (List.replicate k its).flatten).toArray
  | 0,acc=>by simp
  | k + 1,acc=>by
    have e:acc.toArray ++ its.toArray = (acc ++ its).toArray:=by simp
    have e2:(acc ++ its) ++ (List.replicate k its).flatten = acc ++ (List.replicate (k + 1) its).flatten:=by
      rw [List.replicate_succ,List.flatten_cons,List.append_assoc]
    rw [<- e2,<- foldl_rep its k (acc ++ its),<- e,List.replicate_succ,List.foldl_cons]
section
variable {X:Cx} {pins:List (Addr × Obj)} {σ:St} {H:Hp} {s:Shared} {l b:Addr} {xs ys zs:List V}
theorem Inv.lset {its its':List Value} {n:Nat} {f:Array Value->Array Value} {t':Nat} (I:Inv X pins σ H s) (hH:H l = some (.lst xs))
    (e:s.heap.get? l = some { cls:=.type "list",data:=.seq its.toArray n }) (hf:f its.toArray = its'.toArray) (hv:Vals ys its') (hz:ys.length <= sizeLine) :
    Inv X pins σ (upd H l (.lst ys)) { s with heap:=s.heap.update l (Obj.mapSeq f),toks:=t' }:=by
  have q:=PySem.IsL.update e f
  rw [hf] at q
  refine I.write (x:=l) (e:=l) (by rw [hH]; exact trivial) (.inl rfl) (fun b' u hb hu=>(Heap.get?_update_other s.heap (Obj.mapSeq f) (Ne.symm hb)).trans hu) ⟨_,q⟩ ?_
  exact ⟨hz,its',_,hv,q⟩
theorem Inv.lnew {its:List Value} {t':Nat} (I:Inv X pins σ H s) (hv:Vals ys its) (hz:ys.length <= sizeLine) :
    Inv X pins σ (upd H s.heap.objs.size (.lst ys)) { s with heap:=s.heap.push { cls:=.type "list",data:=.seq its.toArray },toks:=t' } :=
  I.laid (fun _ _ q=>Heap.get?_push_of_some _ q) (Nat.le_refl _) ⟨hz,its,0,hv,Heap.get?_push_size _ rfl⟩
theorem Inv.fresh (I:Inv X pins σ H s):H s.heap.objs.size = none:=I.hok.fresh (Nat.le_refl _)
theorem Inv.lstM (I:Inv X pins σ H s) (hH:H l = some (.lst xs)):xs.length <= sizeLine /\ ∃ (its:List Value) (n:Nat),Vals xs its /\ xs.length = its.length /\ s.heap.get? l = some { cls:=.type "list",data:=.seq its.toArray n }:=by
  obtain ⟨z,its,n,r,e⟩:=I.hok l _ hH
  exact ⟨z,its,n,r,r.length,e⟩
theorem notLongL {n:Nat} (h:n <= sizeLine):Builtin.List.listTooLong n = false:=by
  unfold Builtin.List.listTooLong
  exact decide_eq_false (by omega)
end
section
variable {X:Cx}
noncomputable def jh6:V->List V->Hp->VK->Prop:=fun x vs H Q=>∃ l xs y,x = .ref l /\ vs = [y] /\ H l = some (.lst xs) /\ xs.length < sizeLine /\ Q .non (upd H l (.lst (xs ++ [y])))
theorem jhi:MtM X "list.append" jh6:=by
  intro pins s σ H x vs v us Q I rx rv h
  obtain ⟨l,xs,y,rfl,rfl,hH,hz,q⟩:=h
  cases rx
  obtain ⟨u,rfl,ru⟩:=rv.one
  obtain ⟨z,its,n,r,hl,e⟩:=I.lstM hH
  refine call_meets F.slot_list_append ⟨_,e,rfl⟩ F.entry_list_append (F.args_list_append_2 _ _) (PySem.list_append l its.toArray n u (by rw [List.size_toArray]; omega)) ⟨e,?_⟩
  refine ⟨.non,_,I.lset (its':=its ++ [u]) hH e (by simp) (r.append (.cons ru .nil)) ?_,rfl,q⟩
  rw [List.length_append,List.length_singleton]
  omega
noncomputable def rCat:R2:=fun x y H Q=>∃ l b xs zs,x = .ref l /\ y = .ref b /\ H l = some (.lst xs) /\ H b = some (.lst zs) /\ xs.length + zs.length <= sizeLine /\ ∀ p,H p = none->Q (.ref p) (upd H p (.lst (xs ++ zs)))
theorem jjF:OpR X (binaryOp .Add) rCat:=by
  intro pins s σ H x y v u Q I rx ry h
  obtain ⟨l,b,xs,zs,rfl,rfl,hH,hB,hz,q⟩:=h
  cases rx
  cases ry
  obtain ⟨z,its,n,r,hl,e⟩:=I.lstM hH
  obtain ⟨z2,its2,n2,r2,hl2,e2⟩:=I.lstM hB
  refine PySem.P.add_list e e2 ?_ (by rw [List.size_toArray,List.size_toArray]; omega)
  have ea:its.toArray ++ its2.toArray = (its ++ its2).toArray:=by simp
  rw [ea]
  exact ⟨.ref _,_,I.lnew (t':=s.toks) (r.append r2) (by rw [List.length_append]; omega),rfl,q _ I.fresh⟩
noncomputable def rRep:R2:=fun x y H Q=>∃ l k xs,x = .ref l /\ y = .int k /\ H l = some (.lst xs) /\ -(2 ^ 63) <= k /\ k < 2 ^ 63 /\ xs.length * k.toNat <= sizeLine /\
  ∀ p,H p = none->Q (.ref p) (upd H p (.lst (List.replicate k.toNat xs).flatten))
theorem len_rep {α:Type} (xs:List α) (k:Nat):(List.replicate k xs).flatten.length = k * xs.length:=by
  induction k with
  | zero=>simp
  | succ k ih=>rw [List.replicate_succ,List.flatten_cons,List.length_append,ih,Nat.succ_mul,Nat.add_comm]
theorem op_rep:OpR X (binaryOp .Mult) rRep:=by
  intro pins s σ H x y v u Q I rx ry h
  obtain ⟨l,k,xs,rfl,rfl,hH,h1,h2,hz,q⟩:=h
  cases rx
  obtain ⟨t,rfl⟩:=ry
  obtain ⟨z,its,n,r,hl,e⟩:=I.lstM hH
  have hlen:its.toArray.size * k.toNat <= sizeLine:=by rw [List.size_toArray,<- hl]; exact hz
  have hcap:¬ its.toArray.size * k.toNat > (2 ^ 63 - 1) / 8:=by
    have:(sizeLine:Nat) <= (2 ^ 63 - 1) / 8:=by decide
    omega
  have hfit:¬ (!Builtin.List.listFitsIndex k) = true:=by
    rw [fitsIndex_both h1 h2]
    exact Bool.false_ne_true
  have hlong:¬ Builtin.List.listTooLong (its.toArray.size * k.toNat) = true:=by
    rw [notLongL hlen]
    exact Bool.false_ne_true
  have hnew:List.foldl (fun x1 x2=>x1 ++ x2) #[] (List.replicate (if its.toArray.isEmpty = true then 0 else k.toNat) its.toArray) = (List.replicate k.toNat its).flatten.toArray:=by
    have f0:∀ m:Nat,List.foldl (fun x1 x2=>x1 ++ x2) #[] (List.replicate m its.toArray) = (List.replicate m its).flatten.toArray:=fun m=>by
      have:=foldl_rep its m []
      rw [List.nil_append] at this
      exact this
    rw [f0]
    cases its with
    | nil=>simp
    | cons a r'=>rw [if_neg (by simp)]
  refine wpAny_binaryOp_repeat_ref (T := "list") (U := "int") (by decide) ⟨_,e,rfl⟩ (fun s'=>typeIs_int s' k t) noFill_list_mul F.fills_int_mul F.slot_int_rmul repeat_list F.slot_int_index.lookup
    (call_meets F.slot_int_rmul (typeIs_int s k t) F.entry_int_rmul (F.args_int_rmul_2 _ _) (int___rmul___int_list k t l its.toArray n)
      ⟨e,rfl,⟨_,e,rfl⟩,call_meets F.slot_list_mul ⟨_,e,rfl⟩ F.entry_list_mul (F.args_list_mul_2 _ _) (AutoListH.list___mul___list_int_3 l its.toArray n k t hfit hcap hlong) ⟨e,?_⟩⟩)
  rw [hnew]
  exact ⟨.ref _,_,I.lnew (t':=s.toks) (r.rep k.toNat) (by rw [len_rep,Nat.mul_comm]; exact hz),rfl,q _ I.fresh⟩
end
section
variable {prog:Program} {w:World} {A:Around} {E:Value->Shared->Prop} {s:Shared}
set_option maxRecDepth 100000 in
end
section
variable {X:Cx}
end
end L2
namespace L2
open PySem PySem.Spec PyProof.Rows
section
variable {κ:Type} [DecidableEq κ]
noncomputable def valV (kvs:List (κ × V)) (k:κ):Option V:=(kvs.find? fun kv=>decide (kv.1 = k)).map (·.2)
noncomputable def putK (kvs:List (κ × V)) (k:κ) (v:V):List (κ × V) :=
  if (kvs.any fun kv=>decide (kv.1 = k)) = true then kvs.map (fun kv=>if kv.1 = k then (kv.1,v) else kv) else kvs ++ [(k,v)]
theorem ye {p:κ × V} {r:List (κ × V)} {k:κ} (e:p.1 = k):valV (p :: r) k = some p.2:=by simp [valV,List.find?_cons,e]
theorem yd {p:κ × V} {r:List (κ × V)} {k:κ} (e:¬ p.1 = k):valV (p :: r) k = valV r k:=by simp [valV,List.find?_cons,e]
theorem jcr (k:κ):∀ kvs:List (κ × V),(kvs.any fun kv=>decide (kv.1 = k)) = (valV kvs k).isSome
  | []=>rfl
  | p :: r=>by
    rw [List.any_cons]
    by_cases e:p.1 = k
    · simp only [ye e,decide_eq_true e,Bool.true_or,Option.isSome_some]
    · rw [yd e,decide_eq_false e,Bool.false_or]; exact jcr k r
theorem ji7 (k j:κ) (y:V):∀ kvs:List (κ × V),valV (kvs.map fun kv=>if kv.1 = k then (kv.1,y) else kv) j = (valV kvs j).map fun x=>if j = k then y else x
  | []=>rfl
  | p :: r=>by
    have ih:=ji7 k j y r
    rw [List.map_cons]
    by_cases h:p.1 = k
    · rw [if_pos h]
      by_cases e:p.1 = j
      · rw [ye (p:=(p.1,y)) e,ye e,Option.map_some,if_pos (e.symm.trans h)]
      · rw [yd (p:=(p.1,y)) e,yd e,ih]
    · rw [if_neg h]
      by_cases e:p.1 = j
      · rw [ye (p:=p) e,ye e,Option.map_some,if_neg (fun z=>h (e.trans z))]
      · rw [yd (p:=p) e,yd e,ih]
theorem jaK (k j:κ) (y:V):∀ kvs:List (κ × V),valV kvs k = none->valV (kvs ++ [(k,y)]) j = if j = k then some y else valV kvs j
  | [],_=>by
    by_cases e:k = j
    · rw [if_pos e.symm]; exact ye (p:=(k,y)) e
    · rw [if_neg (fun z=>e z.symm)]; exact yd (p:=(k,y)) e
  | p :: r,hn=>by
    rw [List.cons_append]
    have hk:¬ p.1 = k:=fun z=>by rw [ye z] at hn; cases hn
    rw [yd hk] at hn
    have ih:=jaK k j y r hn
    by_cases e:p.1 = j
    · rw [ye e,ye e,if_neg (fun z=>hk (e.trans z))]
    · rw [yd e,yd e,ih]
theorem ji8 (kvs:List (κ × V)) (k j:κ) (y:V):valV (putK kvs k y) j = if j = k then some y else valV kvs j:=by
  unfold putK
  by_cases a:(kvs.any fun kv=>decide (kv.1 = k)) = true
  · rw [if_pos a,ji7]
    rw [jcr] at a
    by_cases e:j = k
    · obtain ⟨x,hx⟩:=Option.isSome_iff_exists.mp a
      rw [if_pos e,e,hx,Option.map_some,if_pos rfl]
    · rw [if_neg e]
      cases valV kvs j with
      | none=>rfl
      | some x=>rw [Option.map_some,if_neg e]
  · rw [if_neg a]
    refine jaK k j y kvs ?_
    rw [jcr] at a
    cases q:valV kvs k with
    | none=>rfl
    | some x=>rw [q] at a; exact (a rfl).elim
theorem jbY (kvs:List (κ × V)) (k:κ) (v:V):(putK kvs k v).length <= kvs.length + 1:=by
  unfold putK
  split
  · rw [List.length_map]; omega
  · rw [List.length_append,List.length_cons,List.length_nil]; omega
theorem jiV {kvs:List (κ × V)} {k:κ} (v:V) (h:valV kvs k = none):putK kvs k v = kvs ++ [(k,v)]:=by
  unfold putK
  rw [jcr,h]
  exact if_neg (by decide)
theorem RelO.jak {o:Option V} {u:Option Value} (r:RelO o u):o.isSome = u.isSome:=by
  cases o with
  | none=>cases u with
    | none=>rfl
    | some _=>exact (show False from r).elim
  | some _=>cases u with
    | none=>exact (show False from r).elim
    | some _=>rfl
theorem RelO.getD {o:Option V} {u:Option Value} {d:V} {d':Value} (r:RelO o u) (rd:RelV d d'):RelV (o.getD d) (u.getD d'):=by
  cases o with
  | none=>cases u with
    | none=>exact rd
    | some _=>exact (show False from r).elim
  | some _=>cases u with
    | none=>exact (show False from r).elim
    | some _=>exact r
theorem KV.val {kvs:List (κ × V)} {vs:List (κ × Value)} (r:KV kvs vs) (k:κ):RelO (valV kvs k) (valueAt vs k):=by
  unfold KV at r
  induction r with
  | nil=>exact True.intro
  | @cons p q ps qs h t ih =>
    obtain ⟨h1,h2⟩:=h
    by_cases e:p.1 = k
    · have e':q.1 = k:=h1.symm.trans e
      have b:valueAt (q :: qs) k = some q.2:=by simp [valueAt,List.find?_cons,e']
      rw [ye e,b]; exact h2
    · have e':¬ q.1 = k:=fun z=>e (h1.trans z)
      have b:valueAt (q :: qs) k = valueAt qs k:=by simp [valueAt,List.find?_cons,e']
      rw [yd e,b]; exact ih
theorem KV.any {kvs:List (κ × V)} {vs:List (κ × Value)} (r:KV kvs vs) (k:κ):(kvs.any fun kv=>decide (kv.1 = k)) = vs.any fun kv=>decide (kv.1 = k):=by
  unfold KV at r
  induction r with
  | nil=>rfl
  | cons h t ih=>rw [List.any_cons,List.any_cons,ih,h.1]
theorem KV.repl {kvs:List (κ × V)} {vs:List (κ × Value)} (r:KV kvs vs) (k:κ) {y:V} {u:Value} (ry:RelV y u) :
    KV (kvs.map fun kv=>if kv.1 = k then (kv.1,y) else kv) (vs.map fun kv=>if kv.1 = k then (kv.1,u) else kv):=by
  unfold KV at r ⊢
  induction r with
  | nil=>exact .nil
  | @cons p q ps qs h t ih =>
    rw [List.map_cons,List.map_cons]
    refine .cons ?_ ih
    obtain ⟨h1,h2⟩:=h
    by_cases e:p.1 = k
    · rw [if_pos e,if_pos (h1.symm.trans e)]; exact ⟨h1,ry⟩
    · rw [if_neg e,if_neg (fun z=>e (h1.trans z))]; exact ⟨h1,h2⟩
theorem KV.put {kvs:List (κ × V)} {vs:List (κ × Value)} (r:KV kvs vs) (k:κ) {y:V} {u:Value} (ry:RelV y u):KV (putK kvs k y) (stored vs k u):=by
  unfold putK stored
  rw [r.any k]
  by_cases e:(vs.any fun kv=>decide (kv.1 = k)) = true
  · rw [if_pos e,if_pos e]; exact r.repl k ry
  · rw [if_neg e,if_neg e]; exact Paired.snoc r ⟨rfl,ry⟩
theorem KV.length {kvs:List (κ × V)} {vs:List (κ × Value)} (r:KV kvs vs):kvs.length = vs.length:=Paired.length r
end
theorem jhe {P:Program} {w:World} {k:Key} {u:Value} (r:RelV (kV k) u):(qF P w).is k u = true:=by
  cases k with
  | inl i=>obtain ⟨t,e⟩:=(show ∃ t,u = Value.int i t from r); subst e; exact jiJ P w i t
  | inr x=>obtain ⟨t,e⟩:=(show ∃ t,u = Value.str x t from r); subst e; exact jiK P w x t
theorem jhb {P:Program} {w:World}:∀ {ks:List Key} {us:List Value},Vals (ks.map kV) us->ItemsAre (qF P w) ks us
  | [],_,r=>by rw [List.map_nil] at r; cases r; exact .nil
  | k :: ks,_,r=>by
    rw [List.map_cons] at r
    cases r with
    | cons h t=>exact .cons (jhe h) (jhb t)
noncomputable abbrev KT (H:Hp):List (List Key × V)->List (List Key × Addr × Value)->Prop:=Paired fun p q=>p.1 = q.1 /\ H q.2.1 = some (.tup (p.1.map kV)) /\ RelV p.2 q.2.2
theorem KT.val {H:Hp} {kvs:List (List Key × V)} {xs:List (List Key × Addr × Value)} (r:KT H kvs xs) (k:List Key):RelO (valV kvs k) ((atKey xs k).map (·.2)):=by
  induction r with
  | nil=>exact True.intro
  | @cons p q ps qs h t ih =>
    obtain ⟨h1,_,h2⟩:=h
    by_cases e:p.1 = k
    · have e':q.1 = k:=h1.symm.trans e
      have b:atKey (q :: qs) k = some q.2:=by simp [atKey,List.find?_cons,e']
      rw [ye e,b]; exact h2
    · have e':¬ q.1 = k:=fun z=>e (h1.trans z)
      have b:atKey (q :: qs) k = atKey qs k:=by simp [atKey,List.find?_cons,e']
      rw [yd e,b]; exact ih
theorem KT.repl {H:Hp} {kvs:List (List Key × V)} {xs:List (List Key × Addr × Value)} (r:KT H kvs xs) (k:List Key) {y:V} {u:Value} (ry:RelV y u) :
    KT H (kvs.map fun kv=>if kv.1 = k then (kv.1,y) else kv) (xs.map (putAt k u)):=by
  induction r with
  | nil=>exact .nil
  | @cons p q ps qs h t ih =>
    rw [List.map_cons,List.map_cons]
    refine .cons ?_ ih
    obtain ⟨h1,h2,h3⟩:=h
    unfold putAt
    by_cases e:p.1 = k
    · rw [if_pos e,if_pos (h1.symm.trans e)]; exact ⟨h1,h2,ry⟩
    · rw [if_neg e,if_neg (fun z=>e (h1.trans z))]; exact ⟨h1,h2,h3⟩
theorem KT.put {H:Hp} {kvs:List (List Key × V)} {xs:List (List Key × Addr × Value)} (r:KT H kvs xs) (k:List Key) {b:Addr} {y:V} {u:Value} (hb:H b = some (.tup (k.map kV))) (ry:RelV y u) :
    KT H (putK kvs k y) (storedH xs k b u):=by
  have e:(kvs.any fun kv=>decide (kv.1 = k)) = (atKey xs k).isSome:=by
    rw [jcr,(r.val k).jak,Option.isSome_map]
  unfold putK storedH
  rw [e]
  by_cases q:(atKey xs k).isSome = true
  · rw [if_pos q,if_pos q]; exact r.repl k ry
  · rw [if_neg q,if_neg q]; exact Paired.snoc r ⟨rfl,hb,ry⟩
theorem KT.keeps {H H':Hp} {kvs:List (List Key × V)} {xs:List (List Key × Addr × Value)} (r:KT H kvs xs) (ht:∀ b ys,H b = some (.tup ys)->H' b = some (.tup ys)):KT H' kvs xs :=
  Paired.mapP r fun _ _ z=>⟨z.1,ht _ _ z.2.1,z.2.2⟩
section
variable {P:Program} {w:World} {H:Hp} {h:Heap} {a:Addr}
theorem rd_of {u:HO} (ok:HOk P w H h) (e:Rd H a u):qQ P w H h a u:=e.ok ok
theorem jfz {kvs:List (Key × V)} (ok:HOk P w H h) (e:Rd H a (.dK kvs)):kvs.length <= sizeLine /\ (a == sysModules) = false /\ ∃ vs,KV kvs vs /\ h.DictOf (qF P w) a vs :=
  show qQ P w H h a (.dK kvs) from rd_of ok e
theorem dk_of {kvs:List (Key × V)} (ok:HOk P w H h) (e:H a = some (.dK kvs)):kvs.length <= sizeLine /\ (a == sysModules) = false /\ ∃ vs,KV kvs vs /\ h.DictOf (qF P w) a vs:=jfz ok (.inl e)
theorem jd3 {ks:List Key} (ok:HOk P w H h) (e:H a = some (.tup (ks.map kV))):(tupleKind (qF P w)).is h ks a:=by
  obtain ⟨_,its,r,o,h1,h2,n,h3⟩:=(show qQ P w H h a (.tup (ks.map kV)) from ok a _ e)
  exact ⟨o,its.toArray,n,h1,h2,h3,by simpa using jhb r⟩
theorem jfA {kvs:List (List Key × V)} (ok:HOk P w H h) (e:Rd H a (.dT kvs)):kvs.length <= sizeLine /\ (a == sysModules) = false /\
    ∃ xs,KT H kvs xs /\ h.DictOfH (tupleKind (qF P w)) a xs:=by
  obtain ⟨z,y,xs,r,o,es,ep,h1,h2,h3,h4,h5⟩:=(show qQ P w H h a (.dT kvs) from rd_of ok e)
  refine ⟨z,y,xs,r,o,es,ep,h1,h2,h3,h4,fun x hx=>?_,h5⟩
  have all:∀ {l:List (List Key × V)} {m:List (List Key × Addr × Value)},KT H l m->∀ x ∈ m,(tupleKind (qF P w)).is h x.1 x.2.1:=by
    intro l m q
    induction q with
    | nil=>intro x hx; exact nomatch hx
    | @cons p q ps qs hq t ih =>
      intro x hx
      rcases List.mem_cons.mp hx with e | hx
      · subst e
        exact jd3 ok (by rw [<- hq.1]; exact hq.2.1)
      · exact ih x hx
  exact all r x hx
theorem dt_of {kvs:List (List Key × V)} (ok:HOk P w H h) (e:H a = some (.dT kvs)):kvs.length <= sizeLine /\ (a == sysModules) = false /\
    ∃ xs,KT H kvs xs /\ h.DictOfH (tupleKind (qF P w)) a xs:=jfA ok (.inl e)
end
noncomputable def DGet (H:Hp) (a:Addr) (y:V) (r:Option V):Prop :=
  (∃ kvs k,Rd H a (.dK kvs) /\ y = kV k /\ r = valV kvs k) ∨ ∃ kvs k b,Rd H a (.dT kvs) /\ y = .ref b /\ H b = some (.tup (k.map kV)) /\ r = valV kvs k
noncomputable def DPut (H:Hp) (a:Addr) (y v:V) (H':Hp):Prop :=
  (∃ kvs k,H a = some (.dK kvs) /\ y = kV k /\ kvs.length < sizeLine /\ H' = upd H a (.dK (putK kvs k v))) ∨
  ∃ kvs k b,H a = some (.dT kvs) /\ y = .ref b /\ H b = some (.tup (k.map kV)) /\ kvs.length < sizeLine /\ H' = upd H a (.dT (putK kvs k v))
theorem DGet.k {H:Hp} {a:Addr} {kvs:List (Key × V)} {k:Key} (e:H a = some (.dK kvs)):DGet H a (kV k) (valV kvs k):=.inl ⟨kvs,k,.inl e,rfl,rfl⟩
theorem DPut.k {H:Hp} {a:Addr} {kvs:List (Key × V)} {k:Key} {v:V} (e:H a = some (.dK kvs)) (hl:kvs.length < sizeLine):DPut H a (kV k) v (upd H a (.dK (putK kvs k v))):=.inl ⟨kvs,k,e,rfl,hl,rfl⟩
section
variable {X:Cx} {pins:List (Addr × Obj)} {σ:St} {H:Hp} {s:Shared} {a:Addr} {y v:V} {u r:Value} {o:Option V} {A:Around} {E:Value->Shared->Prop}
theorem Inv.big (I:Inv X pins σ H s):sysModules < s.heap.objs.size:=by
  have h:mainGlobals < s.heap.objs.size:=(I.mod.glob.keeps I.bk).lt
  exact Nat.lt_trans (by decide) h
theorem jku {Q:Value->Shared->Prop} (hu:A.units + 1 < cLine) (I:Inv X pins σ H s) (g:DGet H a y (some v)) (ry:RelV y u) (h:∀ w' s',Inv X pins σ H s'->RelV v w'->Q w' s') :
    wpAny (model X.prog X.w) A (getItem (.ref a) u) Q E s:=by
  rcases g with ⟨kvs,k,e,ey,l⟩ | ⟨kvs,k,b,e,ey,eb,l⟩
  · subst ey
    obtain ⟨z,hd,vs,rel,dd⟩:=jfz I.hok e
    obtain ⟨w',hw,rw'⟩:=RelO.some_of (v:=v) (o:=valueAt vs k) (by rw [l]; exact rel.val k)
    exact wpAny_getItem_of (jhe ry) dd.mapOf hw (h w' _ (I.tok _) rw')
  · subst ey
    cases (show u = Value.ref b from ry)
    obtain ⟨z,hd,xs,rel,dd⟩:=jfA I.hok e
    obtain ⟨w',hw,rw'⟩:=RelO.some_of (v:=v) (o:=(atKey xs k).map (·.2)) (by rw [l]; exact rel.val k)
    obtain ⟨p,hp,hp2⟩:=Option.map_eq_some_iff.mp hw
    refine wpAny_getItem_heap (tupleKind_room_in1 hu) (jd3 I.hok eb) dd hp ?_
    rw [hp2]
    exact h w' _ (I.tok _) rw'
theorem d_in {Q:Value->Shared->Prop} (hu:A.units + 1 < cLine) (I:Inv X pins σ H s) (g:DGet H a y o) (ry:RelV y u) (h:∀ s',Inv X pins σ H s'->Q (.bool o.isSome) s') :
    wpAny (model X.prog X.w) A (compareOp .In u (.ref a)) Q E s:=by
  rcases g with ⟨kvs,k,e,ey,l⟩ | ⟨kvs,k,b,e,ey,eb,l⟩
  · subst ey
    obtain ⟨z,hd,vs,rel,dd⟩:=jfz I.hok e
    refine wpAny_in_of (jhe ry) hd dd.mapOf ?_
    rw [<- (rel.val k).jak,<- l]
    exact h _ (I.tok _)
  · subst ey
    cases (show u = Value.ref b from ry)
    obtain ⟨z,hd,xs,rel,dd⟩:=jfA I.hok e
    refine wpAny_in_heap (tupleKind_room_in1 hu) (jd3 I.hok eb) hd dd ?_
    have q:=(rel.val k).jak
    rw [Option.isSome_map] at q
    rw [<- q,<- l]
    exact h _ (I.tok _)
theorem d_notIn {Q:Value->Shared->Prop} (hu:A.units + 1 < cLine) (I:Inv X pins σ H s) (g:DGet H a y o) (ry:RelV y u) (h:∀ s',Inv X pins σ H s'->Q (.bool (!o.isSome)) s') :
    wpAny (model X.prog X.w) A (compareOp .NotIn u (.ref a)) Q E s:=by
  rcases g with ⟨kvs,k,e,ey,l⟩ | ⟨kvs,k,b,e,ey,eb,l⟩
  · subst ey
    obtain ⟨z,hd,vs,rel,dd⟩:=jfz I.hok e
    refine wpAny_notIn_of (jhe ry) hd dd.mapOf ?_
    rw [<- (rel.val k).jak,<- l]
    exact h _ (I.tok _)
  · subst ey
    cases (show u = Value.ref b from ry)
    obtain ⟨z,hd,xs,rel,dd⟩:=jfA I.hok e
    refine wpAny_notIn_heap (tupleKind_room_in1 hu) (jd3 I.hok eb) hd dd ?_
    have q:=(rel.val k).jak
    rw [Option.isSome_map] at q
    rw [<- q,<- l]
    exact h _ (I.tok _)
theorem jj5 {h':Heap} {t':Nat} {ob:HO} (I:Inv X pins σ H s) (mu:Mut (H a)) (hs:Heap.SameBut a s.heap h') (he:∃ q,h'.get? a = some q) (new:qQ X.prog X.w (upd H a ob) h' a ob) :
    Inv X pins σ (upd H a ob) { s with heap:=h',toks:=t' } :=
  I.write (x:=a) (e:=a) mu (.inl rfl) (fun b q hb z=>(hs.2 b hb).trans z) he new
theorem dk_new {P:Program} {w:World} {H':Hp} {h':Heap} {kvs:List (Key × V)} {vs:List (Key × Value)} (z:kvs.length <= sizeLine) (hd:(a == sysModules) = false) (rel:KV kvs vs) (dd:h'.DictOf (qF P w) a vs) :
    qQ P w H' h' a (.dK kvs):=⟨z,hd,vs,rel,dd⟩
theorem jkv {H':Hp} {Q:Unit->Shared->Prop} (hu:A.units + 1 < cLine) (I:Inv X pins σ H s) (g:DPut H a y v H') (ry:RelV y u) (rv:RelV v r) (h:∀ s',Inv X pins σ H' s'->Q () s') :
    wpAny (model X.prog X.w) A (setItem (.ref a) u r) Q E s:=by
  rcases g with ⟨kvs,k,e,ey,l,eH⟩ | ⟨kvs,k,b,e,ey,eb,l,eH⟩
  · subst ey eH
    obtain ⟨z,hd,vs,rel,dd⟩:=dk_of I.hok e
    have hz:vs.length <= sizeLine:=by rw [<- rel.length]; exact z
    have hl:(putK kvs k v).length <= sizeLine:=by have:=jbY kvs k v; omega
    refine wpAny_setItem_pairs (hsz:=hz) (jhe ry) dd fun h' dd' hs=>h _ ?_
    have he:∃ q,h'.get? a = some q:=let ⟨q,_,_,hq,_⟩:=dd'; ⟨q,hq⟩
    exact jj5 I (by rw [e]; exact True.intro) hs he (dk_new hl hd (rel.put k rv) dd')
  · subst ey eH
    cases (show u = Value.ref b from ry)
    obtain ⟨z,hd,xs,rel,dd⟩:=dt_of I.hok e
    have hz:xs.length <= sizeLine:=by rw [<- Paired.length rel]; exact z
    have hl:(putK kvs k v).length <= sizeLine:=by have:=jbY kvs k v; omega
    refine wpAny_setItem_heap (hsz:=hz) (tupleKind_room_in1 hu) (jd3 I.hok eb) dd fun h' dd' hs=>h _ ?_
    obtain ⟨q,es,ep,hq,h2,h3,h4,_,h5⟩:=dd'
    refine jj5 I (by rw [e]; exact True.intro) hs ⟨q,hq⟩ ⟨hl,hd,_,(rel.put k eb rv).keeps fun c ys ec=>?_,q,es,ep,hq,h2,h3,h4,h5⟩
    rw [jO (ne_of ec e (fun z=>nomatch z))]
    exact ec
end
section
variable {X:Cx} {pins:List (Addr × Obj)} {σ:St} {H:Hp} {s:Shared} {a:Addr} {kvs:List (Key × V)} {k:Key} {u:Value} {A:Around} {E:Value->Shared->Prop}
end
noncomputable def NoSl (i:Expr):Prop:=∀ ov iv,subscripted i false ov iv = operate [ov,iv] (getItem ov iv)
theorem subD_of {prog:Program} {w:World} {A:Around} {E:Value->Shared->Prop} {s:Shared} {env:Env} {value slice:Expr} {pos:Pos} {T id:String} {Q:Value->Shared->Prop}
    (hl:typeLookup (.type T) "__getitem__" = pure (some (.builtin id))) (hs:NoSl slice)
    (h:wpAny (model prog w) A (eval value env) (fun o s₁=>wpAny (model prog w) A (eval slice env) (fun i s₂=>s₂.TypeIs o T /\ wpAny (model prog w) A (getItem o i) Q E s₂) E s₁) E s) :
    wpAny (model prog w) A (eval (.Subscript value slice pos) env) Q E s:=by
  refine Subscript_ (wpAny_mono h (fun o s₁ h₁=>wpAny_mono h₁ (fun i s₂ h₂=>?_) fun _ _ x=>x) fun _ _ x=>x)
  obtain ⟨hT,h₂⟩:=h₂
  unfold subscriptTail
  refine wpAny_bind ?_
  rw [getitemInPython_of_ne hT.not_modules]
  refine wpAny_bind (wpAny_specialOf hT hl ?_)
  have fin:wpAny (model prog w) A (subscripted slice false o i) (fun r s₃=>wpAny (model prog w) A (letTemporaryGo value o r >>= fun _=>pure r) Q E s₃) E s₂:=by
    rw [hs o i]
    exact wpAny_operating (wpAny_mono h₂ (fun r s₃ h₃=>wpAny_bind (wpAny_letTemporaryGo (wpAny_pure h₃))) fun _ _ x=>x)
  first
    | exact wpAny_pure (wpAny_bind fin)
    | exact wpAny_bind (wpAny_pure (wpAny_bind fin))
    | exact wpAny_bind fin
theorem jiv {X:Cx} {pins:List (Addr × Obj)} {σ:St} {H:Hp} {s:Shared} {a:Addr} {y:V} {o:Option V} (I:Inv X pins σ H s) (g:DGet H a y o):s.TypeIs (.ref a) "dict" := by
  rcases g with ⟨kvs,k,e,_,_⟩ | ⟨kvs,k,b,e,_,_,_⟩
  · obtain ⟨_,_,vs,_,dd⟩:=jfz I.hok e
    exact dd.typeIs
  · obtain ⟨_,_,xs,_,dd⟩:=jfA I.hok e
    exact dd.typeIs
noncomputable def tDGet (td ty:TE):TE:=fun σ H Q=>td σ H fun x H1=>ty σ H1 fun y H2=>∃ a v,x = .ref a /\ DGet H2 a y (some v) /\ Q v H2
noncomputable def sDPut (td ty tv:TE):TS:=fun D σ H=>tv σ H fun v H1=>td σ H1 fun x H2=>ty σ H2 fun y H3=>∃ a H4,x = .ref a /\ DPut H3 a y v H4 /\ D.nx σ H4
section
variable {X:Cx} {o i e value:Expr} {pos pos' tpos:Pos} {td ty tv:TE}
theorem jfb (hu:X.A.units + 1 < cLine) (ho:PE X o td) (hi:PE X i ty) (hs:NoSl i):PE X (.Subscript o i pos) (tDGet td ty):=by
  intro pins s σ H Q I h
  refine subD_of PySem.F.slot_dict_getitem.lookup hs (thn (ho pins s σ H _ I h) fun u s1 ⟨x,H1,I1,rx,q1⟩=>thn (hi pins s1 σ H1 _ I1 q1) fun iv s2 zz=>?_)
  obtain ⟨y,H2,I2,ry,a,v,ex,g,q2⟩:=zz
  subst ex
  obtain rfl:u = Value.ref a:=rx
  exact ⟨jiv I2 g,jku hu I2 g ry fun w' s3 I3 rw'=>⟨v,H2,I3,rw',q2⟩⟩
theorem jfe (hu:X.A.units + 1 < cLine) (ho:PE X o td) (hi:PE X i ty) (hv:PE X value tv) (hs:swapsWith value (some (.Subscript o i pos')) pos.line X.env = pure false) :
    PS X (.Assign [.Subscript o i pos'] value pos) (sDPut td ty tv):=by
  intro pins s σ H D I h
  refine wpAny_Assign_Subscript (thn (hv pins s σ H _ I h) fun r s1 ⟨v,H1,I1,rv,q1⟩=>thn (ho pins s1 σ H1 _ I1 q1) fun u s2 ⟨x,H2,I2,rx,q2⟩=>thn (hi pins s2 σ H2 _ I2 q2) fun iv s3 zz=>?_) hs
  obtain ⟨y,H3,I3,ry,a,H4,ex,g,q3⟩:=zz
  subst ex
  obtain rfl:u = Value.ref a:=rx
  exact jkv hu I3 g ry rv fun s4 I4=>⟨σ,H4,I4,q3⟩
end
theorem dk_empty {P:Program} {w:World} {H:Hp} (h:Heap) (hb:sysModules < h.objs.size):qQ P w H (h.push { cls:=.type "dict",data:=.dict #[] }) h.objs.size (.dK []) :=
  ⟨Nat.zero_le _,beq_eq_false_iff_ne.mpr (Ne.symm (Nat.ne_of_lt hb)),[],.nil,Heap.DictOf.new h⟩
noncomputable def tDNewK:TE:=fun _ H Q=>∀ p,H p = none->Q (.ref p) (upd H p (.dK []))
section
variable {X:Cx} {pos:Pos}
theorem jdC:PE X (.Dict [] [] pos) tDNewK:=fun pins s σ H Q I h =>
  wpAny_Dict_empty ⟨.ref s.heap.objs.size,_,I.laid (a:=s.heap.objs.size) (o:=.dK []) (t':=s.toks) (fun _ _ q=>Heap.get?_push_of_some _ q) (Nat.le_refl _) (dk_empty s.heap I.big),rfl,h _ (I.hok.fresh (Nat.le_refl _))⟩
end
structure M1 (X:Cx) (o:Expr) (m:Str) (apos:Pos) (e:Expr) (cpos:Pos):Prop where
  base:attributeBase o m X.env (eval o X.env) = eval o X.env
  few:((backTo cpos (starEach [e] X.env)).all (fun x=>!x.1) && (backToKw cpos (keywordEach [] X.env)).all (fun x=>x.1.isSome)
    && decide (([e]:List Expr).length + ([]:List Keyword).length + (if ([]:List Keyword).isEmpty then 0 else 1) < 30)) = true
  line:(apos.endLine == cpos.line) = true
  trees:backTo cpos (starEach [e] X.env) = [(false,eval e X.env)]
structure M2 (X:Cx) (o:Expr) (m:Str) (apos:Pos) (e f:Expr) (cpos:Pos):Prop where
  base:attributeBase o m X.env (eval o X.env) = eval o X.env
  few:((backTo cpos (starEach [e,f] X.env)).all (fun x=>!x.1) && (backToKw cpos (keywordEach [] X.env)).all (fun x=>x.1.isSome)
    && decide (([e,f]:List Expr).length + ([]:List Keyword).length + (if ([]:List Keyword).isEmpty then 0 else 1) < 30)) = true
  line:(apos.endLine == cpos.line) = true
  trees:backTo cpos (starEach [e,f] X.env) = [(false,eval e X.env),(false,eval f X.env)]
noncomputable def IsD (H:Hp) (a:Addr):Prop:=(∃ kvs,Rd H a (.dK kvs)) ∨ ∃ kvs,Rd H a (.dT kvs)
theorem isD_at {X:Cx} {pins:List (Addr × Obj)} {σ:St} {H:Hp} {s:Shared} {a:Addr} (I:Inv X pins σ H s) (d:IsD H a) :
    s.TypeIs (.ref a) "dict" /\ (∀ b,Value.ref a = .ref b->∃ ob,s.heap.get? b = some ob /\ ob.dict = none) /\ (a == sysModules) = false:=by
  rcases d with ⟨kvs,e⟩ | ⟨kvs,e⟩
  · obtain ⟨_,hd,vs,_,dd⟩:=jfz I.hok e
    refine ⟨dd.typeIs,fun b q=>?_,hd⟩
    cases q
    obtain ⟨ob,_,_,h1,h2,_⟩:=dd
    exact ⟨ob,h1,h2.2.1⟩
  · obtain ⟨_,hd,xs,_,dd⟩:=jfA I.hok e
    refine ⟨dd.typeIs,fun b q=>?_,hd⟩
    cases q
    obtain ⟨ob,_,_,h1,h2,_⟩:=dd
    exact ⟨ob,h1,h2.2.1⟩
section
variable {X:Cx} {pins:List (Addr × Obj)} {σ:St} {H:Hp} {s:Shared} {a:Addr} {y d:V} {u r:Value} {o:Option V} {A:Around} {E:Value->Shared->Prop}
theorem d_get2 {Q:Value->Shared->Prop} (hu:A.units + 1 < cLine) (I:Inv X pins σ H s) (g:DGet H a y o) (ry:RelV y u) (rd:RelV d r) (h:∀ w' s',Inv X pins σ H s'->RelV (o.getD d) w'->Q w' s') :
    wpAny (model X.prog X.w) A (call (.builtin "dict.get") [.ref a,u,r]) Q E s:=by
  rcases g with ⟨kvs,k,e,ey,l⟩ | ⟨kvs,k,b,e,ey,eb,l⟩
  · subst ey
    obtain ⟨z,hd,vs,rel,dd⟩:=jfz I.hok e
    refine call_meetsIn PySem.F.slot_dict_get dd.typeIs PySem.F.entry_dict_get (PySem.F.args_dict_get_3 _ _ _) (meets_dict_get_default (qF X.prog X.w) a (jhe ry) hd r) ⟨_,dd.mapOf,h _ _ (I.tok _) ?_⟩
    rw [l]
    exact (rel.val k).getD rd
  · subst ey
    cases (show u = Value.ref b from ry)
    obtain ⟨z,hd,xs,rel,dd⟩:=jfA I.hok e
    refine call_meetsIn PySem.F.slot_dict_get dd.typeIs PySem.F.entry_dict_get (PySem.F.args_dict_get_3 _ _ _) (meetsH_dict_get_default (tupleKind (qF X.prog X.w)) a b hd r) ⟨tupleKind_room_in1 hu,k,xs,jd3 I.hok eb,dd,h _ _ (I.tok _) ?_⟩
    rw [l]
    exact (rel.val k).getD rd
end
noncomputable def tDGet2 (td ty tx:TE):TE:=fun σ H Q=>td σ H fun x H1=>∃ a,x = .ref a /\ IsD H1 a /\ ty σ H1 fun y H2=>tx σ H2 fun z H3=>∃ o,DGet H3 a y o /\ Q (o.getD z) H3
section
variable {X:Cx} {o e f:Expr} {apos cpos:Pos} {td ty tx:TE}
theorem jf0 (hu:X.A.units + 1 < cLine) (ho:PE X o td) (he:PE X e ty) (hf:PE X f tx) (m:M2 X o "get" apos e f cpos):PE X (.Call (.Attribute o "get" apos) [e,f] [] cpos) (tDGet2 td ty tx):=by
  intro pins s σ H Q I h
  refine wpAny_Call_method m.base m.few m.line PySem.F.plainAttrs_dict PySem.F.slot_dict_get PySem.F.type_dict_get (thn (ho pins s σ H _ I h) fun u s1 zz=>?_)
  obtain ⟨x,H1,I1,rx,a,ex,d,q1⟩:=zz
  subst ex
  obtain rfl:u = Value.ref a:=rx
  obtain ⟨t1,t2,_⟩:=isD_at I1 d
  refine ⟨t1,t2,?_⟩
  rw [m.trees]
  refine Calls.callWith_builtin rfl (Calls.evalArgs_plain (Calls.spliced_cons (thn (he pins s1 σ H1 _ I1 q1) fun iv s2 ⟨y,H2,I2,ry,q2⟩ =>
    Calls.spliced_cons (thn (hf pins s2 σ H2 _ I2 q2) fun fv s3 ⟨z,H3,I3,rz,ov,g,q3⟩=>Calls.spliced_nil ?_))))
  exact d_get2 hu I3 g ry rz fun w' s4 I4 rw'=>⟨_,H3,I4,rw',q3⟩
end
section
variable {X:Cx} {pins:List (Addr × Obj)} {σ:St} {H:Hp} {s:Shared} {a:Addr} {kvs:List (Key × V)} {A:Around} {E:Value->Shared->Prop}
end
section
variable {X:Cx} {pins:List (Addr × Obj)} {σ:St} {H:Hp} {s:Shared} {a:Addr} {y:V} {u:Value} {A:Around} {E:Value->Shared->Prop}
end
end L2
namespace Att
open PySem PySem.W PySem.Calls PyProof.Rows
theorem jeN {P:Params} {h:Heap}:∀ (ns:List Int) (vs:List Value),WellAll P h vs (ns.map WData.int)->IntsAre vs ns:=by
  intro ns
  induction ns with
  | nil =>
    intro vs w
    rw [List.map_nil] at w
    cases w
    exact .nil
  | cons n ns ih =>
    intro vs w
    rw [List.map_cons] at w
    cases w with
    | cons a b =>
      cases a
      exact .cons _ _ (ih _ b)
theorem jkZ {l:OpenLaw} {n:Nat} (hn:l.most = some n) {P:Params} {h:Heap} {args:List WData} {vals:List Value}
    (hpre:l.row.toRowW.claim.pre args = true) (hwl:WellAll P h vals args) :
    ∃ a vs ns,vals = [Value.ref a] /\ args = [WData.list (ns.map WData.int)] /\ h.get? a = some { cls:=.type "list",data:=.seq vs.toArray } /\ IntsAre vs ns /\ ns.length <= n:=by
  have hsh:WShape.hasAll [] args [.list .int] = true:=(pre_splitW hpre).1
  have hc:l.pre.holds [] { args:=args } = true:=(pre_splitW hpre).2
  obtain ⟨d,r,rfl,h1,h2⟩:=hasAllW_cons hsh
  obtain rfl:=hasAllW_nil h2
  obtain ⟨xs,rfl,h3⟩:=hasW_list h1
  obtain ⟨ns,rfl⟩:=items_int h3
  have hlen:ns.length <= n:=by
    unfold OpenLaw.pre at hc
    have h4:(WTm.not (.lt (.lit (.int (n:Int))) (.len (.arg 0)))).holds [] { args:=[.list (ns.map .int)] } = true:=by
      have h4:=(holds_andW hc).1
      rw [hn] at h4
      exact h4
    have h5:=condW_of h4 (w_not (w_lt w_lit (w_len_list (w_arg rfl))))
    rw [List.length_map] at h5
    refine Nat.le_of_not_lt fun q=>?_
    have q':(n:Int) < ((ns.length:Nat):Int):=by omega
    first
      | (rw [decide_eq_true q'] at h5; exact absurd h5 (by decide))
      | (simp at h5; omega)
  cases hwl with
  | cons w1 w2 =>
    cases w2
    cases w1 with
    | list ho hall=>exact ⟨_,_,ns,rfl,rfl,ho,jeN ns _ hall,hlen⟩
theorem jkU (l:OpenLaw) (args:List WData):l.row.toRowW.claim.post args (.bool true) args = true :=
  postW_of (r:=l.row.toRowW) (X:=(true == true))
    (show WShape.has [] (.bool true) .bool = true by first | rfl | decide | simp [WShape.has,WShape.arms,WShape.armsAll])
    (show (WTm.eq .res (.lit (.bool true))).value [] { args:=args,res:=some (.bool true),after:=args } = some (.bool (true == true)) from w_eq_bool (w_res rfl) w_lit) rfl
theorem jim {l:OpenLaw} {n:Nat} {q:Program} {loose:List Str} {XP:(Str->Option Value)->Heap->Prop} {YP:World->Heap->Prop} {d:DefRec}
    (hn:l.most = some n) (hdf:d.params.defaults = [])
    (call:∀ (w:World) (s₀ s₁:Shared) (mg mb:Str->Option Value) (fa:Addr) (o:Obj) (pm cd doc:Value) (a:Addr) (vs:List Value) (ns:List Int),
      Ground q loose [] XP w s₀ mg mb s₁.heap->YP w s₁.heap ->
      s₁.heap.get? fa = some o->o.data = .func (docDef d.name d.params d.body d.scope pm cd doc)->s₁.heap.CodeRec cd d.name->mg d.name = some (.ref fa) ->
      s₁.heap.get? a = some { cls:=.type "list",data:=.seq vs.toArray }->IntsAre vs ns->ns.length <= n->s₁.gens = #[] ->
      codeAny (model l.prog w) callerA (.call (.ref fa) ⟨[.ref a],[]⟩) (fun r s'=>r = .ok (.ret (.bool true)) /\ OldK s₁.heap s'.heap /\ s'.os = s₁.os /\ AllBare s'.gens) s₁) :
    WalkO q loose XP YP l.row.toRowW d [] (fun f vs=>PySem.call f vs):=by
  intro w s₀ s₁ mg mb G Y fa o pm cd doc dV kV ho hd hcd hD hmg hg args vals as hpre hlay hrd hwl hlo
  obtain rfl:dV = .none:=Dflts.none hD hdf
  obtain rfl:kV = .none:=Dflts.noKw hD
  obtain ⟨a,vs,ns,rfl,rfl,hobj,hints,hlen⟩:=jkZ hn hpre hwl
  refine enter_call (codeAny_mono (call w s₀ s₁ mg mb fa o pm cd doc a vs ns G Y ho (fd_plain hd) hcd hmg hobj hints hlen hg) fun r s' hq=>?_)
  obtain ⟨rfl,h2,h3,h4⟩:=hq
  exact ⟨.inl ⟨.bool true,.bool true,[],rfl,fun _=>rfl,.bool true,jkU l _,fun _=>⟨List.Pairwise.nil,fun _ hm=>(nomatch hm)⟩⟩,h2,h3,h4⟩
section
variable {prog:Program} {w:World} {A:Around} {E:Value->Shared->Prop} {s:Shared} {K:Frag}
end
end Att
namespace L2
open PySem PySem.Spec PyProof.Rows
theorem jhB:∀ {vs:List Value} {ns:List Int},IntsAre vs ns->Vals (ns.map V.int) vs
  | _,_,.nil=>.nil
  | _,_,.cons n t h=>.cons ⟨t,rfl⟩ (jhB h)
noncomputable def Only (H:Hp):Prop:=∀ b,H b = none ∨ ∃ o xs,H b = some (.frz o (.lst xs))
theorem law_call {P:Program} {w:World} {K:PySem.W.Frag} {mg mb:Str->Option Value} {CX:CXT} {k:Nat} {fa a:Addr} {fd:FuncData} {x:Str} {sp:Sp} {s₁:Shared} {vs:List Value} {ns:List Int}
    (KX:K.In s₁.heap) (hns:s₁.heap.Ns mainGlobals mg) (hb:s₁.heap.Ns builtinsNs mb) (hbb:∀ x:Str,x ≠ "__name__" -> mb x = bootBuiltins x) (hlim:s₁.heap.NoLimit) (hg:s₁.gens = #[])
    (ha:s₁.heap.get? a = some { cls:=.type "list",data:=.seq vs.toArray }) (hi:IntsAre vs ns) (hl:ns.length <= sizeLine) (hr:Room k callerA)
    (F:∀ base:Heap,K.In base->base.Ns mainGlobals mg->FnOk P w K mg base CX k fa fd [x] sp) (hbind:∀ (s:Shared) (u:Value),BindsTo s fd ⟨[u],[]⟩ [(x,u)])
    (hsp:∀ H:Hp,Only H->SqL K H a (ns.map V.int)->sp [.ref a] H (fun v _=>v = .bl true) fun _ _ _=>False)
    (hCX:∀ H e s',CX [] H s₁ (fun _ _ _=>False) e s'->False) :
    codeAny (model P w) callerA (.call (.ref fa) ⟨[.ref a],[]⟩) (fun r s'=>r = .ok (.ret (.bool true)) /\ OldK s₁.heap s'.heap /\ s'.os = s₁.os /\ AllBare s'.gens) s₁:=by
  have rv:=jhB hi
  have lenV:=hi.length
  have core:∀ H:Hp,Only H->SqL K H a (ns.map V.int)->HOk P w H s₁.heap->(∀ b,H b ≠ none->b = a)->(H a ≠ none->K.lookup a = none) ->
      codeAny (model P w) callerA (.call (.ref fa) ⟨[.ref a],[]⟩) (fun r s'=>r = .ok (.ret (.bool true)) /\ OldK s₁.heap s'.heap /\ s'.os = s₁.os /\ AllBare s'.gens) s₁:=by
    intro H hO hS hok hA hK
    have base_of:∀ {b:Addr} {o:Obj},s₁.heap.get? b = some o->H b = none->(hidT s₁.heap H).get? b = some o:=fun e n=>hidT_get e n
    have noA:∀ {b:Addr} {o:Obj} {es:Array DictEntry} {ep:Nat},s₁.heap.get? b = some o->o.data = .dict es ep->H b = none:=fun {b o es ep} e d=>by
      cases q:H b with
      | none=>rfl
      | some u =>
        have e':b = a:=hA b (by rw [q]; simp)
        subst e'
        rw [ha] at e; cases e
        have d':Data.seq vs.toArray _ = Data.dict es ep:=d
        cases d'
    have nsK:∀ {b:Addr} {m:Str->Option Value},s₁.heap.Ns b m->(hidT s₁.heap H).Ns b m:=fun {b m} ⟨o,es,ep,e,d,r⟩=>⟨o,es,ep,base_of e (noA e d),d,r⟩
    have hKb:K.In (hidT s₁.heap H):=fun b o e=>base_of (KX b o e) (by
      cases q:H b with
      | none=>rfl
      | some u =>
        have e':b = a:=hA b (by rw [q]; simp)
        subst e'
        rw [hK (by rw [q]; simp)] at e; cases e)
    have hM:Mod K mg (hidT s₁.heap H):=⟨hKb,nsK hns,⟨mb,nsK hb,hbb⟩,let ⟨mc,h1,h2⟩:=hlim; ⟨mc,nsK h1,h2⟩⟩
    have e0:Env0 P w K mg (hidT s₁.heap H) callerA [] s₁ H:=⟨rfl,hM,fun b o e=>of_hidT e,Nat.le_of_eq (jkA _ _),trivial,fun b hb=>absurd (show b ∈ ([]:List Addr) from hb) (by simp),hok,.of_eq hg⟩
    refine codeAny_mono ((F _ hKb (nsK hns)).run callerA [] s₁ H ⟨[.ref a],[]⟩ [.ref a] [.ref a] _ _ hr e0 (hbind s₁ (.ref a)) (.cons rfl .nil) (hsp H hO hS)) fun r s' h=>?_
    cases r with
    | error e=>exact (hCX H e s' h).elim
    | ok fl =>
      cases fl with
      | next=>exact False.elim h
      | brk=>exact False.elim h
      | cont=>exact False.elim h
      | ret u =>
        obtain ⟨v,H',os,bare,un,hok',r',q⟩:=h
        have q':v = .bl true:=q
        subst q'
        obtain rfl:u = Value.bool true:=r'
        refine ⟨rfl,OldK.of_keep fun b o e=>?_,os,bare⟩
        cases q:H b with
        | none=>exact un.keep b o e q (by intro z; exact absurd (show b ∈ ([]:List Addr) from z) (by simp)) (by simp)
        | some u =>
          rcases hO b with z | ⟨ob,xs,z⟩
          · rw [q] at z; cases z
          · have z2:=un.frzs b ob _ z
            obtain ⟨e1,_⟩:=hok b _ z
            obtain ⟨e2,_⟩:=hok' b _ z2
            rw [e] at e1; cases e1
            exact e2
  cases hk:K.lookup a with
  | some o =>
    have e:=KX a o hk
    rw [ha] at e
    cases e
    refine core (fun _=>none) (fun _=>.inl rfl) (.inr ⟨_,vs.toArray,_,hk,rfl,rfl,rfl,by rw [List.size_toArray,lenV]; exact hl,by simpa using rv⟩) (fun b u z=>by have z':(none:Option HO) = some u:=z; cases z') (fun b z=>absurd rfl z) fun z=>absurd rfl z
  | none =>
    refine core (fun b=>if b = a then some (.frz { cls:=.type "list",data:=.seq vs.toArray } (.lst (ns.map V.int))) else none) (fun b=>?_) (.inl (.inr ⟨{ cls:=.type "list",data:=.seq vs.toArray },if_pos rfl⟩)) (fun b u z=>?_) (fun b z=>?_) fun _=>hk
    · by_cases hb:b = a
      · exact .inr ⟨_,_,if_pos hb⟩
      · exact .inl (if_neg hb)
    · by_cases hb:b = a
      · have z':=(if_pos hb).symm.trans z
        cases z'
        subst hb
        exact ⟨ha,by rw [List.length_map]; exact hl,vs,_,rv,ha⟩
      · have z':=(if_neg hb).symm.trans z
        cases z'
    · by_cases hb:b = a
      · exact hb
      · exact absurd (if_neg hb) z
end L2
namespace L2
open PySem PySem.Spec PyProof.Rows
theorem walk_of {l:PySem.W.OpenLaw} {n k:Nat} {q:Program} {loose:List Str} {XP:(Str->Option Value)->Heap->Prop} {YP:World->Heap->Prop} {d:DefRec} {K:Params->PySem.W.Frag} {CX:World->CXT} {sp:World->Sp} {x:Str}
    (hn:l.most = some n) (hn2:n <= sizeLine) (hdf:d.params.defaults = []) (hr:Room k callerA)
    (hY:∀ (w:World) (h:Heap),YP w h->(K w.params).In h)
    (F:∀ (w:World) (mg:Str->Option Value) (fa:Addr) (h:Heap),(K w.params).In h->h.Ns mainGlobals mg->mg d.name = some (.ref fa) ->
      ∃ fd:FuncData,(∀ (s:Shared) (u:Value),BindsTo s fd ⟨[u],[]⟩ [(x,u)]) /\
        ∀ base:Heap,(K w.params).In base->base.Ns mainGlobals mg->FnOk l.prog w (K w.params) mg base (CX w) k fa fd [x] (sp w))
    (hsp:∀ (w:World) (H:Hp) (a:Addr) (ns:List Int),ns.length <= n->Only H->SqL (K w.params) H a (ns.map V.int)->sp w [.ref a] H (fun v _=>v = .bl true) fun _ _ _=>False)
    (hCX:∀ (w:World) (H:Hp) (s:Shared) (e:Value) (s':Shared),CX w [] H s (fun _ _ _=>False) e s'->False) :
    PySem.W.WalkO q loose XP YP l.row.toRowW d [] (fun f vs=>PySem.call f vs):=by
  refine Att.jim hn hdf fun w s₀ s₁ mg mb fa o pm cd doc a vs ns G Y ho hd hcd hmg hobj hints hlen hg=>?_
  have KX:=hY w _ Y
  obtain ⟨fd,hb,hF⟩:=F w mg fa _ KX G.T.g hmg
  exact law_call KX G.T.g G.T.b G.T.builtins G.T.nolimit hg hobj hints (Nat.le_trans hlen hn2) hr hF hb (fun H hO hS=>hsp w H a ns hlen hO hS) fun H e s'=>hCX w H s₁ e s'
end L2
namespace L2
open PySem PySem.Spec PyProof.Rows
noncomputable def qu (s:Stmt):Arguments:=match s with
  | .FunctionDef _ a _ _ _ _ _ _ _ _=>a
  | _=>{ posonlyargs:=[],args:=[],vararg:=none,kwonlyargs:=[],kw_defaults:=[],kwarg:=none,defaults:=[] }
noncomputable def JV (s:Stmt):List Stmt:=match s with
  | .FunctionDef _ _ b _ _ _ _ _ _ _=>b
  | _=>[]
noncomputable def jw (s:Stmt):Scope:=match s with
  | .FunctionDef _ _ _ _ _ _ sc _ _ _=>sc
  | _=>{ kind:=.function,names:=[],isGenerator:=false,isCoroutine:=false }
noncomputable abbrev CX0:CXT:=fun _ _ _ _ _ _=>False
noncomputable abbrev E0:XK:=fun _ _ _=>False
theorem pass0 {X:Cx}:jfn CX0 X E0:=fun _ _ _ _ _ _ _ h=>h.elim
structure Fun (K:PySem.W.Frag) (x qual:Str) (st:Stmt) (f:Addr) (fd:FuncData):Prop where
  ex:∃ (oc:Value) (od:Option Addr) (kV doc pm:Value) (an:Option Addr) (cdv ct:Value) (osl:Array (Option Value)),
    fd = PySem.W.fnOf x qual (qu st) (JV st) (jw st) .none kV doc pm an cdv ct /\ K.lookup f = some ⟨oc,od,.func fd,osl⟩ /\ PySem.W.codeIn K cdv qual = true
  kp:PySem.W.keepIn K (.ref f) = true
section
variable {P:Program} {w:World} {K:PySem.W.Frag} {mg:Str->Option Value} {base:Heap}
theorem Fun.ok {x qual:Str} {st:Stmt} {f:Addr} {fd:FuncData} {N ps:List Str} {k:Nat} {sp:Sp} (F:Fun K x qual st f fd) (S:jL N ps (jw st)) (len:∀ vs H Q E,sp vs H Q E->vs.length = ps.length)
    (hbody:∀ (cdv:Value) (A:Around) (outer:List Env) (s:Shared) (H:Hp) (vs:List V) (Q:VK) (E:XK),Room k (A.deeper (envOfC qual (jw st) s.heap.objs.size f cdv))->sp vs H Q E ->
      ∃ t,PSs (cxOf CX0 P w K mg base N qual (jw st) f cdv A outer s H E).nox (JV st) t /\ t { nx:=fun _ H'=>Q .non H',rt:=Q } (start N vs) H):FnOk P w K mg base CX0 (k + 1) f fd ps sp:=by
  obtain ⟨oc,od,kV,doc,pm,an,cdv,ct,osl,rfl,lk,hcd⟩:=F.ex
  refine fn_of lk hcd S len fun A outer s H vs Q E hr hsp=>?_
  obtain ⟨t,h,q⟩:=hbody cdv A outer s H vs Q E hr hsp
  exact ⟨t,h.nox,q⟩
theorem Fun.binds {x qual:Str} {st:Stmt} {f:Addr} {fd:FuncData} {ps:List Str} (F:Fun K x qual st f fd)
    (h:∀ (kV doc pm:Value) (an:Option Addr) (cdv ct:Value) (us:List Value),us.length = ps.length->bindArgs (PySem.W.fnOf x qual (qu st) (JV st) (jw st) .none kV doc pm an cdv ct) ⟨us,[]⟩ = pure (ps.zip us)):Binds K fd ps []:=by
  obtain ⟨oc,od,kV,doc,pm,an,cdv,ct,osl,rfl,lk,hcd⟩:=F.ex
  exact .all (h kV doc pm an cdv ct)
theorem fun_mk {x qual:Str} {st:Stmt} {f:Addr} {oc:Value} {od an:Option Addr} {osl:Array (Option Value)} {kV doc pm cdv ct:Value} (l:K.lookup f = some ⟨oc,od,.func (PySem.W.fnOf x qual (qu st) (JV st) (jw st) .none kV doc pm an cdv ct),osl⟩)
    (c:PySem.W.codeIn K cdv qual = true) (k:PySem.W.keepIn K (.ref f) = true):Fun K x qual st f (PySem.W.fnOf x qual (qu st) (JV st) (jw st) .none kV doc pm an cdv ct):=⟨⟨oc,od,kV,doc,pm,an,cdv,ct,osl,rfl,l,c⟩,k⟩
end
theorem Ji {n:Nat} (h:n <= 1000):n < sizeLine:=Nat.lt_of_le_of_lt h (by decide)
section
variable {X:Cx}
end
theorem iteF {A B:Prop} (h:B):if false = true then A else B:=by
  rw [if_neg Bool.false_ne_true]
  exact h
theorem iteT {A B:Prop} (h:A):if true = true then A else B:=by
  rw [if_pos rfl]
  exact h
theorem ite2 {c A B:Prop} [Decidable c] (h1:c->A) (h2:¬ c->B):if c then A else B:=by
  by_cases h:c
  · rw [if_pos h]
    exact h1 h
  · rw [if_neg h]
    exact h2 h
noncomputable def Same (H H':Hp):Prop:=∀ b o,H b = some o->H' b = some o
theorem Same.refl (H:Hp):Same H H:=fun _ _ h=>h
theorem Same.trans {H H1 H2:Hp} (a:Same H H1) (b:Same H1 H2):Same H H2:=fun c o h=>b c o (a c o h)
theorem Same.free {H H':Hp} (e:Same H H') {l:Addr} (h:H' l = Option.none):H l = Option.none:=by
  cases q:H l with
  | none=>rfl
  | some o =>
    rw [e l o q] at h
    cases h
theorem Same.seq {K:PySem.W.Frag} {H H':Hp} {a:Addr} {xs:List V} (e:Same H H') (h:SqL K H a xs):SqL K H' a xs:=by
  rcases h with (h | ⟨o,h⟩) | h
  · exact .inl (.inl (e _ _ h))
  · exact .inl (.inr ⟨o,e _ _ h⟩)
  · exact .inr h
section
variable {κ:Type} [DecidableEq κ]
end
end L2
namespace GM
end GM
set_option Elab.async false
set_option linter.all false
set_option maxRecDepth 100000
namespace L2
open PySem PySem.Spec PyProof.Rows
noncomputable def noStar:Expr->Bool
  | .Starred _ _=>false
  | _=>true
theorem Jc {e:Expr} {es:List Expr} {env:Env} (h:noStar e = true):starEach (e :: es) env = (false,eval e env) :: starEach es env:=by
  cases e <;> first | rfl | cases h
theorem jaI {pos:Pos} {env:Env}:∀ {es:List Expr},es.all noStar = true->(backTo pos (starEach es env)).any (·.1) = false
  | [],_=>rfl
  | e :: es,h=>by
    rw [List.all_cons,Bool.and_eq_true] at h
    rw [Jc h.1]
    show (false || (backTo pos (starEach es env)).any (·.1)) = false
    rw [jaI h.2]; rfl
theorem Qh {e:Expr} {es:List Expr} (h:(e :: es).all noStar = true):noStar e = true /\ es.all noStar = true:=by
  rw [List.all_cons,Bool.and_eq_true] at h; exact h
section
variable {X:Cx} {e o:Expr} {es:List Expr} {te:TE} {t:TA} {pos p:Pos}
theorem pa_c (ha:PE X e te) (hr:PA X es t) (hs:noStar e = true:=by rfl):PA X (e :: es) (jdM te t):=pa_cons ha hr (Jc hs)
theorem Jz {x:Str} {id:String} {r:List V->Hp->VK->Prop} (hc:yx X (.builtin id) r) (hg:Gl X x) (hm:X.mg x = none) (hv:bootBuiltins x = some (.builtin id)) (ha:PA X (e :: es) t) (hs:(e :: es).all noStar = true:=by rfl)
    (hn:x ≠ "__name__" := by decide) (hdb:(x == ("__debug__" : Str)) = false:=by decide):PE X (.Call (.Name x p) (e :: es) [] pos) (tCB r t) :=
  pe_callB hc hg hm hv ha hn hdb (Jc (Qh hs).1) (jaI (Qh hs).2)
theorem Qn {x:Str} {T:String} {r:List V->Hp->VK->Prop} (hc:yx X (.type T) r) (hg:Gl X x) (hm:X.mg x = none) (hv:bootBuiltins x = some (.type T)) (ha:PA X (e :: es) t) (hs:(e :: es).all noStar = true:=by rfl)
    (hn:x ≠ "__name__" := by decide) (hdb:(x == ("__debug__" : Str)) = false:=by decide):PE X (.Call (.Name x p) (e :: es) [] pos) (tCB r t) :=
  jkT hc hg hm hv ha hn hdb (Jc (Qh hs).1) (jaI (Qh hs).2)
theorem few1 {env:Env} {cpos:Pos} (h:noStar e = true):((backTo cpos (starEach [e] env)).all (fun x=>!x.1) && (backToKw cpos (keywordEach [] env)).all (fun x=>x.1.isSome)
      && decide (([e]:List Expr).length + ([]:List Keyword).length + (if ([]:List Keyword).isEmpty then 0 else 1) < 30)) = true:=by
  rw [Jc h]; rfl
theorem qC {to:TE} {apos cpos:Pos} (ho:PE X o to) (ha:PA X [e] t) (hs:noStar e = true:=by rfl) (hbase:attributeBase o "append" X.env (eval o X.env) = eval o X.env:=by rfl) (hline:(apos.endLine == cpos.line) = true:=by rfl) :
    PE X (.Call (.Attribute o "append" apos) [e] [] cpos) (tBM X.K "list" jh6 to t) :=
  pe_bm PySem.F.plainAttrs_list PySem.F.slot_list_append PySem.F.type_list_append jhi ho ha hbase (few1 hs) hline (Jc hs) rfl
end
inductive Nm where | non | bl | int | str | lst | tup | dct
  deriving DecidableEq
noncomputable def Nm.s:Nm->String
  | .non => "NoneType" | .bl => "bool" | .int => "int" | .str => "str" | .lst => "list" | .tup => "tuple" | .dct => "dict"
noncomputable def isN (n m:Nm):Bool:=decide (n = m) || (decide (n = .bl) && decide (m = .int))
noncomputable def bT (T U:String):Option Bool:=if (Value.type T == Value.type U) = true then some true else if PySem.W.kitMeta U = true then (fastBuiltinMro T).map (·.contains (Value.type U)) else none
theorem jkG (K:PySem.W.Frag) (T U:String):PySem.W.kitOne K (.type T) (.type U) = bT T U:=rfl
theorem bT_all (n m:Nm):bT n.s m.s = some (isN n m):=by
  cases n <;> cases m <;> decide +kernel
noncomputable abbrev jfm (K:PySem.W.Frag) (H:Hp) (v:V) (n:Nm):Prop:=TyOf K H v (.type (Nm.s n))
noncomputable def rIsi (K:PySem.W.Frag) (m:Nm):List V->Hp->VK->Prop:=fun xs H Q=>∃ x n,xs = [x,.ty (Nm.s m)] /\ jfm K H x n /\ Q (.bl (isN n m)) H
theorem jip {X:Cx} (m:Nm):yx X (.builtin "isinstance") (rIsi X.K m):=by
  intro pins s σ H xs us Q I r h
  obtain ⟨x,n,rfl,ty,q⟩:=h
  obtain ⟨u,u',rfl,ru,ru'⟩:=vals2 r
  cases ru'
  exact jha I ru ty ((jkG _ _ _).trans (bT_all n m)) fun tk=>⟨.bl (isN n m),H,I.tok tk,rfl,q⟩
theorem nm_ne (m:Nm):(Str.ofString (Nm.s m)) ≠ "__name__" := by cases m <;> decide +kernel
theorem nm_db (m:Nm):((Str.ofString (Nm.s m)) == ("__debug__" : Str)) = false:=by cases m <;> decide +kernel
theorem boot_nm (m:Nm) (h:m ≠ .non):bootBuiltins (Str.ofString (Nm.s m)) = some (.type (Nm.s m)):=by
  cases m
  · exact absurd rfl h
  · exact boot_bool
  · exact boot_int
  · exact boot_str
  · exact boot_list
  · exact boot_tuple
  · exact boot_dict
theorem ja1 {X:Cx} (m:Nm) {e:Expr} {te:TE} {p p2 pos:Pos} (hg:Gl X "isinstance") (hm:X.mg "isinstance" = none) (hgT:Gl X (Str.ofString (Nm.s m))) (hmT:X.mg (Str.ofString (Nm.s m)) = none) (ha:PE X e te) (h0:m ≠ .non:=by decide) (hs:noStar e = true:=by rfl) :
    PE X (.Call (.Name "isinstance" p) [e,.Name (Str.ofString (Nm.s m)) p2] [] pos) (tCB (rIsi X.K m) (jdM te (jdM (tC (.ty (Nm.s m))) tNil))) :=
  Jz (jip m) hg hm boot_isinstance (pa_c ha (pa_c (pe_bltn hgT hmT (boot_nm m h0) rfl (nm_ne m) (nm_db m)) ji) hs) (by rw [List.all_cons,hs]; rfl)
section
variable {X:Cx} {a b c:Expr} {ta tb tc:TE} {pos:Pos}
theorem qG:OpR X (binaryOp .Mult) (rI IntMulOk fun i j=>.int (i * j)):=opI fun _ _ _ _ _ _ _ hc q=>mul_int q hc
end
theorem JP {i j:Int} (h:j.natAbs < 2 ^ 64):IntMulOk i j:=IntMulOk.of_right (intBits_le_64 (by omega) (by omega))
theorem Zo {i j:Int} (h:i.natAbs < 2 ^ 64):IntMulOk i j:=IntMulOk.of_left (intBits_le_64 (by omega) (by omega))
structure jK (P:Program) (w:World) (K:PySem.W.Frag) (mg:Str->Option Value) (base:Heap) (k:Nat) (x:Str) (ps:List Str) (dvs:List V) (sp:Sp):Prop where
  ex:∃ (f:Addr) (fd:FuncData) (ds:List Value),FnOk P w K mg base CX0 k f fd ps sp /\ Binds K fd ps ds /\ Vals dvs ds /\ PySem.W.keepIn K (.ref f) = true /\ mg x = some (.ref f)
theorem jz {X:Cx} {k j:Nat} {x:Str} {ps:List Str} {dvs:List V} {sp:Sp} {p pos:Pos} {e:Expr} {es:List Expr} {t:TA}
    (D:jK X.prog X.w X.K X.mg X.base k x ps dvs sp) (hr:Room j X.A) (hj:k <= j) (hg:Gl X x) (ha:PA X (e :: es) t) (hs:(e :: es).all noStar = true:=by rfl)
    (hdb:(x == ("__debug__" : Str)) = false:=by decide) :
    PE X (.Call (.Name x p) (e :: es) [] pos) (tCall sp dvs E0 t):=by
  obtain ⟨f,fd,ds,F,b,hd,kp,m⟩:=D.ex
  exact pe_call F (hr.mono hj) hg m kp b hd pass0 ha hdb (Jc (Qh hs).1) (jaI (Qh hs).2)
section
variable {P:Program} {w:World} {K:PySem.W.Frag} {mg:Str->Option Value} {base:Heap}
end
theorem jC {H:Hp} {p:Addr} (h:H p = none) (o:HO):Same H (upd H p o):=fun b u q=>by rw [jO (jU q h)]; exact q
end L2
set_option Elab.async false
set_option linter.all false
set_option maxRecDepth 100000
namespace L2
open PySem PySem.Spec PyProof.Rows
noncomputable def jih:List TE->Str->TE
  | [],acc=>fun _ H Q=>acc.length <= sizeLine /\ Q (.str acc) H
  | t :: r,acc=>fun σ H Q=>t σ H fun x H1=>∃ y,x = .str y /\ (acc ++ y).length <= sizeLine /\ jih r (acc ++ y) σ H1 Q
inductive PFs (X:Cx):List Expr->List TE->Prop where
  | nil:PFs X [] []
  | cons {e:Expr} {es:List Expr} {t:TE} {ts:List TE}:PE X e t->PFs X es ts->PFs X (e :: es) (t :: ts)
theorem jaT {X:Cx}:PFs X [] []:=.nil
theorem Jr {X:Cx} {e:Expr} {es:List Expr} {t:TE} {ts:List TE} (h:PE X e t) (r:PFs X es ts):PFs X (e :: es) (t :: ts):=.cons h r
theorem joins_ok {X:Cx} {es:List Expr} {ts:List TE} (h:PFs X es ts):∀ (acc:Str) (pins:List (Addr × Obj)) (s:Shared) (σ:St) (H:Hp) (Q:VK),Inv X pins σ H s->jih ts acc σ H Q ->
    wpAny (model X.prog X.w) X.A (joinParts acc (evalEach es X.env)) (EP X pins σ Q) X.xe s:=by
  induction h with
  | nil =>
    intro acc pins s σ H Q I q
    exact joinParts_nil ⟨.str acc,H,I.tok _,⟨_,rfl⟩,q.2⟩ q.1
  | cons he _ ih =>
    intro acc pins s σ H Q I q
    refine joinParts_cons (thn (he pins s σ H _ I q) fun v s1 ⟨x,H1,I1,r1,y,e,hz,q1⟩=>?_)
    subst e
    obtain ⟨t,rfl⟩:=r1
    exact ⟨hz,ih _ pins s1 σ H1 Q I1 q1⟩
theorem YS {X:Cx} {e1 e2:Expr} {es:List Expr} {ts:List TE} {pos:Pos} (h:PFs X (e1 :: e2 :: es) ts):PE X (.JoinedStr (e1 :: e2 :: es) pos) (jih ts Str.empty):=by
  intro pins s σ H Q I q
  exact JoinedStr_many (joins_ok h Str.empty pins s σ H Q I q)
noncomputable def tFv (te:TE):TE:=fun σ H Q=>te σ H fun x H1=>∃ i:Int,x = .int i /\ i.natAbs.log2 < 1920 /\ Q (.str (toString i)) H1
theorem jf2 {X:Cx} {e:Expr} {te:TE} {pos:Pos} (he:PE X e te):PE X (.FormattedValue e (-1) none pos) (tFv te):=by
  intro pins s σ H Q I q
  refine FormattedValue_plain (thn (he pins s σ H _ I q) fun v s1 ⟨x,H1,I1,r1,i,e,hz,q1⟩=>?_)
  subst e
  obtain ⟨t,rfl⟩:=r1
  exact wpAny_formatField_int hz ⟨.str (toString i),H1,I1.tok _,⟨_,rfl⟩,q1⟩
theorem empty_app (x:Str):Str.empty ++ x = x:=by
  refine ext_toList ?_
  show ((#[]:Array Nat) ++ x.cps).toList = x.cps.toList
  rw [Array.toList_append]
  rfl
end L2
set_option Elab.async false
set_option linter.all false
set_option maxRecDepth 100000
namespace L2
open PySem PySem.Spec PyProof.Rows
structure QE (X:Cx) (e:Expr) (t:TE):Prop where h:PE X e t
structure QT (X:Cx) (e:Expr) (t:TT):Prop where h:PT X e t
structure QW (X:Cx) (e:Expr) (t:TT):Prop where h:PW X e t
structure QA (X:Cx) (es:List Expr) (t:TA):Prop where h:PA X es t
structure QS (X:Cx) (st:Stmt) (t:TS):Prop where h:PS X st t
structure QSs (X:Cx) (st:List Stmt) (t:TS):Prop where h:PSs X st t
structure QO (X:Cx) (e:Option Expr) (t:TO):Prop where h:PO X e t
structure QI (X:Cx) (tg iter:Expr) (wi:TI):Prop where h:PI X tg iter wi
structure QG (X:Cx) (tg:Expr) (t:TG):Prop where h:PG X tg t
structure QF (X:Cx) (es:List Expr) (ts:List TE):Prop where h:PFs X es ts
noncomputable def jfR:Expr->Bool
  | .ListComp _ _ _ _=>false
  | .SetComp _ _ _ _=>false
  | .DictComp _ _ _ _ _=>false
  | _=>true
theorem jdL {e:Expr} {tg:Option Expr} {l:Nat} {env:Env} (h:jfR e = true):swapsWith e tg l env = pure false:=by
  cases e <;> first | rfl | cases h
namespace R
section
variable {X:Cx} {a b c e o:Expr} {es rest:List Expr} {ta tb tc te:TE} {tA tB':TT} {t:TA} {pos p:Pos}
theorem pv (i:Nat) {x:Str} (hN:X.N[i]? = some x:=by rfl) (hv:Vis X.env.scope x:=by first | exact Or.inl rfl | exact Or.inr (Or.inl rfl) | exact Or.inr (Or.inr rfl)) (hd:(x == ("__debug__" : Str)) = false:=by decide)
    (hcd:(x == ("__classdict__" : Str)) = false:=by decide):QE X (.Name x pos) (tVar i):=⟨pe_var hN hv hd hcd⟩
theorem jj {i:Int} {j:Nat}:QE X (.Constant (.int i) j pos) (tC (.int i)):=⟨L2.jj⟩
theorem jcN {k:Bool} {j:Nat}:QE X (.Constant (.bool k) j pos) (tC (.bl k)):=⟨L2.jcN⟩
theorem Zv {j:Nat}:QE X (.Constant .none j pos) (tC .non):=⟨L2.Zv⟩
theorem jG {x:Str} {j:Nat}:QE X (.Constant (.str x) j pos) (tC (.str x)):=⟨L2.jG⟩
theorem jF {op:Operator} {r:R2} (ho:OpR X (binaryOp op) r) (ha:QE X a ta) (hb:QE X b tb):QE X (.BinOp a op b pos) (tOp r ta tb):=⟨L2.jF ho ha.h hb.h⟩
theorem pe_un {op:UnaryOp} {r:V->Hp->VK->Prop} (ho:UnR X (unaryOp op) r) (ha:QE X a ta):QE X (.UnaryOp op a pos) (tUn r ta):=⟨L2.pe_un ho ha.h⟩
theorem jf3 (ha:QE X a ta):QE X (.UnaryOp .Not a pos) (tNotV ta):=⟨L2.jf3 ha.h⟩
theorem jb9 {op:BoolOp} (h:QE X a ta):QE X (.BoolOp op [a] pos) ta:=⟨L2.jb9 h.h⟩
theorem jeg (ha:QE X a ta) (hb:QE X (.BoolOp .And (b :: rest) pos) tb):QE X (.BoolOp .And (a :: b :: rest) pos) (tAndV ta tb):=⟨L2.jeg ha.h hb.h⟩
theorem pe_or (ha:QE X a ta) (hb:QE X (.BoolOp .Or (b :: rest) pos) tb):QE X (.BoolOp .Or (a :: b :: rest) pos) (tOrV ta tb):=⟨L2.pe_or ha.h hb.h⟩
theorem zb {op:CmpOp} {r:R2} (ho:OpR X (compareOp op) r) (ha:QE X a ta) (hb:QE X b tb) (hm:behindInMarks op b = false):QE X (.Compare a [op] [b] pos) (tOp r ta tb):=⟨L2.zb ho ha.h hb.h hm⟩
theorem jdD (hc:QT X c tA) (ha:QE X a ta) (hb:QE X b tb):QE X (.IfExp c a b pos) (tIf tA ta tb):=⟨L2.jdD hc.h ha.h hb.h⟩
theorem ZS:QO X none jkj:=⟨L2.ZS⟩
theorem qw (h:QE X e te):QO X (some e) (tPart te):=⟨L2.qw h.h⟩
theorem qU {lo hi:Option Expr} {tl th:TO} {p2:Pos} {r:V->Option Int->Option Int->Hp->VK->Prop} (hr:SlR X r) (he:QE X e te) (hl:QO X lo tl) (hu:QO X hi th):QE X (.Subscript e (.Slice lo hi none p2) pos) (tSl r te tl th):=⟨L2.qU hr he.h hl.h hu.h⟩
theorem jY {r:R2} (hr:IxR X r) (ha:QE X a ta) (hb:QE X b tb) (hs:jj2 b):QE X (.Subscript a b pos) (tOp r ta tb):=⟨L2.jY hr ha.h hb.h hs⟩
theorem ji:QA X [] tNil:=⟨L2.ji⟩
theorem pa_c (ha:QE X e te) (hr:QA X es t) (hs:noStar e = true:=by rfl):QA X (e :: es) (jdM te t):=⟨L2.pa_c ha.h hr.h hs⟩
theorem JK (h:QA X es t):QE X (.List es pos) (tLst t):=⟨L2.JK h.h⟩
theorem Qo {x1:Nat} (h:QA X es t):QE X (.Tuple es x1 pos) (tTup t):=⟨L2.Qo h.h⟩
theorem jdC:QE X (.Dict [] [] pos) tDNewK:=⟨L2.jdC⟩
theorem jaT:QF X [] []:=⟨L2.jaT⟩
theorem Jr {ts:List TE} (h:QE X e te) (r:QF X es ts):QF X (e :: es) (te :: ts):=⟨L2.Jr h.h r.h⟩
theorem YS {e1 e2:Expr} {ts:List TE} (h:QF X (e1 :: e2 :: es) ts):QE X (.JoinedStr (e1 :: e2 :: es) pos) (jih ts Str.empty):=⟨L2.YS h.h⟩
theorem jf2 (he:QE X e te):QE X (.FormattedValue e (-1) none pos) (tFv te):=⟨L2.jf2 he.h⟩
theorem jz {k j:Nat} {x:Str} {ps:List Str} {dvs:List V} {sp:Sp} (D:jK X.prog X.w X.K X.mg X.base k x ps dvs sp) (hr:Room j X.A) (hj:k <= j) (hg:Gl X x) (ha:QA X (e :: es) t) (hs:(e :: es).all noStar = true:=by rfl)
    (hdb:(x == ("__debug__" : Str)) = false:=by decide):QE X (.Call (.Name x p) (e :: es) [] pos) (tCall sp dvs E0 t):=⟨L2.jz D hr hj hg ha.h hs hdb⟩
theorem ja1 (m:Nm) {p2:Pos} (hg:Gl X "isinstance") (hm:X.mg "isinstance" = none) (hgT:Gl X (Str.ofString (Nm.s m))) (hmT:X.mg (Str.ofString (Nm.s m)) = none) (ha:QE X e te) (h0:m ≠ .non:=by decide) (hs:noStar e = true:=by rfl) :
    QE X (.Call (.Name "isinstance" p) [e,.Name (Str.ofString (Nm.s m)) p2] [] pos) (tCB (rIsi X.K m) (jdM te (jdM (tC (.ty (Nm.s m))) tNil))):=⟨L2.ja1 m hg hm hgT hmT ha.h h0 hs⟩
theorem Jz {x:Str} {id:String} {r:List V->Hp->VK->Prop} (hc:yx X (.builtin id) r) (hg:Gl X x) (hm:X.mg x = none) (hv:bootBuiltins x = some (.builtin id)) (ha:QA X (e :: es) t) (hs:(e :: es).all noStar = true:=by rfl)
    (hn:x ≠ "__name__" := by decide) (hdb:(x == ("__debug__" : Str)) = false:=by decide):QE X (.Call (.Name x p) (e :: es) [] pos) (tCB r t):=⟨L2.Jz hc hg hm hv ha.h hs hn hdb⟩
theorem Qn {x:Str} {T:String} {r:List V->Hp->VK->Prop} (hc:yx X (.type T) r) (hg:Gl X x) (hm:X.mg x = none) (hv:bootBuiltins x = some (.type T)) (ha:QA X (e :: es) t) (hs:(e :: es).all noStar = true:=by rfl)
    (hn:x ≠ "__name__" := by decide) (hdb:(x == ("__debug__" : Str)) = false:=by decide):QE X (.Call (.Name x p) (e :: es) [] pos) (tCB r t):=⟨L2.Qn hc hg hm hv ha.h hs hn hdb⟩
theorem qC {to:TE} {apos cpos:Pos} (ho:QE X o to) (ha:QA X [e] t) (hs:noStar e = true:=by rfl) (hbase:attributeBase o "append" X.env (eval o X.env) = eval o X.env:=by rfl) (hline:(apos.endLine == cpos.line) = true:=by rfl) :
    QE X (.Call (.Attribute o "append" apos) [e] [] cpos) (tBM X.K "list" jh6 to t):=⟨L2.qC ho.h ha.h hs hbase hline⟩
theorem jP {op:CmpOp} {r:R2} (ho:OpR X (compareOp op) r) (ha:QE X a ta) (hb:QE X b tb) (hm:behindInMarks op b = false):QT X (.Compare a [op] [b] pos) (tTest (tOp r ta tb)):=⟨L2.jP ho ha.h hb.h hm⟩
theorem ZV (ha:QT X a tA):QW X (.BoolOp .And [a] pos) tA:=⟨L2.ZV ha.h⟩
theorem Z8 (ha:QT X a tA):QW X (.BoolOp .Or [a] pos) tA:=⟨L2.Z8 ha.h⟩
theorem jcb (ha:QT X a tA) (hb:QW X (.BoolOp .And (b :: rest) pos) tB'):QW X (.BoolOp .And (a :: b :: rest) pos) (tAnd tA tB'):=⟨L2.jcb ha.h hb.h⟩
theorem jcc (ha:QT X a tA) (hb:QW X (.BoolOp .Or (b :: rest) pos) tB'):QW X (.BoolOp .Or (a :: b :: rest) pos) (tOr tA tB'):=⟨L2.jcc ha.h hb.h⟩
theorem pt (h:QW X e tA):QT X e tA:=⟨PW.pt h.h⟩
theorem qy (ha:QT X a tA):QT X (.UnaryOp .Not a pos) (tNot tA):=⟨L2.qy ha.h⟩
theorem JD (h:QE X e te) (he:∀ whole,isTrue e X.env whole = (do let v <- whole; standAt e.pos; holding [v] (truthy v)):=by intro _; rfl):QT X e (tB te):=⟨L2.JD h.h he⟩
end
section
variable {X:Cx} {c e:Expr} {te:TE} {tc:TT} {st:Stmt} {sts body orelse:List Stmt} {t u tb:TS} {pos:Pos}
theorem jJ (he:QE X e te):QS X (.Return (some e) pos) (tRet te):=⟨L2.jJ he.h⟩
theorem JC:QS X st tNever:=⟨L2.JC⟩
theorem JW (he:QE X e te) (hs:jfR e = true:=by rfl):QS X (.Expr e pos) (tDrop te):=⟨L2.JW he.h (jdL hs)⟩
theorem jT {i:Nat} {x:Str} {pos':Pos} (hN:X.N.Nodup) (hi:X.N[i]? = some x) (hx:Loc X.env.scope x) (he:QE X e te) (hs:jfR e = true:=by rfl) (hf:X.fn x = true ∨ X.env.scope.names.lookup x = some .local:=by first | exact .inl rfl | exact .inr rfl | assumption) :
    QS X (.Assign [.Name x pos'] e pos) (tAsg te (YL i)):=⟨L2.jT hN hi hx he.h (jdL hs) hf⟩
theorem j8 (hc:QT X c tc) (ha:QSs X body t) (hb:QSs X orelse u):QS X (.If c body orelse pos) (tIfS tc t u):=⟨L2.j8 hc.h ha.h hb.h⟩
theorem qt {tg iter:Expr} {wi:TI} {g:TG} (hp:PassesOwn (model X.prog X.w) X.A X.env X.xe) (hc:X.calm = true) (hi:QI X tg iter wi) (hg:QG X tg g) (hb:QSs X body tb)
    (hs:∀ x,foldedSetIterable iter X.env x = pure x:=by intro _; rfl):QS X (.For tg iter body [] pos) (tFor wi g tb):=⟨L2.qt hp hc hi.h hg.h hb.h hs⟩
theorem JL {tg:Expr} (hl:QE X e te):QI X tg e (iList X.K te):=⟨L2.JL hl.h⟩
theorem Jh {tg a:Expr} {ta:TA} {p:Pos} (hg:Gl X "range") (hm:X.mg "range" = none) (ha:QA X [a] ta) (hs:noStar a = true:=by rfl):QI X tg (.Call (.Name "range" p) [a] [] pos) (iRng1 ta):=⟨L2.Jh hg hm ha.h (Jc hs)⟩
theorem jV {i:Nat} {x:Str} (hN:X.N.Nodup) (hi:X.N[i]? = some x) (hx:Loc X.env.scope x) (hf:X.fn x = true ∨ X.env.scope.names.lookup x = some .local:=by first | exact .inl rfl | exact .inr rfl | assumption):QG X (.Name x pos) (YL i):=⟨L2.jV hN hi hx hf⟩
theorem jM:QSs X [] tNext:=⟨L2.jM⟩
theorem jr (h1:QS X st t):QSs X [st] t:=⟨L2.jr h1.h⟩
theorem jk (h1:QS X st t) (h2:QSs X sts u):QSs X (st :: sts) (tSeq t u):=⟨L2.jk h1.h h2.h⟩
end
end R
section
variable {P:Program} {w:World} {K:PySem.W.Frag} {mg:Str->Option Value} {base:Heap}
theorem Fun.okQ {x qual:Str} {st:Stmt} {f:Addr} {fd:FuncData} {N ps:List Str} {k:Nat} {sp:Sp} (F:Fun K x qual st f fd) (S:jL N ps (jw st)) (len:∀ vs H Q E,sp vs H Q E->vs.length = ps.length)
    (hbody:∀ (cdv:Value) (A:Around) (outer:List Env) (s:Shared) (H:Hp) (vs:List V) (Q:VK) (E:XK),Room k (A.deeper (envOfC qual (jw st) s.heap.objs.size f cdv))->sp vs H Q E ->
      ∃ t,QSs (cxOf CX0 P w K mg base N qual (jw st) f cdv A outer s H E).nox (JV st) t /\ t { nx:=fun _ H'=>Q .non H',rt:=Q } (start N vs) H):FnOk P w K mg base CX0 (k + 1) f fd ps sp :=
  F.ok S len fun cdv A outer s H vs Q E hr h=>let ⟨t,q,r⟩:=hbody cdv A outer s H vs Q E hr h; ⟨t,q.h,r⟩
theorem Fun.jX {x qual:Str} {st:Stmt} {f:Addr} {fd:FuncData} {N ps:List Str} {k:Nat} {sp:Sp} (F:Fun K x qual st f fd) (m:mg x = some (.ref f)) (b:Binds K fd ps []) (S:jL N ps (jw st)) (len:∀ vs H Q E,sp vs H Q E->vs.length = ps.length)
    (hbody:∀ (cdv:Value) (A:Around) (outer:List Env) (s:Shared) (H:Hp) (vs:List V) (Q:VK) (E:XK),Room k (A.deeper (envOfC qual (jw st) s.heap.objs.size f cdv))->sp vs H Q E ->
      ∃ t,QSs (cxOf CX0 P w K mg base N qual (jw st) f cdv A outer s H E).nox (JV st) t /\ t { nx:=fun _ H'=>Q .non H',rt:=Q } (start N vs) H):jK P w K mg base (k + 1) x ps [] sp :=
  ⟨f,fd,[],F.okQ S len hbody,b,.nil,F.kp,m⟩
end
end L2
set_option Elab.async false
set_option linter.all false
set_option maxRecDepth 100000
namespace L2
open PySem PySem.Spec PyProof.Rows
section
variable {prog:Program} {w:World} {A:Around} {R:Result->Shared->Prop} {s:Shared}
end
noncomputable def J7 (X:Cx) (scope:Scope) (cl:List (Str × Addr)) (Nc:List Str) (C:Addr) (s₂:Shared) (H2:Hp) (fp:List Addr):Cx where
  prog:=X.prog
  w:=X.w
  K:=X.K
  mg:=X.mg
  base:=X.base
  A:=X.A
  N:=Nc
  s₀:=s₂
  H₀:=H2
  env:=compEnvC scope cl C X.env
  outer:=X.stack
  stack:=X.stack
  ex:=fp
  fn:=fun _=>false
  calm:=true
  pn:=[]
  xe:=fun _ _=>False
noncomputable def inner (σ:St) (fr:List Nat):St:=fr.map fun j=>(σ[j]?).join
end L2
set_option Elab.async false
set_option linter.all false
set_option maxRecDepth 100000
namespace L2
open PySem PySem.Spec PyProof.Rows
theorem jhO:typeLookup (.type "list_reverseiterator") "__len__" = pure none:=by rw [typeLookup_type,builtinLookup_eq_fast]; kernel_rfl
theorem jiC:typeLookup (.type "list_reverseiterator") "__length_hint__" = pure (some (.builtin "list_reverseiterator.__length_hint__")):=by rw [typeLookup_type,builtinLookup_eq_fast]; kernel_rfl
section
variable {prog:Program} {w:World} {A:Around} {s:Shared} {R:Result->Shared->Prop}
theorem jhP (hh:A.handled = none) (I l:Addr) (hne:l ≠ I) (items:Array Value) :
    WalksS prog w A I [I,l] [I] (fun a b=>a = b) items.size (fun i v=>items[items.size - 1 - i]? = some v) (fun i s=>i <= items.size /\ s.heap.IsRevIter I l ((items.size:Int) - 1 - (i:Int)) /\ s.heap.IsList l items) where
  sub:=fun b hb=>by simp at hb; simp [hb]
  grefl:=fun _=>rfl
  gtrans:=fun _ _ _ h g=>h.trans g
  frame:=fun _ _ _ _ x _ hk=>⟨x.1,x.2.1.at fun o e=>hk I (by simp) o e,x.2.2.at fun o e=>hk l (by simp) o e⟩
  item:=fun i s Q E hi x hQ=>by
    have e:(items.size:Int) - 1 - (i:Int) = ((items.size - 1 - i:Nat):Int):=by omega
    have hit:=x.2.1
    rw [e] at hit
    have hx:items[items.size - 1 - i]? = some (items[items.size - 1 - i]'(by omega)):=Array.getElem?_eq_getElem (by omega)
    refine wpAny_pyNext_rev_item hit x.2.2 hx fun h' hit' hs'=>?_
    have e2:((items.size - 1 - i:Nat):Int) - 1 = (items.size:Int) - 1 - ((i + 1:Nat):Int):=by omega
    rw [e2] at hit'
    exact hQ _ { s with heap:=h' } hx ⟨hi,hit',x.2.2.at fun o eo=>(hs'.2 l hne).trans eo⟩ ⟨fun b o hb eo=>hs'.extBut b o (fun h=>hb (by simp [h])) eo,rfl,rfl,rfl,Nat.le_refl _⟩
  done:=fun s Q E x hQ=>by
    have e:(items.size:Int) - 1 - (items.size:Int) = -1:=by omega
    have hit:=x.2.1
    rw [e] at hit
    exact wpAny_pyNext_rev_end hh hit fun h' he'=>hQ { s with heap:=h' } ⟨fun b o hb eo=>he' b o (fun h=>hb (by simp [h])) eo,rfl,rfl,rfl,Nat.le_refl _⟩
  self:=fun _ _ _ _ x hQ=>wpAny_pyIter_revIter x.2.1 hQ
variable {I:Addr} {fp wr:List Addr} {G:Array GenState->Array GenState->Prop} {n:Nat} {P:Nat->Value->Prop} {St:Nat->Shared->Prop}
theorem jgF (W:WalksS prog w A.in1 I fp wr G n P St) (hT:∀ i s,St i s->s.TypeIs (.ref I) "list_reverseiterator") (S:Addr) (res:Value) (c₀:Nat) (hst:St 0 s) (hSf:S ∉ fp) (hI:I ∈ fp)
    (hS:s.heap.get? S = some { cls:=.type "list",data:=.seq #[] c₀ })
    (hR:∀ s' acc' c',Moved (S :: wr) G s s'->s'.heap.get? S = some { cls:=.type "list",dict:=none,data:=.seq acc' c',slots:=#[] }->ItemsOf P acc' n->R (.ok (.ret res)) s') (hn:n <= sizeLine:=by size_fits) :
    wpAny (model prog w) A.in1 (Builtin.List.listExtendWith (.ref S) (.ref I) res)
      (fun fin s'=>match fin with | .done f=>R (.ok f) s' | .again c'=>c'.quiet = true /\ codeAny (model prog w) A c' R s') (fun e s'=>R (.error e) s') s:=by
  have hSI:S ≠ I:=fun e=>hSf (e ▸ hI)
  unfold Builtin.List.listExtendWith
  refine wpAny_bind (wpAny_typeOf (hT 0 _ hst) ?_)
  have h1:Builtin.List.listSameRef (.ref S) (.ref I) = false:=by simp [Builtin.List.listSameRef,hSI]
  rw [if_neg (by rw [h1]; decide)]
  refine wpAny_bind (W.self 0 _ _ _ hst ?_)
  refine wpAny_bind (wpAny_holding ?_)
  unfold Builtin.List.listLengthHint
  refine wpAny_bind (wpAny_specialOf (hT 0 _ hst) jhO ?_)
  show wpAny _ A.in1 (specialOf (Value.ref I) (Str.ofString "__length_hint__") >>= _) _ _ _
  refine wpAny_bind (wpAny_specialOf (hT 0 _ hst) jiC ?_)
  generalize hid:("list_reverseiterator.__length_hint__" : String) = id0
  wp_delta
  rw [show splitId id0 = some ("list_reverseiterator", "__length_hint__") from by subst hid; decide +kernel]
  subst hid
  refine wpAny_bind (wpAny_isInstance (b:=true) (hT 0 _ hst) (by rw [isSubtype_type]; kernel_rfl) ?_)
  refine wpAny_pure ?_
  rw [if_neg (by decide)]
  refine wpAny_pure ⟨plainId_quiet F.plain_extend_loop _,codeAny_extend_loopS W hn _ hSf _ n 0 _ _ _ rfl (Nat.zero_le _) hst hS (ItemsOf.nil P) fun s' acc' c' hm hS' hacc=>?_⟩
  exact hR s' acc' c' hm hS' hacc
theorem jd2 (W:WalksS prog w A.in1 I fp wr G n P St) (hT:∀ i s,St i s->s.TypeIs (.ref I) "list_reverseiterator") (S:Addr) (hst:St 0 s) (hSf:S ∉ fp) (hI:I ∈ fp)
    (hS:s.heap.get? S = some { cls:=.type "list",data:=.seq #[] })
    (hR:∀ s' acc' c',Moved (S :: wr) G s s'->s'.heap.get? S = some { cls:=.type "list",dict:=none,data:=.seq acc' c',slots:=#[] }->ItemsOf P acc' n->R (.ok (.ret .none)) s') (hn:n <= sizeLine:=by size_fits) :
    wpAny (model prog w) A.in1 (Builtin.«list.__init__» ⟨[.ref S,.ref I],[]⟩)
      (fun fin s'=>match fin with | .done f=>R (.ok f) s' | .again c'=>c'.quiet = true /\ codeAny (model prog w) A c' R s') (fun e s'=>R (.error e) s') s:=by
  show wpAny _ A.in1 (do let old <- Builtin.List.listItems (.ref S); Builtin.List.listUpdate (.ref S) (fun _=>#[]); letGo old.toList.reverse; Builtin.List.listExtendWith (.ref S) (.ref I) .none) _ _ s
  refine wpAny_bind ?_
  unfold Builtin.List.listItems
  refine wpAny_bind (wpAny_seqItems hS rfl (wpAny_pure ?_))
  show wpAny _ A.in1 (updateSeq S (fun _=>#[]) >>= fun _=>letGo (#[]:Array Value).toList.reverse >>= fun _=>Builtin.List.listExtendWith (.ref S) (.ref I) .none) _ _ s
  refine wpAny_bind (wpAny_updateSeq hS rfl ?_)
  have hS₂:=Heap.get?_update_self (Obj.mapSeq (fun _=>(#[]:Array Value))) hS rfl
  have oth:∀ b o,b ≠ S->s.heap.get? b = some o->(s.heap.update S (Obj.mapSeq (fun _=>(#[]:Array Value)))).get? b = some o :=
    fun b o hb e=>(Heap.get?_update_other _ _ (Ne.symm hb)).trans e
  refine wpAny_bind (wpAny_letGo ?_)
  refine jgF (hn:=hn) W hT S .none _ (W.frame 0 s _ s.toks hst (Nat.le_refl _) fun b hb o e=>oth b o (fun h=>hSf (h ▸ hb)) e) hSf hI hS₂ fun s' acc' c' hm hS' hacc=>?_
  exact hR s' acc' c' (Moved.trans W.gtrans ((Moved.refl W.grefl).then_heap (Nat.le_refl _) fun b o hb e=>oth b o (fun h=>hb (h ▸ List.mem_cons_self)) e) hm) hS' hacc
end
section
variable {prog:Program} {w:World} {A:Around} {E:Value->Shared->Prop} {s:Shared}
variable {I:Addr} {fp wr:List Addr} {G:Array GenState->Array GenState->Prop} {n:Nat} {P:Nat->Value->Prop} {St:Nat->Shared->Prop}
theorem jd1 {Q:Value->Shared->Prop} (W:WalksS prog w A.in1.in1 I fp wr G n P St) (hT:∀ i s,St i s->s.TypeIs (.ref I) "list_reverseiterator") (hst:St 0 s) (hfp:∀ b ∈ fp,b < s.heap.objs.size) (hI:I ∈ fp)
    (hQ:∀ s' acc' c',Moved (s.heap.objs.size :: wr) G { s with heap:=s.heap.push { cls:=.type "list",data:=.seq #[] } } s' ->
      s'.heap.get? s.heap.objs.size = some { cls:=.type "list",dict:=none,data:=.seq acc' c',slots:=#[] }->ItemsOf P acc' n->Q (.ref s.heap.objs.size) s') (hn:n <= sizeLine:=by size_fits) :
    wpAny (model prog w) A (call (.type "list") [.ref I]) Q E s:=by
  have hSf:s.heap.objs.size ∉ fp:=fun hm=>Nat.lt_irrefl _ (hfp _ hm)
  refine callType_codes (Q₁:=fun obj s₁=>obj = .ref s.heap.objs.size /\ s₁ = { s with heap:=s.heap.push { cls:=.type "list",data:=.seq #[] } }) F.called_list (F.typeCall_list_1 _) F.entry_list_init
    (code_list_new _ ⟨rfl,rfl⟩) fun obj s₁ h₁=>?_
  obtain ⟨rfl,rfl⟩:=h₁
  have hS:(s.heap.push { cls:=.type "list",data:=.seq #[] }).get? s.heap.objs.size = some { cls:=.type "list",data:=.seq #[] }:=Heap.get?_push_size _ rfl
  refine ⟨⟨_,hS,rfl⟩,F.args_list_init_2 _ _,jd2 (hn:=hn) W hT _ (W.frame 0 s _ s.toks hst (Nat.le_refl _) fun b _ o e=>Heap.get?_push_of_some _ e) hSf hI hS fun s' acc' c' hm hS' hacc=>?_⟩
  exact ⟨rfl,hQ s' acc' c' hm hS' hacc⟩
end
noncomputable def tRev (te:TE):TE:=fun σ H Q=>te σ H fun x H1=>∃ a xs,x = .ref a /\ H1 a = some (.lst xs) /\ ∀ l,H1 l = none->Q (.ref l) (upd H1 l (.lst xs.reverse))
theorem jkV {its:List Value} {acc:Array Value} (h:ItemsOf (fun i v=>its.toArray[its.toArray.size - 1 - i]? = some v) acc its.toArray.size):acc.toList = its.reverse:=by
  obtain ⟨h1,h2⟩:=h
  have sz:its.toArray.size = its.length:=by simp
  refine List.ext_getElem? fun j=>?_
  by_cases hj:j < acc.size
  · have e:=h2 j acc[j] (Array.getElem?_eq_getElem hj)
    rw [Array.getElem?_toList,Array.getElem?_eq_getElem hj]
    rw [sz] at h1 e
    rw [List.getElem?_reverse (by omega)]
    rw [<- e]
    simp
  · rw [Array.getElem?_toList,Array.getElem?_eq_none (by omega),List.getElem?_eq_none (by rw [List.length_reverse]; omega)]
theorem ja2 {X:Cx} {e:Expr} {te:TE} {p1 p2 pos pos2:Pos} (hc:X.calm = true) (hgL:Gl X "list") (hmL:X.mg "list" = none) (hgR:Gl X "reversed") (hmR:X.mg "reversed" = none) (ha:PE X e te) (hs:noStar e = true:=by rfl) :
    PE X (.Call (.Name "list" p1) [.Call (.Name "reversed" p2) [e] [] pos2] [] pos) (tRev te):=by
  intro pins s σ H Q I h
  refine wpAny_Call_Name_kw (Z6 I hgL hmL boot_list ?_)
  refine PyProof.Rows.callWith_type1 ?_ rfl rfl
  rw [Jc (show noStar (.Call (.Name "reversed" p2) [e] [] pos2) = true from rfl)]
  show wpAny _ _ (spliced ((false,eval (.Call (.Name "reversed" p2) [e] [] pos2) X.env) :: backTo pos (starEach [] X.env))) _ _ s
  refine Calls.spliced_cons (wpAny_Call_Name_kw (Z6 I hgR hmR boot_reversed ?_))
  refine PyProof.Rows.callWith_type1 ?_ (Jc hs) rfl
  rw [Jc hs]
  show wpAny _ _ (spliced ((false,eval e X.env) :: backTo pos2 (starEach [] X.env))) _ _ s
  refine Calls.spliced_cons (thn (ha pins s σ H _ I h) fun u s1 zz=>?_)
  obtain ⟨x,H1,I1,r1,q1⟩:=zz
  obtain ⟨a,xs,ex,ha1,q⟩:=q1
  subst ex
  cases r1
  refine Calls.spliced_nil ?_
  obtain ⟨_,its,n,rv,hl,e1⟩:=I1.lstM ha1
  refine call_reversed_list (items:=its.toArray) ⟨_,e1,rfl,n,rfl⟩ ?_
  refine Calls.spliced_nil ?_
  have hh:X.A.handled = none:=I1.ok.hd hc
  have alt:a < s1.heap.objs.size:=Heap.lt_size e1
  have kp:∀ b o,s1.heap.get? b = some o->(s1.heap.push (revObj a ((its.toArray.size:Int) - 1))).get? b = some o:=fun b o e=>Heap.get?_push_of_some _ e
  have hit:(s1.heap.push (revObj a ((its.toArray.size:Int) - 1))).get? s1.heap.objs.size = some (revObj a ((its.toArray.size:Int) - 1)):=Heap.get?_push_size _ rfl
  have I2:Inv X pins σ H1 { s1 with heap:=s1.heap.push (revObj a ((its.toArray.size:Int) - 1)) }:=I1.kept (t':=s1.toks) kp
  have W:=jhP (prog:=X.prog) (w:=X.w) (A:=X.A.in1.in1) hh s1.heap.objs.size a (Nat.ne_of_lt alt) its.toArray
  have sz2:(s1.heap.push (revObj a ((its.toArray.size:Int) - 1))).objs.size = s1.heap.objs.size + 1:=Heap.size_push ..
  refine jd1 (s:={ s1 with heap:=s1.heap.push (revObj a ((its.toArray.size:Int) - 1)) }) W (fun i s st=>st.2.1.typeIs) ⟨Nat.zero_le _,⟨_,hit,rfl,by show Data.fields _ = Data.fields _; simp⟩,⟨_,kp _ _ e1,rfl,n,rfl⟩⟩ (fun b hb=>?_) (by simp) (fun s' acc' c' hm hS' hacc=>?_) ?_
  · show b < (s1.heap.push (revObj a ((its.toArray.size:Int) - 1))).objs.size
    rw [sz2]
    rcases List.mem_cons.mp hb with z | z
    · rw [z]; exact Nat.lt_succ_self _
    · rw [List.mem_singleton.mp z]; exact Nat.lt_succ_of_lt alt
  · have hS:H1 (s1.heap.push (revObj a ((its.toArray.size:Int) - 1))).objs.size = none:=I2.hok.fresh (Nat.le_refl _)
    have hn0:H1 s1.heap.objs.size = none:=I1.hok.fresh (Nat.le_refl _)
    have old:∀ b o,b ≠ s1.heap.objs.size->(s1.heap.push (revObj a ((its.toArray.size:Int) - 1))).get? b = some o->s'.heap.get? b = some o:=fun b o hb e =>
      hm.heap b o (fun z=>by
        rcases List.mem_cons.mp z with z | z
        · exact absurd (Heap.lt_size e) (by rw [z]; exact Nat.lt_irrefl _)
        · exact hb (List.mem_singleton.mp z)) (Heap.get?_push_of_some _ e)
    have neS:∀ b o,(s1.heap.push (revObj a ((its.toArray.size:Int) - 1))).get? b = some o->b ≠ (s1.heap.push (revObj a ((its.toArray.size:Int) - 1))).objs.size:=fun b o e=>Nat.ne_of_lt (Heap.lt_size e)
    have tr:∀ b u,H1 b = some u->b ≠ (s1.heap.push (revObj a ((its.toArray.size:Int) - 1))).objs.size /\ b ≠ s1.heap.objs.size:=fun b u e=>⟨jU e hS,jU e hn0⟩
    have items:=jkV hacc
    have hok:HOk X.prog X.w (upd H1 (s1.heap.push (revObj a ((its.toArray.size:Int) - 1))).objs.size (.lst xs.reverse)) s'.heap:=fun b u e=>by
      by_cases hb:b = (s1.heap.push (revObj a ((its.toArray.size:Int) - 1))).objs.size
      · subst hb
        rw [jq] at e
        cases e
        refine ⟨by rw [List.length_reverse,hl]; have:=(show its.length <= sizeLine from by rw [<- hl]; exact (I1.lstM ha1).1); exact this,its.reverse,c',rv.reverse,?_⟩
        rw [<- items]
        exact hS'
      · rw [jO hb] at e
        refine (I2.hok b u e).stay (fun c v hc' q=>old c v ?_ q) (fun c z=>by rw [jO (tr c _ z).1]; exact z) fun c ys z=>by rw [jO (tr c _ z).1]; exact z
        rcases hc' with z | z
        · rw [z]; exact (tr b u e).2
        · exact (tr c _ z).2
    obtain ⟨hh',g',d',t',os'⟩:=s'
    have e1':os' = s1.os:=hm.os
    have e2':s1.gens = g':=hm.gens
    subst e1'
    have J:=I2.step (h':=hh') (H':=upd H1 (s1.heap.push (revObj a ((its.toArray.size:Int) - 1))).objs.size (.lst xs.reverse)) (ch:=[s1.heap.objs.size]) (g':=g') (t':=t') (d':=d') (fun b hb=>by
        rw [List.mem_singleton.mp hb]
        refine ⟨.inr I1.sz,Nat.ne_of_gt I1.lt,fun z c ec=>?_,fun p hp=>?_⟩
        · obtain ⟨v',hcell⟩:=I1.cell z c ec
          exact Nat.ne_of_lt hcell.lt
        · exact Nat.ne_of_lt (Heap.lt_size (I1.pin p hp).1)) (fun b o _ _ hc' e _=>old b o (fun z=>hc' (by simp [z])) e) (fun b o _ _ hc' e _=>⟨o.slots,old b o (fun z=>hc' (by simp [z])) e⟩)
      (fun b o _ e n=>by rw [jO (neS b o e)]; exact n) (fun b o hc' e=>⟨o,old b o (fun z=>hc' (by simp [z])) e⟩) (fun b ys z=>by rw [jO (tr b _ z).1]; exact z) (fun b o' ys z=>by rw [jO (tr b _ z).1]; exact z)
      (fun b ps z=>⟨#[],by rw [jO (tr b _ z).1,z]; simp⟩) (fun m hm'=>by
        obtain ⟨o,es,ep,ho,r⟩:=hm'
        exact ⟨o,es,ep,old _ o (Nat.ne_of_lt I1.lt) ho,r⟩) hok (by rw [<- e2']; exact I1.bare)
    exact ⟨.ref _,_,J,rfl,q _ hS⟩
  · have:=(I1.lstM ha1).1
    rw [List.size_toArray,<- hl]; exact this
namespace R
variable {X:Cx}
theorem ja2 {e:Expr} {te:TE} {p1 p2 pos pos2:Pos} (hc:X.calm = true) (hgL:Gl X "list") (hmL:X.mg "list" = none) (hgR:Gl X "reversed") (hmR:X.mg "reversed" = none) (ha:QE X e te) (hs:noStar e = true:=by rfl) :
    QE X (.Call (.Name "list" p1) [.Call (.Name "reversed" p2) [e] [] pos2] [] pos) (tRev te):=⟨L2.ja2 hc hgL hmL hgR hmR ha.h hs⟩
end R
end L2
namespace L2
open PySem PySem.Spec PyProof.Rows
end L2
namespace L2
open PySem PySem.Spec PyProof.Rows
end L2
set_option Elab.async false
set_option linter.all false
set_option maxRecDepth 100000
namespace L2
open PySem PySem.Spec PyProof.Rows PySem.W
section
open Builtin Builtin.ObjectAttr Builtin.Getset_descriptor
variable {prog:Program} {w:World} {A:Around} {E:Value->Shared->Prop} {h:Heap} {g:Array GenState} {d:Drawn} {t:Nat} {os:OsState} {a C:Addr} {o:Obj} {K:Frag}
end
section
variable {M:Model} {A:Around} {E:Value->Shared->Prop} {h:Heap} {g:Array GenState} {d:Drawn} {t:Nat} {os:OsState} {a C D:Addr} {o oD:Obj} {K:Frag} {dD:Option Addr} {cD:ClassData} {sD:Array (Option Value)}
end
section
variable {P:Program} {w:World} {K:PySem.W.Frag} {mg:Str->Option Value} {base:Heap}
end
namespace R
section
variable {X:Cx} {e:Expr} {es:List Expr} {te:TE} {t:TA} {pos p:Pos}
end
end R
end L2
set_option Elab.async false
set_option linter.all false
set_option maxRecDepth 100000
namespace L2
open PySem PySem.Spec PyProof.Rows PySem.W
section
variable {P:Program} {w:World} {K:PySem.W.Frag} {mg:Str->Option Value} {base:Heap}
end
namespace R
end R
end L2
set_option Elab.async false
set_option linter.all false
set_option maxRecDepth 100000
namespace L2
open PySem PySem.Spec PyProof.Rows
noncomputable def clOf (cells:List (Str × Addr)):List (Str × NameKind)->List (Str × Addr)->List (Str × Addr)
  | [],acc=>acc
  | (n,k) :: r,acc=>if (k == .free) = true then clOf cells r ((n,(cells.lookup n).getD 0) :: acc) else clOf cells r acc
theorem jiq {env:Env}:∀ (names:List (Str × NameKind)) (acc:List (Str × Addr)),(∀ y ∈ names,y.2 = .free->∃ c,env.cells.lookup y.1 = some c) ->
    (forIn names acc fun (x:Str × NameKind) (r:List (Str × Addr))=>(if (x.2 == .free) = true then do let a <- cellOf env x.1; pure (ForInStep.yield ((x.1,a) :: r)) else pure (ForInStep.yield r):Sem (ForInStep (List (Str × Addr))))) = (pure (clOf env.cells names acc):Sem _)
  | [],acc,_=>rfl
  | (n,k) :: r,acc,h=>by
    have ih:=fun acc=>jiq (env:=env) r acc fun y hy=>h y (List.mem_cons_of_mem _ hy)
    rw [List.forIn_cons]
    cases hk:(k == NameKind.free) with
    | false =>
      have e1:clOf env.cells ((n,k) :: r) acc = clOf env.cells r acc:=by
        show (if (k == NameKind.free) = true then _ else _) = _
        rw [hk]; rfl
      rw [e1,<- ih acc]
      rfl
    | true =>
      have hk':k = .free:=by simpa using hk
      obtain ⟨c,hc⟩:=h (n,k) List.mem_cons_self hk'
      have e1:clOf env.cells ((n,k) :: r) acc = clOf env.cells r ((n,c) :: acc):=by
        show (if (k == NameKind.free) = true then clOf env.cells r ((n,(env.cells.lookup n).getD 0) :: acc) else _) = _
        rw [hk,show env.cells.lookup n = some c from hc]; rfl
      rw [e1,<- ih]
      have e2:cellOf env n = pure c:=by
        unfold cellOf
        rw [show env.cells.lookup n = some c from hc]
      rw [show cellOf env (n,k).fst = pure c from e2]; rfl
theorem jjh {scope:Scope} {env:Env} (h:∀ y ∈ scope.names,y.2 = .free->∃ c,env.cells.lookup y.1 = some c):closureFor scope env = pure (clOf env.cells scope.names []):=by
  have q:=jiq (env:=env) scope.names [] h
  have e:closureFor scope env = Bind.bind (forIn scope.names [] fun (x:Str × NameKind) (r:List (Str × Addr))=>(if (x.2 == .free) = true then do let a <- cellOf env x.1; pure (ForInStep.yield ((x.1,a) :: r)) else pure (ForInStep.yield r):Sem (ForInStep (List (Str × Addr))))) (fun r=>pure r):=rfl
  rw [e,q]; rfl
theorem jft {cells:List (Str × Addr)} {z:Str}:∀ (names:List (Str × NameKind)) (acc:List (Str × Addr)),(acc.lookup z).isSome = true->((clOf cells names acc).lookup z).isSome = true
  | [],_,h=>h
  | (n,k) :: r,acc,h=>by
    unfold clOf
    split
    · refine jft r _ ?_
      rw [List.lookup_cons]
      cases (z == n)
      · exact h
      · rfl
    · exact jft r _ h
theorem jfu {cells:List (Str × Addr)} {z:Str}:∀ (names:List (Str × NameKind)) (acc:List (Str × Addr)),(z,NameKind.free) ∈ names->((clOf cells names acc).lookup z).isSome = true
  | [],_,h=>nomatch h
  | (n,k) :: r,acc,h=>by
    unfold clOf
    rcases List.mem_cons.mp h with e | h
    · cases e
      rw [if_pos (by rfl)]
      refine jft r _ ?_
      rw [List.lookup_cons,show (z == z) = true from by simp]; rfl
    · split
      · exact jfu r _ h
      · exact jfu r _ h
theorem jfv {cells:List (Str × Addr)} {z:Str} {c:Addr}:∀ (names:List (Str × NameKind)) (acc:List (Str × Addr)),(∀ y ∈ names,y.2 = .free->∃ c,cells.lookup y.1 = some c)->(∀ z c,acc.lookup z = some c->cells.lookup z = some c) ->
    (clOf cells names acc).lookup z = some c->cells.lookup z = some c
  | [],_,_,h,e=>h _ _ e
  | (n,k) :: r,acc,hn,h,e=>by
    unfold clOf at e
    split at e
    · rename_i hk
      have hk':k = .free:=by simpa using hk
      obtain ⟨c',hc⟩:=hn (n,k) List.mem_cons_self hk'
      refine jfv r _ (fun y hy=>hn y (List.mem_cons_of_mem _ hy)) (fun z1 c1 e9=>?_) e
      rw [show cells.lookup n = some c' from hc] at e9
      rw [List.lookup_cons] at e9
      cases hz:(z1 == n) with
      | false=>rw [hz] at e9; exact h _ _ e9
      | true =>
        rw [hz] at e9
        have hz':z1 = n:=by simpa using hz
        rw [hz',show cells.lookup n = some c' from hc]
        exact e9
    · exact jfv r _ (fun y hy=>hn y (List.mem_cons_of_mem _ hy)) h e
structure jaM (X:Cx) (scope:Scope) (cl:List (Str × Addr)) (xs ns:List Str) (fr:List Nat):Prop where
  clos:closureFor scope X.env = pure cl
  sub:∀ z c,cl.lookup z = some c->X.env.cells.lookup z = some c
  kind:scope.kind = .function
  nocell:∀ y ∈ scope.names,y.2 ≠ .cell
  names:∀ y ∈ scope.names,y.2 = .local->scope.names.lookup y.1 = some .local
  has:∀ z,((relabel scope X.env).names.lookup z = some .cell ∨ (relabel scope X.env).names.lookup z = some .free)->∃ c,cl.lookup z = some c
  out:∀ (j:Nat) (z:Str),ns[j]? = some z->∃ i,fr[j]? = some i /\ X.N[i]? = some z /\ X.env.scope.names.lookup z = some .cell /\ (relabel scope X.env).names.lookup z = some .cell
  len:fr.length = ns.length
noncomputable def compB (sc cs:List (Str × NameKind)) (N ns:List Str) (fr:List Nat):Bool :=
  cs.all (fun y=>y.2 != .cell) && cs.all (fun y=>y.2 != .local || cs.lookup y.1 == some .local) && cs.all (fun y=>y.2 != .free || sc.lookup y.1 == some .cell)
    && (fr.length == ns.length) && (List.range ns.length).all (fun j=>match ns[j]?,fr[j]? with
      | some z,some i=>N[i]? == some z && sc.lookup z == some .cell && cs.lookup z == some .free
      | _,_=>false)
theorem zP {env:Env} (hk:env.scope.kind = .function):∀ {names:List (Str × NameKind)} {x:Str},names.lookup x = some .free->env.kindOf x = some .cell ->
    (names.map fun (n,k)=>if (k == NameKind.free && env.scope.kind == .function && env.kindOf n == some .cell) then (n,NameKind.cell) else (n,k)).lookup x = some .cell
  | [],_,h,_=>by simp at h
  | (n,k) :: r,x,h,hc=>by
    have ih:=@zP env hk r x
    show List.lookup x ((if (k == NameKind.free && env.scope.kind == .function && env.kindOf n == some .cell) = true then (n,NameKind.cell) else (n,k)) :: _) = _
    cases hx:x == n with
    | true =>
      have e:x = n:=by simpa using hx
      simp only [List.lookup_cons,hx] at h
      cases h
      subst e
      rw [if_pos (by rw [hk,hc]; decide)]
      simp only [List.lookup_cons,hx]
    | false =>
      simp only [List.lookup_cons,hx] at h
      by_cases hc':(k == NameKind.free && env.scope.kind == .function && env.kindOf n == some .cell) = true
      · rw [if_pos hc']; simp only [List.lookup_cons,hx]; exact ih h hc
      · rw [if_neg hc']; simp only [List.lookup_cons,hx]; exact ih h hc
theorem jce {env:Env}:∀ {names:List (Str × NameKind)} {x:Str} {k:NameKind},
    (names.map fun (n,k)=>if (k == NameKind.free && env.scope.kind == .function && env.kindOf n == some .cell) then (n,NameKind.cell) else (n,k)).lookup x = some k->(∀ y ∈ names,y.2 ≠ .cell)->(k = .cell ∨ k = .free)->(x,NameKind.free) ∈ names
  | [],_,_,h,_,_=>by simp at h
  | (n,k0) :: r,x,k,h,hn,hk=>by
    have ih:=@jce env r x k
    have h':List.lookup x ((if (k0 == NameKind.free && env.scope.kind == .function && env.kindOf n == some .cell) = true then (n,NameKind.cell) else (n,k0)) :: r.map fun (n,k)=>if (k == NameKind.free && env.scope.kind == .function && env.kindOf n == some .cell) then (n,NameKind.cell) else (n,k)) = some k:=h
    cases hx:x == n with
    | false =>
      refine List.mem_cons_of_mem _ (ih ?_ (fun y hy=>hn y (List.mem_cons_of_mem _ hy)) hk)
      by_cases hc':(k0 == NameKind.free && env.scope.kind == .function && env.kindOf n == some .cell) = true
      · rw [if_pos hc'] at h'; simpa only [List.lookup_cons,hx] using h'
      · rw [if_neg hc'] at h'; simpa only [List.lookup_cons,hx] using h'
    | true =>
      have e:x = n:=by simpa using hx
      subst e
      by_cases hc':(k0 == NameKind.free && env.scope.kind == .function && env.kindOf x == some .cell) = true
      · have:k0 = .free:=by
          rw [Bool.and_eq_true,Bool.and_eq_true] at hc'
          simpa using hc'.1.1
        rw [this]; exact List.mem_cons_self
      · rw [if_neg hc'] at h'
        simp only [List.lookup_cons,hx] at h'
        have:k0 = k:=Option.some.inj h'
        subst this
        rcases hk with e | e
        · exact absurd e (hn (x,k0) List.mem_cons_self)
        · rw [e]; exact List.mem_cons_self
theorem jaM.of {X:Cx} {scope sc:Scope} {N xs ns:List Str} {fr:List Nat} (hsc:X.env.scope = sc) (hN:X.N = N) (hcl:∃ n,X.env.cells = cellsFrom n X.env.scope.names []) (hk:X.env.scope.kind = .function) (kind:scope.kind = .function)
    (h:compB sc.names scope.names N ns fr = true):jaM X scope (clOf X.env.cells scope.names []) xs ns fr:=by
  subst hsc hN
  unfold compB at h
  rw [Bool.and_eq_true,Bool.and_eq_true,Bool.and_eq_true,Bool.and_eq_true] at h
  obtain ⟨⟨⟨⟨h1,h2⟩,h3⟩,h4⟩,h5⟩:=h
  have n1:∀ y ∈ scope.names,y.2 ≠ .cell:=fun y hy e=>by
    have:=List.all_eq_true.mp h1 y hy
    rw [e] at this; cases this
  have n2:∀ y ∈ scope.names,y.2 = .local->scope.names.lookup y.1 = some .local:=fun y hy e=>by
    have:=List.all_eq_true.mp h2 y hy
    rw [e] at this
    simpa using this
  have n3:∀ y ∈ scope.names,y.2 = .free->X.env.scope.names.lookup y.1 = some .cell:=fun y hy e=>by
    have:=List.all_eq_true.mp h3 y hy
    rw [e] at this
    simpa using this
  have n4:∀ y ∈ scope.names,y.2 = .free->∃ c,X.env.cells.lookup y.1 = some c:=fun y hy e=>by
    obtain ⟨n,hn⟩:=hcl
    rw [hn]
    exact jfs (n3 y hy e)
  refine ⟨jjh n4,fun z c e=>jfv _ [] n4 (fun z c e=>by cases e) e,kind,n1,n2,fun z hz=>?_,fun j z e=>?_,by simpa using h4⟩
  · refine Option.isSome_iff_exists.mp (jfu _ [] ?_)
    rcases hz with q | q
    · exact jce q n1 (.inl rfl)
    · exact jce q n1 (.inr rfl)
  · have hj:j < ns.length:=(List.getElem?_eq_some_iff.mp e).1
    have:=List.all_eq_true.mp h5 j (List.mem_range.mpr hj)
    rw [e] at this
    have h4':fr.length = ns.length:=by simpa using h4
    have hj':j < fr.length:=by rw [h4']; exact hj
    rw [List.getElem?_eq_getElem hj'] at this
    have this':(X.N[fr[j]]? == some z && X.env.scope.names.lookup z == some .cell && scope.names.lookup z == some .free) = true:=this
    rw [Bool.and_eq_true,Bool.and_eq_true] at this'
    obtain ⟨⟨a1,a2⟩,a3⟩:=this'
    have a2':X.env.scope.names.lookup z = some .cell:=by simpa using a2
    exact ⟨fr[j],List.getElem?_eq_getElem hj',by simpa using a1,a2',zP hk (by simpa using a3) a2'⟩
noncomputable def PF (X:Cx) (ifs:List Expr) (t:TT):Prop :=
  ∀ (pins:List (Addr × Obj)) (s:Shared) (σ:St) (H:Hp) (Q:Bool->Hp->Prop),Inv X pins σ H s->t σ H Q ->
    wpAny (model X.prog X.w) X.A (forIn ifs true fun c r=>if r = true then do let ok <- isTrue c X.env (eval c X.env); pure (ForInStep.yield ok) else pure (ForInStep.yield r)) (TP X pins σ Q) X.xe s
noncomputable def fNil:TT:=fun _ H Q=>Q true H
theorem JM {X:Cx}:PF X [] fNil:=fun pins s σ H Q I h=>wpAny_tests_nil ⟨H,I,h⟩
theorem jc9 {X:Cx} {c:Expr} {t:TT} (h:PT X c t):PF X [c] t:=fun pins s σ H Q I hw=>wpAny_tests_one (h pins s σ H Q I hw)
section
variable {prog:Program} {w:World} {A:Around} {R:Result->Shared->Prop} {s:Shared}
theorem jji {elt target iter:Expr} {ifs:List Expr} {scope:Scope} {pos:Pos} {it acc:Value} {env:Env} (I:Nat->Shared->Prop)
    (turn:∀ n s,I n s->wpAny (model prog w) A (pyNext it) (fun r s₁=>match r with
      | none=>R (.ok .next) s₁
      | some v=>wpAny (model prog w) A (letOwnedTupleGo target it v) (fun _ s₁'=>wpAny (model prog w) A (assign target env v) (fun _ s₂ =>
          wpAny (model prog w) A (forIn ifs true fun c r=>if r = true then do let ok <- isTrue c env (eval c env); pure (ForInStep.yield ok) else pure (ForInStep.yield r)) (fun ok s₂'=>if ok = true then wpAny (model prog w) A (eval elt env) (fun x s₃ =>
            wpAny (model prog w) A (call (.builtin "list.append") [acc,x]) (fun _ s₄=>∃ m,m < n /\ I m s₄) (notedBy (model prog w) A env fun e s'=>R (.error e) s') s₃) (notedBy (model prog w) A env fun e s'=>R (.error e) s') s₂'
            else ∃ m,m < n /\ I m s₂') (notedBy (model prog w) A env fun e s'=>R (.error e) s') s₂)
          (notedBy (model prog w) A env fun e s'=>R (.error e) s') s₁') (notedBy (model prog w) A env fun e s'=>R (.error e) s') s₁) (notedBy (model prog w) A env fun e s'=>R (.error e) s') s)
    (n:Nat) (h:I n s):codeAny (model prog w) A (.compLoop (.ListComp elt [⟨target,iter,ifs,0⟩] scope pos) 0 it acc env) R s:=by
  refine codeAny_loop rfl I (fun n s hI=>?_) n h
  show wpAny _ A ((compTurn (.ListComp elt [⟨target,iter,ifs,0⟩] scope pos) 0 it acc env).onRaise (fun x=>do noteFrame x env; theTreesLotGoes x)) _ _ s
  refine wpAny_noted ?_
  rw [compTurn_list]
  refine wpAny_bind (wpAny_standAt (wpAny_bind (wpAny_mono (turn n s hI) (fun r s₁ h₁=>?_) fun _ _ h'=>h')))
  cases r with
  | none=>exact wpAny_pure h₁
  | some v =>
    refine wpAny_bind (wpAny_mono h₁ (fun _ s₀ h₀'=>?_) fun _ _ h'=>h')
    refine wpAny_bind (wpAny_mono h₀' (fun _ s₂ h₂=>?_) fun _ _ h'=>h')
    refine wpAny_bind (wpAny_mono h₂ (fun okb s₃ h₃=>?_) fun _ _ h'=>h')
    cases okb with
    | false=>exact wpAny_pure ⟨rfl,h₃⟩
    | true=>exact wpAny_bind (wpAny_bind (wpAny_mono h₃ (fun x s₄ h₄=>wpAny_bind (wpAny_mono h₄ (fun _ s₅ h₅=>wpAny_pure (wpAny_pure ⟨rfl,h₅⟩)) fun _ _ h'=>h')) fun _ _ h'=>h'))
end
noncomputable def Ye (J:It) (nx:Nat) (g:TG) (fr:List Nat) (tt:TT) (te:TE) (σ:St) (Q:VK) (H1:Hp) (l:Addr):Prop :=
  ∃ W:Nat->Nat->Hp->Prop,(∃ m,W 0 m (upd H1 l (.lst []))) /\ ∀ k m H,W k m H ->
    (J.stop k H /\ Q (.ref l) H) ∨ (J.go k H /\ ∀ v H',J.yld k H v H'->∀ os:St,os.length = nx->g v (os ++ inner σ fr) H' fun σ2 H2=>(∃ os':St,os'.length = nx /\ σ2 = os' ++ inner σ fr) /\ tt σ2 H2 fun b H3 =>
      if b = true then te σ2 H3 fun y H4=>∃ zs m',H4 l = some (.lst zs) /\ zs.length < sizeLine /\ m' < m /\ W (k + 1) m' (upd H4 l (.lst (zs ++ [y]))) else ∃ m',m' < m /\ W (k + 1) m' H3)
noncomputable def jgC (wi:TI) (nx:Nat) (fr:List Nat) (g:TG) (tt:TT) (te:TE):TE:=fun σ H Q=>wi σ H fun J H1=>∀ l,H1 l = none->Ye J nx g fr tt te σ Q H1 l
theorem jir {X:Cx} {pins:List (Addr × Obj)} {σ:St} {H:Hp} {s:Shared} {tg iter elt:Expr} {ifs:List Expr} {scope:Scope} {pos pos':Pos} {cl:List (Str × Addr)} {xs ns:List Str} {fr:List Nat} {wi:TI} {g:TG} {tt:TT} {te:TE}
    {use:Option (Value->Sem Unit)} {Qv:Value->Shared->Prop} {R:VK}
    (hc:X.calm = true) (ok:jaM X scope cl xs ns fr) (hI:PI X tg iter wi) (hg:∀ C s₂ H2 fp,PG (J7 X scope cl (xs ++ ns) C s₂ H2 fp) tg g) (hf:∀ C s₂ H2 fp,PF (J7 X scope cl (xs ++ ns) C s₂ H2 fp) ifs tt)
    (he:∀ C s₂ H2 fp,PE (J7 X scope cl (xs ++ ns) C s₂ H2 fp) elt te) (hs:∀ x,foldedSetIterable iter X.env x = pure x)
    (I:Inv X pins σ H s) (h:jgC wi xs.length fr g tt te σ H R)
    (fin:∀ (C l:Addr) (m:Str->Option Value) (s4:Shared) (Hk:Hp),Inv X pins σ Hk s4->s4.heap.Ns C m->Hk C = none->C ≠ X.env.locals->(∀ z c,X.env.cells.lookup z = some c->c ≠ C)->X.s₀.heap.objs.size <= C->(∀ p ∈ X.pn ++ pins,p.1 ≠ C) ->
      R (.ref l) Hk->compPost (model X.prog X.w) X.A X.xe use Qv (.ref l) C (.ok .next) s4) :
    wpAny (model X.prog X.w) X.A (comprehension (.ListComp elt [⟨tg,iter,ifs,0⟩] scope pos) scope X.env pos' (newList []) false (eval iter X.env) use) Qv X.xe s:=by
  refine wpAny_comprehension_free (use:=use) rfl hs ok.clos ok.kind ok.names ?_
  refine thn (hI pins s σ H _ I h) fun v s1 h1=>thn h1 fun itv s2 h2=>?_
  obtain ⟨it,fp,tn,J,H2,rfl,I2,T,st2,f2,rd⟩:=h2
  refine wpAny_newObj_type (wpAny_newFunctionEnv ok.nocell (by intro y hy; simp at hy) (fun h₁ hns₁ hsb₁=>?_) ok.kind)
  dsimp only at hns₁ hsb₁ ⊢
  generalize hG:s2.heap.push { cls:=.type "list",dict:=none,data:=.seq ([]:List Value).toArray } = G at hns₁ hsb₁ ⊢
  have hC:G.objs.size = s2.heap.objs.size + 1:=by rw [<- hG,Heap.size_push]
  have below:∀ b,b < s2.heap.objs.size->b ≠ G.objs.size /\ b ≠ s2.heap.objs.size:=fun b hb=>⟨by rw [hC]; exact Nat.ne_of_lt (Nat.lt_succ_of_lt hb),Nat.ne_of_lt hb⟩
  have old:∀ b o,s2.heap.get? b = some o->h₁.get? b = some o:=fun b o e=>hsb₁.extBut b o (below b (Heap.lt_size e)).1 (Heap.get?_push_of_some _ (hG ▸ Heap.get?_push_of_some _ e))
  have hacc:h₁.get? s2.heap.objs.size = some { cls:=.type "list",data:=.seq ([]:List Value).toArray } :=
    hsb₁.extBut _ _ (by rw [hC]; exact Nat.ne_of_lt (Nat.lt_succ_self _)) (Heap.get?_push_of_some _ (hG ▸ Heap.get?_push_size _ rfl))
  have lfree:H2 s2.heap.objs.size = none:=I2.hok.fresh (Nat.le_refl _)
  have fplt:∀ b ∈ fp,b < s2.heap.objs.size:=fun b hb=>by
    obtain ⟨o,e,_⟩:=T.obj 0 _ st2 b hb
    exact Heap.lt_size e
  have stk:∀ b ∈ frs X.stack,b ∈ X.env.locals :: X.fs:=I2.jjR
  have clc:∀ z c,cl.lookup z = some c->c < s2.heap.objs.size:=fun z c e=>by
    obtain ⟨v,q⟩:=I2.cell z c (ok.sub z c e)
    exact q.lt
  have okC:(J7 X scope cl (xs ++ ns) G.objs.size s2 H2 fp).Ok:=by
    refine ⟨I2.ok.mod,ok.kind,I2.ok.glob,I2.ok.blt,?_,fun a b c h1 h2=>I2.ok.inj a b c (ok.sub a c h1) (ok.sub b c h2),fun z hz=>ok.has z hz,fun z c hf=>?_,fun _=>I2.ok.hd hc,I2.ok.frames,.inl rfl,fun b hb=>⟨(below b (fplt b hb)).1,fun z c e=>?_⟩,I2.bs,Nat.le_trans I2.ok.bsz I2.sz,fun b o e hb=>?_,fun b hb=>?_,I2.stack,I2.jki⟩
    · show s2.heap.objs.size <= G.objs.size
      rw [hC]; exact Nat.le_succ _
    · exact absurd (show false = true from hf) Bool.false_ne_true
    · exact (f2 b hb).2.2.2.2.1 z c (ok.sub z c e)
    · rcases (f2 b hb).2.2.2.1 with z | z
      · exact I2.ok.noex b o e z
      · exact absurd (Nat.lt_of_lt_of_le (Heap.lt_size e) (Nat.le_trans I2.ok.bsz z)) (Nat.lt_irrefl _)
    · intro z
      rcases List.mem_cons.mp (stk b z) with q | q
      · exact (f2 b hb).2.1 q
      · exact (f2 b hb).2.2.1 q
  have fpC:∀ {H':Hp},(∀ b ∈ fp,H' b = none)->∀ b ∈ fp,FpOk (J7 X scope cl (xs ++ ns) G.objs.size s2 H2 fp) [] H' b:=fun hn b hb =>
    ⟨hn b hb,(below b (fplt b hb)).1,okC.exfs b hb,.inl hb,fun z c e=>(f2 b hb).2.2.2.2.1 z c (ok.sub z c e),fun p hp=>absurd (show p ∈ ([]:List (Addr × Obj)) from hp) (by simp)⟩
  have I4:Inv (J7 X scope cl (xs ++ ns) G.objs.size s2 H2 fp) [] (List.replicate xs.length none ++ inner σ fr) (upd H2 s2.heap.objs.size (.lst [])) { s2 with heap:=h₁,toks:=s2.toks + ([]:List (Str × Value)).length }:=by
    refine ⟨okC,rfl,I2.bare,Un.laid old (Nat.le_refl _) lfree,⟨_,hns₁,fun j z u e1 e2 e3=>?_⟩,fun z c e=>?_,?_,fun z c e=>?_,fun p hp=>absurd (show p ∈ ([]:List (Addr × Obj)) from hp) (by simp),I2.hok.laid old (Nat.le_refl _) ⟨Nat.zero_le _,[],0,.nil,hacc⟩,?_⟩
    · by_cases hj:j < xs.length
      · rw [List.getElem?_append_left (by rw [List.length_replicate]; exact hj),List.getElem?_replicate,if_pos hj] at e2
        have e2':(none:Option V) = some u:=Option.some.inj e2
        cases e2'
      · have hj':xs.length <= j:=Nat.not_lt.mp hj
        rw [List.getElem?_append_right (by rw [List.length_replicate]; exact hj'),List.length_replicate] at e2
        have e1':ns[j - xs.length]? = some z:=by
          have e1'':(xs ++ ns)[j]? = some z:=e1
          rw [List.getElem?_append_right hj'] at e1''; exact e1''
        obtain ⟨i',q1,q2,q3,q4⟩:=ok.out _ z e1'
        have e3':σ[i']? = some (some u):=by
          unfold inner at e2
          rw [List.getElem?_map,q1] at e2
          have e4:(σ[i']?).join = some u:=Option.some.inj e2
          cases q:σ[i']? with
          | none=>rw [q] at e4; cases e4
          | some o=>rw [q] at e4; cases o with
            | none=>cases e4
            | some o=>cases e4; rfl
        obtain ⟨m,hn,hl⟩:=I2.loc
        obtain ⟨val,r,l⟩:=hl i' z u q2 e3' (.inr (.inl q3))
        refine ⟨val,r,.inr ⟨.inl q4,?_⟩⟩
        obtain ⟨c',hc'⟩:=ok.has z (.inl q4)
        rcases l with ⟨k1,_⟩ | ⟨_,c,hcc,hcell⟩
        · have k1':X.env.scope.names.lookup z = some .local:=k1
          rw [q3] at k1'; cases k1'
        · rw [ok.sub z c' hc'] at hcc
          cases hcc
          obtain ⟨ob,ho,hd⟩:=hcell
          exact ⟨c',hc',ob,old _ _ ho,hd⟩
    · obtain ⟨v',ob,ho,hd⟩:=I2.cell z c (ok.sub z c e)
      exact ⟨v',ob,old _ _ ho,hd⟩
    · show upd H2 s2.heap.objs.size (.lst []) G.objs.size = none
      rw [jO (by rw [hC]; exact Nat.ne_of_gt (Nat.lt_succ_self _))]
      exact I2.hok.fresh (by rw [hC]; exact Nat.le_succ _)
    · rw [jO (Nat.ne_of_lt (clc z c e))]
      exact I2.freeC z c (ok.sub z c e)
    · show (List.replicate xs.length none ++ inner σ fr).length = (xs ++ ns).length
      unfold inner
      rw [List.length_append,List.length_append,List.length_map,ok.len,List.length_replicate]
  obtain ⟨W,⟨m0,w0⟩,turns⟩:=rd _ lfree
  have loop:codeAny (model X.prog X.w) X.A (.compLoop (.ListComp elt [⟨tg,iter,ifs,0⟩] scope pos) 0 (.ref it) (.ref s2.heap.objs.size) (compEnvC scope cl G.objs.size X.env))
      (compPost (model X.prog X.w) X.A X.xe use Qv (.ref s2.heap.objs.size) G.objs.size) { s2 with heap:=h₁,toks:=s2.toks + ([]:List (Str × Value)).length }:=by
    refine jji (fun n s'=>∃ k Hk σk,Inv (J7 X scope cl (xs ++ ns) G.objs.size s2 H2 fp) [] σk Hk s' /\ (∃ os:St,os.length = xs.length /\ σk = os ++ inner σ fr) /\ tn k s'.heap /\ (∀ b ∈ fp,Hk b = none) /\ W k n Hk) ?_ m0
      ⟨0,_,_,I4,⟨_,List.length_replicate,rfl⟩,T.keep _ _ _ st2 fun b _ o e=>old b o e,fun b hb=>by rw [jO (below b (fplt b hb)).2]; exact (f2 b hb).1,w0⟩
    rintro n s3 ⟨k,Hk,σk,I3,⟨os,hol,hσ⟩,st3,fr3,w3⟩
    subst hσ
    rcases turns k n Hk w3 with ⟨stop,qn⟩ | ⟨go,step⟩
    · refine thn (T.done (J7 X scope cl (xs ++ ns) G.objs.size s2 H2 fp) rfl rfl rfl rfl k [] s3 _ Hk _ I3 (fpC fr3) st3 stop) fun r s4 zz=>?_
      obtain ⟨hr,I5⟩:=zz
      subst hr
      have J5:Inv X pins σ Hk s4:=I2.call' I5.os I5.base I5.hok I5.bare fun b hb=>⟨(f2 b hb).2.2.2.1,(f2 b hb).2.1,(f2 b hb).2.2.2.2.1,(f2 b hb).2.2.2.2.2⟩
      obtain ⟨mC,hnC,_⟩:=I5.loc
      have neL:G.objs.size ≠ X.env.locals:=Nat.ne_of_gt (Nat.lt_trans I2.lt (by rw [hC]; exact Nat.lt_succ_self _))
      have neCell:∀ z c,X.env.cells.lookup z = some c->c ≠ G.objs.size:=fun z c e q=>by
        obtain ⟨v',hcell⟩:=I2.cell z c e
        have:=hcell.lt
        rw [q,hC] at this
        exact absurd this (Nat.not_lt.mpr (Nat.le_succ _))
      exact fin G.objs.size s2.heap.objs.size mC s4 Hk J5 hnC I5.free neL neCell (Nat.le_trans I2.sz (by rw [hC]; exact Nat.le_succ _)) (fun p hp q=>by
        have:=Heap.lt_size (I2.pin p hp).1
        rw [q,hC] at this
        exact absurd this (Nat.not_lt.mpr (Nat.le_succ _))) qn
    · refine thn (T.item (J7 X scope cl (xs ++ ns) G.objs.size s2 H2 fp) rfl rfl rfl rfl k [] s3 _ Hk _ I3 (fpC fr3) st3 go) fun r s4 zz=>?_
      obtain ⟨u,hr,h4⟩:=zz
      subst hr
      refine thn h4 fun _ s5 zz=>?_
      obtain ⟨val,H5,I5,r5,y5,st5,fr5⟩:=zz
      have I5':=I5.pinned (fpC fr5) (T.obj _ _ st5)
      refine wpAny_mono (hg _ _ _ _ _ s5 _ H5 val u _ I5' r5 (step val H5 y5 os hol)) (fun _ s6 zz=>?_) fun _ _ z=>z.elim
      obtain ⟨σ6,H6,I6,⟨os6,hol6,hσ6⟩,q6⟩:=zz
      subst hσ6
      have back:∀ {H8:Hp} {s8:Shared} {m':Nat},Inv (J7 X scope cl (xs ++ ns) G.objs.size s2 H2 fp) ([] ++ jf5 fp s5.heap) (os6 ++ inner σ fr) H8 s8->m' < n->W (k + 1) m' H8 ->
          ∃ m,m < n /\ ∃ k Hk σk,Inv (J7 X scope cl (xs ++ ns) G.objs.size s2 H2 fp) [] σk Hk s8 /\ (∃ os:St,os.length = xs.length /\ σk = os ++ inner σ fr) /\ tn k s8.heap /\ (∀ b ∈ fp,Hk b = none) /\ W k m Hk:=fun {H8 s8 m'} I8 hm w8=>by
        refine ⟨m',hm,k + 1,_,_,I8.jdN,⟨os6,hol6,rfl⟩,T.keep _ _ _ st5 fun b hb o e=>(I8.pin (b,o) (List.mem_append_right _ (List.mem_append_right _ (jaX hb e)))).1,fun b hb=>?_,w8⟩
        obtain ⟨ob,e,d⟩:=T.obj _ _ st5 b hb
        exact (I8.pin (b,ob) (List.mem_append_right _ (List.mem_append_right _ (jaX hb e)))).2.1
      refine wpAny_mono (hf _ _ _ _ _ s6 _ H6 _ I6 q6) (fun b s6' zz=>?_) fun _ _ z=>z.elim
      obtain ⟨H6',I6',q6'⟩:=zz
      cases b with
      | false =>
        rw [if_neg (by decide)] at q6' ⊢
        obtain ⟨m',hm,w7⟩:=q6'
        exact back I6' hm w7
      | true =>
        rw [if_pos rfl] at q6' ⊢
        refine wpAny_mono (he _ _ _ _ _ s6' _ H6' _ I6' q6') (fun yv s7 zz=>?_) fun _ _ z=>z.elim
        obtain ⟨yy,H7,I7,r7,zs,m',hz,hl,hm,w7⟩:=zz
        refine wpAny_mono (jhi (X:=J7 X scope cl (xs ++ ns) G.objs.size s2 H2 fp) _ s7 _ H7 (.ref s2.heap.objs.size) [yy] (.ref s2.heap.objs.size) [yv] (fun _ H8=>H8 = upd H7 s2.heap.objs.size (.lst (zs ++ [yy]))) I7 rfl (.cons r7 .nil) ⟨_,zs,yy,rfl,rfl,hz,hl,rfl⟩) (fun _ s8 zz=>?_) fun _ _ z=>z.elim
        obtain ⟨_,H8,I8,_,e8⟩:=zz
        subst e8
        exact back I8 hm w7
  exact codeAny_compStart_list loop (T.self _ 0 _ _ _ (T.keep _ _ _ st2 fun b _ o e=>old b o e) loop)
theorem Jj {X:Cx} {tg iter elt:Expr} {ifs:List Expr} {scope:Scope} {pos:Pos} {cl:List (Str × Addr)} {xs ns:List Str} {fr:List Nat} {wi:TI} {g:TG} {tt:TT} {te:TE}
    (hc:X.calm = true) (ok:jaM X scope cl xs ns fr) (hI:PI X tg iter wi) (hg:∀ C s₂ H2 fp,PG (J7 X scope cl (xs ++ ns) C s₂ H2 fp) tg g) (hf:∀ C s₂ H2 fp,PF (J7 X scope cl (xs ++ ns) C s₂ H2 fp) ifs tt)
    (he:∀ C s₂ H2 fp,PE (J7 X scope cl (xs ++ ns) C s₂ H2 fp) elt te) (hs:∀ x,foldedSetIterable iter X.env x = pure x:=by intro _; rfl) :
    PE X (.ListComp elt [⟨tg,iter,ifs,0⟩] scope pos) (jgC wi xs.length fr g tt te):=by
  intro pins s σ H Q I h
  rw [eval_ListComp]
  refine jir (use:=none) hc ok hI hg hf he hs I h fun C l m s4 Hk J5 hn hC neL neCell sz hp q=>?_
  exact ⟨m,hn,fun h' sb=>⟨.ref l,Hk,J5.turned (t':=s4.toks) (it:=C) (fun b o hb e=>sb.extBut b o hb e) hC neL (.inr sz) neCell hp,rfl,q⟩⟩
theorem jdF {X:Cx} {i:Nat} {y:Str} {py spos:Pos} {tg iter elt:Expr} {ifs:List Expr} {scope:Scope} {pos:Pos} {cl:List (Str × Addr)} {xs ns:List Str} {fr:List Nat} {wi:TI} {g:TG} {tt:TT} {te:TE}
    (hc:X.calm = true) (ok:jaM X scope cl xs ns fr) (hN:X.N.Nodup) (hi:X.N[i]? = some y) (hy:Loc X.env.scope y) (hfn:X.fn y = true ∨ X.env.scope.names.lookup y = some .local)
    (hsw:swapsWith (.ListComp elt [⟨tg,iter,ifs,0⟩] scope pos) (some (.Name y py)) spos.line X.env = pure true)
    (hI:PI X tg iter wi) (hg:∀ C s₂ H2 fp,PG (J7 X scope cl (xs ++ ns) C s₂ H2 fp) tg g) (hf:∀ C s₂ H2 fp,PF (J7 X scope cl (xs ++ ns) C s₂ H2 fp) ifs tt)
    (he:∀ C s₂ H2 fp,PE (J7 X scope cl (xs ++ ns) C s₂ H2 fp) elt te) (hs:∀ x,foldedSetIterable iter X.env x = pure x:=by intro _; rfl) :
    PS X (.Assign [.Name y py] (.ListComp elt [⟨tg,iter,ifs,0⟩] scope pos) spos) (tAsg (jgC wi xs.length fr g tt te) (YL i)):=by
  intro pins s σ H D I h
  rw [exec_Assign_Name_used _ _ _ _ hsw]
  refine wpAny_bind (wpAny_standAt (wpAny_bind ?_))
  show wpAny _ X.A (do let _ <- comprehension (.ListComp elt [⟨tg,iter,ifs,0⟩] scope pos) scope X.env _ (newList []) false (eval iter X.env) (some (assign (.Name y py) X.env))) _ _ s
  refine wpAny_bind (wpAny_mono (jir (use:=some (assign (.Name y py) X.env)) (Qv:=fun _ s'=>SP X pins D .next s') hc ok hI hg hf he hs I h fun C l m s4 Hk J5 hn hC neL neCell sz hp q=>?_) (fun _ s' hq=>wpAny_pure (wpAny_pure hq)) fun _ _ e=>e)
  show wpAny _ X.A (assign (.Name y py) X.env (.ref l)) _ _ s4
  refine wpAny_assign_Name (jhv J5 hN hi hy (v:=.ref l) rfl (fun s5 I6 sb=>?_) hfn)
  obtain ⟨aa,hsb,haa⟩:=sb
  have aC:C ≠ aa:=by
    rcases haa with q | q
    · rw [q]; exact neL
    · exact fun z=>neCell _ _ q z.symm
  refine ⟨m,?_,fun h' sb'=>⟨_,_,I6.turned (t':=s5.toks) (it:=C) (fun b o hb e=>sb'.extBut b o hb e) hC neL (.inr sz) neCell hp,q⟩⟩
  obtain ⟨oC,es,ep,ho,r⟩:=hn
  exact ⟨oC,es,ep,hsb.extBut _ _ aC ho,r⟩
end L2
set_option Elab.async false
set_option linter.all false
set_option maxRecDepth 100000
namespace L2
open PySem PySem.Spec PyProof.Rows
section
variable {X:Cx}
theorem jdP:∀ {xs:List V} {us:List Value} {i:Nat} {u:Value},Vals xs us->us[i]? = some u->∃ x,xs[i]? = some x /\ RelV x u
  | [],_,_,_,.nil,e=>by simp at e
  | x :: xs,_,0,u,.cons r rr,e=>⟨x,rfl,by cases e; exact r⟩
  | x :: xs,_,i + 1,u,.cons r rr,e=>by
    obtain ⟨y,hy,ry⟩:=jdP (xs:=xs) (i:=i) rr (by simpa using e)
    exact ⟨y,by simpa using hy,ry⟩
theorem jeF (ns:List Int):∀ k,k <= ns.length->preSum (fun i=>ns.getD i 0) k = (ns.take k).sum
  | 0,_=>rfl
  | k + 1,h=>by
    have ih:=jeF ns k (by omega)
    have hk:k < ns.length:=by omega
    show preSum (fun i=>ns.getD i 0) k + ns.getD k 0 = _
    rw [ih,List.take_succ,List.getElem?_eq_getElem hk,List.sum_append,List.getD_eq_getElem?_getD,List.getElem?_eq_getElem hk]
    show (ns.take k).sum + ns[k] = (ns.take k).sum + (ns[k] + 0)
    rw [Int.add_zero]
theorem jaW {ns:List Int} {its:List Value} {i:Nat} {v:Value} (r:Vals (ns.map V.int) its) (e:its.toArray[i]? = some v):∃ t,v = .int (ns.getD i 0) t:=by
  have e':its[i]? = some v:=by simpa using e
  obtain ⟨x,hx,rx⟩:=jdP r e'
  rw [List.getElem?_map] at hx
  obtain ⟨n,hn,rfl⟩:=Option.map_eq_some_iff.mp hx
  obtain ⟨t,rfl⟩:=rx
  refine ⟨t,?_⟩
  rw [List.getD_eq_getElem?_getD,hn]; rfl
theorem jai (hc:X.calm = true):yx X (.builtin "sum") (fun xs H Q=>∃ (p:Addr) (ns:List Int),xs = [.ref p] /\ SqL X.K H p (ns.map V.int) /\ Q (.int ns.sum) H):=by
  intro pins s σ H xs us Q I r h
  obtain ⟨p,ns,rfl,hq,q⟩:=h
  obtain ⟨u,rfl,rx⟩:=vals1 r
  cases rx
  obtain ⟨its,r',pl,hz⟩:=I.list hq
  have hl:=r'.length
  rw [List.length_map] at hl
  have hlt:p < s.heap.objs.size:=by obtain ⟨_,e,_⟩:=pl.isList; exact Heap.lt_size e
  refine call_sum_walkG (wpAny_pyIter_list pl.isList ?_)
  refine ⟨_,_,_,_,_,_,fun i=>ns.getD i 0,rfl,Walks.list (A:=X.A.in1) (I.ok.hd hc) _ p (Nat.ne_of_lt hlt) its.toArray,⟨⟨_,Heap.get?_push_size _ rfl,rfl,rfl⟩,pl.isList.push _⟩,?_,fun i v e=>jaW r' e,fun h' tk t' hk=>?_⟩
  · intro b hb
    show b < (s.heap.push _).objs.size
    rw [Heap.size_push]
    rcases List.mem_cons.mp hb with rfl | hb
    · exact Nat.lt_succ_self _
    · rw [List.mem_singleton.mp hb]; exact Nat.lt_succ_of_lt hlt
  · refine ⟨.int ns.sum,H,I.kept (old_kept hk),⟨t',?_⟩,q⟩
    rw [List.size_toArray,<- hl,jeF ns _ (Nat.le_refl _),List.take_length]
theorem jdX (hc:X.calm = true):yx X (.builtin "all") (fun xs H Q=>∃ (p:Addr) (bs:List Bool),xs = [.ref p] /\ SqL X.K H p (bs.map V.bl) /\ Q (.bl (bs.all id)) H):=by
  intro pins s σ H xs us Q I r h
  obtain ⟨p,bs,rfl,hq,q⟩:=h
  obtain ⟨u,rfl,rx⟩:=vals1 r
  cases rx
  obtain ⟨its,r',pl,hz⟩:=I.list hq
  have hl:=r'.length
  rw [List.length_map] at hl
  have hlt:p < s.heap.objs.size:=by obtain ⟨_,e,_⟩:=pl.isList; exact Heap.lt_size e
  refine call_all_walk (wpAny_pyIter_list pl.isList ?_)
  refine ⟨_,_,_,_,_,_,fun i=>bs.getD i true,rfl,Walks.list (A:=X.A.in1) (I.ok.hd hc) _ p (Nat.ne_of_lt hlt) its.toArray,⟨⟨_,Heap.get?_push_size _ rfl,rfl,rfl⟩,pl.isList.push _⟩,fun i v s Q E e hQ=>?_,fun h' tk hk=>?_⟩
  · have e':its[i]? = some v:=by simpa using e
    obtain ⟨x,hx,rx⟩:=jdP r' e'
    rw [List.getElem?_map] at hx
    obtain ⟨n,hn,rfl⟩:=Option.map_eq_some_iff.mp hx
    have rx':v = .bool n:=rx
    subst rx'
    refine wpAny_truthy_bool ?_
    have hb:bs.getD i true = n:=by rw [List.getD_eq_getElem?_getD,hn]; rfl
    have hQ':Q (bs.getD i true) s:=hQ
    rw [hb] at hQ'
    exact hQ'
  · refine ⟨.bl (bs.all id),H,I.kept (old_kept hk),?_,q⟩
    have e:((List.range its.toArray.size).all fun i=>bs.getD i true) = bs.all id:=by
      rw [List.size_toArray,<- hl,Bool.eq_iff_iff,List.all_eq_true,List.all_eq_true]
      constructor
      · intro h x hx
        obtain ⟨i,hi,rfl⟩:=List.mem_iff_getElem.mp hx
        have:=h i (List.mem_range.mpr hi)
        rw [List.getD_eq_getElem?_getD,List.getElem?_eq_getElem hi] at this
        exact this
      · intro h i hi
        have hi':=List.mem_range.mp hi
        rw [List.getD_eq_getElem?_getD,List.getElem?_eq_getElem hi']
        exact h _ (List.getElem_mem hi')
    rw [e]; rfl
noncomputable def jfl (ns:List Int) (m:Int):Prop:=m ∈ ns /\ ∀ x ∈ ns,x <= m
theorem jfo (bt:Nat->Nat->Bool):∀ k,argBest bt k <= k
  | 0=>Nat.le_refl _
  | k + 1=>by
    unfold argBest
    split
    · exact Nat.le_refl _
    · exact Nat.le_succ_of_le (jfo bt k)
theorem jeB (val:Nat->Int):∀ k j,j <= k->val j <= val (argBest (fun i j=>decide (val i > val j)) k)
  | 0,j,h=>by
    have:j = 0:=by omega
    subst this; exact Int.le_refl _
  | k + 1,j,h=>by
    have ih:=jeB val k
    unfold argBest
    by_cases hj:j = k + 1
    · subst hj
      split
      · exact Int.le_refl _
      · rename_i hb
        have hb':¬ val (k + 1) > val (argBest (fun i j=>decide (val i > val j)) k):=by simpa using hb
        omega
    · have hjk:=ih j (by omega)
      split
      · rename_i hb
        have hb':val (k + 1) > val (argBest (fun i j=>decide (val i > val j)) k):=by simpa using hb
        omega
      · exact hjk
theorem jfr {ns:List Int} (h:0 < ns.length):jfl ns (ns.getD (argBest (fun i j=>decide (ns.getD i 0 > ns.getD j 0)) (ns.length - 1)) 0):=by
  have hle:=jfo (fun i j=>decide (ns.getD i 0 > ns.getD j 0)) (ns.length - 1)
  have hlt:argBest (fun i j=>decide (ns.getD i 0 > ns.getD j 0)) (ns.length - 1) < ns.length:=by omega
  refine ⟨?_,fun x hx=>?_⟩
  · rw [List.getD_eq_getElem?_getD,List.getElem?_eq_getElem hlt]
    exact List.getElem_mem hlt
  · obtain ⟨i,hi,rfl⟩:=List.mem_iff_getElem.mp hx
    have:=jeB (fun i=>ns.getD i 0) (ns.length - 1) i (by omega)
    have e:ns.getD i 0 = ns[i]:=by rw [List.getD_eq_getElem?_getD,List.getElem?_eq_getElem hi]; rfl
    rw [e] at this
    exact this
theorem jkr (hc:X.calm = true):yx X (.builtin "max") (fun xs H Q=>∃ (p:Addr) (ns:List Int),xs = [.ref p] /\ SqL X.K H p (ns.map V.int) /\ 0 < ns.length /\ ∀ m,jfl ns m->Q (.int m) H):=by
  intro pins s σ H xs us Q I r h
  obtain ⟨p,ns,rfl,hq,h0,q⟩:=h
  obtain ⟨u,rfl,rx⟩:=vals1 r
  cases rx
  obtain ⟨its,r',pl,hz⟩:=I.list hq
  have hl:=r'.length
  rw [List.length_map] at hl
  have hlt:p < s.heap.objs.size:=by obtain ⟨_,e,_⟩:=pl.isList; exact Heap.lt_size e
  refine call_max_walk (wpAny_pyIter_list pl.isList ?_)
  refine ⟨_,_,_,_,_,_,_,rfl,Walks.list (A:=X.A.in1) (I.ok.hd hc) _ p (Nat.ne_of_lt hlt) its.toArray,⟨⟨_,Heap.get?_push_size _ rfl,rfl,rfl⟩,pl.isList.push _⟩,?_,?_,CmpOf.ints_gt (fun i=>ns.getD i 0) (fun i v e=>jaW r' e),fun v h' tk hv hk=>?_⟩
  · intro b hb
    show b < (s.heap.push _).objs.size
    rw [Heap.size_push]
    rcases List.mem_cons.mp hb with rfl | hb
    · exact Nat.lt_succ_self _
    · rw [List.mem_singleton.mp hb]; exact Nat.lt_succ_of_lt hlt
  · rw [List.size_toArray,<- hl]; exact h0
  · obtain ⟨t,rfl⟩:=jaW r' hv
    refine ⟨.int _,H,I.kept (old_kept hk),⟨t,rfl⟩,q _ ?_⟩
    rw [List.size_toArray,<- hl]
    exact jfr h0
theorem mt_bits:MtR X "int.bit_length" (fun x xs H Q=>∃ i,x = .int i /\ xs = [] /\ Q (.int (Builtin.Int.intBits i)) H):=by
  intro pins s σ H x xs v us Q I rx r h
  obtain ⟨i,rfl,rfl,q⟩:=h
  obtain ⟨t,rfl⟩:=rx
  cases r
  exact call_int_bit_length ⟨.int (Builtin.Int.intBits i),H,I.tok _,⟨_,rfl⟩,q⟩
noncomputable def tBits (to:TE):TE:=fun σ H Q=>to σ H fun x H1=>∃ i,x = .int i /\ Q (.int (Builtin.Int.intBits i)) H1
theorem jh1 {o:Expr} {to:TE} {apos cpos:Pos} (ho:PE X o to) (hbase:attributeBase o "bit_length" X.env (eval o X.env) = eval o X.env:=by rfl) (hline:(apos.endLine == cpos.line) = true:=by rfl) :
    PE X (.Call (.Attribute o "bit_length" apos) [] [] cpos) (tBits to):=by
  intro pins s σ H Q I h
  refine wpAny_Call_method0_late hbase hline (thn (ho pins s σ H _ I h) fun v s1 zz=>?_)
  obtain ⟨x,H1,I1,r1,i,e,q1⟩:=zz
  subst e
  obtain ⟨h1,h2⟩:=tyV_is I1 r1 (show tyV X.K "int" (.int i) H1 from rfl)
  exact ⟨"int", "int.bit_length",PySem.F.plainAttrs_int,PySem.F.slot_int_bit_length,PySem.F.type_int_bit_length,h1,h2,Calls.callWith_builtin rfl (PySem.evalArgs_none (mt_bits pins s1 σ H1 (.int i) [] v [] Q I1 r1 .nil ⟨i,rfl,rfl,q1⟩))⟩
end
structure QC (X:Cx) (ifs:List Expr) (t:TT):Prop where h:PF X ifs t
structure QGs (X:Cx) (ts:List Expr) (t:TGs):Prop where h:PGs X ts t
namespace R
section
variable {X:Cx} {e o:Expr} {te to:TE} {pos:Pos}
theorem JM:QC X [] fNil:=⟨L2.JM⟩
theorem jc9 {c:Expr} {t:TT} (h:QT X c t):QC X [c] t:=⟨L2.jc9 h.h⟩
theorem jh1 {apos cpos:Pos} (ho:QE X o to) (hbase:attributeBase o "bit_length" X.env (eval o X.env) = eval o X.env:=by rfl) (hline:(apos.endLine == cpos.line) = true:=by rfl) :
    QE X (.Call (.Attribute o "bit_length" apos) [] [] cpos) (tBits to):=⟨L2.jh1 ho.h hbase hline⟩
theorem ixL (K:PySem.W.Frag) (h:X.K = K:=by rfl):IxR X (rIxL K):=by subst h; exact ix_list
theorem ixT (K:PySem.W.Frag) (h:X.K = K:=by rfl):IxR X (rIxT K):=by subst h; exact qR
theorem zc:QGs X [] gNil:=⟨L2.zc⟩
theorem JQ {es:List Expr} {t:TG} {u:TGs} (h1:QG X e t) (h2:QGs X es u) (hs:(assignEach (e :: es) X.env).map (·.2) = assign e X.env :: (assignEach es X.env).map (·.2):=by rfl):QGs X (e :: es) (jg8 t u):=⟨L2.JQ h1.h h2.h hs⟩
theorem Z7 {es:List Expr} {k:Nat} {t:TGs} (K:PySem.W.Frag) (n:Nat) (hc:X.calm = true) (h:QGs X es t) (hK:X.K = K:=by rfl) (hn:(assignEach es X.env).length = n:=by rfl) (hst:(assignEach es X.env).findIdx? (·.1) = none:=by rfl):QG X (.Tuple es k pos) (gTup K n t):=by
  subst hK; exact ⟨L2.Z7 hc h.h hn hst⟩
theorem jh4 {tg:Expr} {g:TG} (he:QE X e te) (hg:QG X tg g) (hs:swapsWithSole [tg] e pos.line X.env = pure false:=by rfl) (hw:swappedStores [tg] e X.env = pure none:=by rfl)
    (h1:(assignEach [tg] X.env).map (·.2) = [assign tg X.env]:=by rfl):QS X (.Assign [tg] e pos) (tAsg te g):=⟨L2.jh4 he.h hg.h hs hw h1⟩
theorem Jj {tg iter elt:Expr} {ifs:List Expr} {scope:Scope} {wi:TI} {g:TG} {tt:TT} (sc:Scope) (N xs ns:List Str) (fr:List Nat)
    (hc:X.calm = true) (hsc:X.env.scope = sc) (hN:X.N = N) (hcl:∃ n,X.env.cells = cellsFrom n X.env.scope.names []) (hk:X.env.scope.kind = .function) (kind:scope.kind = .function) (hB:compB sc.names scope.names N ns fr = true)
    (hI:QI X tg iter wi) (hg:∀ C s₂ H2 fp,QG (J7 X scope (clOf X.env.cells scope.names []) (xs ++ ns) C s₂ H2 fp) tg g) (hf:∀ C s₂ H2 fp,QC (J7 X scope (clOf X.env.cells scope.names []) (xs ++ ns) C s₂ H2 fp) ifs tt)
    (he:∀ C s₂ H2 fp,QE (J7 X scope (clOf X.env.cells scope.names []) (xs ++ ns) C s₂ H2 fp) elt te) (hs:∀ x,foldedSetIterable iter X.env x = pure x:=by intro _; rfl) :
    QE X (.ListComp elt [⟨tg,iter,ifs,0⟩] scope pos) (jgC wi xs.length fr g tt te) :=
  ⟨L2.Jj hc (jaM.of hsc hN hcl hk kind hB) hI.h (fun C s H f=>(hg C s H f).h) (fun C s H f=>(hf C s H f).h) (fun C s H f=>(he C s H f).h) hs⟩
theorem jdF {i:Nat} {y:Str} {py spos:Pos} {tg iter elt:Expr} {ifs:List Expr} {scope:Scope} {wi:TI} {g:TG} {tt:TT} (sc:Scope) (N xs ns:List Str) (fr:List Nat) (hnd:X.N.Nodup) (hi:X.N[i]? = some y) (hy:Loc X.env.scope y) (hfn:X.fn y = true)
    (hsw:swapsWith (.ListComp elt [⟨tg,iter,ifs,0⟩] scope pos) (some (.Name y py)) spos.line X.env = pure true)
    (hc:X.calm = true) (hsc:X.env.scope = sc) (hN:X.N = N) (hcl:∃ n,X.env.cells = cellsFrom n X.env.scope.names []) (hk:X.env.scope.kind = .function) (kind:scope.kind = .function) (hB:compB sc.names scope.names N ns fr = true)
    (hI:QI X tg iter wi) (hg:∀ C s₂ H2 fp,QG (J7 X scope (clOf X.env.cells scope.names []) (xs ++ ns) C s₂ H2 fp) tg g) (hf:∀ C s₂ H2 fp,QC (J7 X scope (clOf X.env.cells scope.names []) (xs ++ ns) C s₂ H2 fp) ifs tt)
    (he:∀ C s₂ H2 fp,QE (J7 X scope (clOf X.env.cells scope.names []) (xs ++ ns) C s₂ H2 fp) elt te) (hs:∀ x,foldedSetIterable iter X.env x = pure x:=by intro _; rfl) :
    QS X (.Assign [.Name y py] (.ListComp elt [⟨tg,iter,ifs,0⟩] scope pos) spos) (tAsg (jgC wi xs.length fr g tt te) (YL i)) :=
  ⟨L2.jdF hc (jaM.of hsc hN hcl hk kind hB) hnd hi hy (.inl hfn) hsw hI.h (fun C s H f=>(hg C s H f).h) (fun C s H f=>(hf C s H f).h) (fun C s H f=>(he C s H f).h) hs⟩
end
end R
section
variable {K:PySem.W.Frag} {fr:List Nat} {tt:TT} {te:TE} {σ:St} {Q:VK} {H1:Hp} {l:Addr}
noncomputable def Turn1 (fr:List Nat) (tt:TT) (te:TE) (σ:St) (l:Addr) (v:V) (H:Hp) (N:Hp->Prop):Prop :=
  ∀ (K1:V->Hp->Prop) (K0:Hp->Prop),(∀ y H4 zs,H4 l = some (.lst zs)->zs.length < sizeLine->N (upd H4 l (.lst (zs ++ [y])))->K1 y H4)->(∀ H3,N H3->K0 H3) ->
    tt (some v :: inner σ fr) H fun b H3=>if b = true then te (some v :: inner σ fr) H3 K1 else K0 H3
theorem jfw {J:It} (n:Nat) (Pv:Nat->Hp->Prop) (h0:Pv 0 (upd H1 l (.lst []))) (hgo:∀ k H,k < n->Pv k H->J.go k H) (hstop:∀ H,Pv n H->J.stop n H)
    (hs:∀ k H v H',k < n->Pv k H->J.yld k H v H'->Turn1 fr tt te σ l v H' (Pv (k + 1))) (hd:∀ H,Pv n H->Q (.ref l) H):Ye J 1 (YL 0) fr tt te σ Q H1 l:=by
  refine ⟨fun k m H=>m = n - k /\ k <= n /\ Pv k H,⟨n,by simp,Nat.zero_le _,h0⟩,?_⟩
  rintro k m H ⟨rfl,hk,p⟩
  by_cases hlt:k < n
  · refine .inr ⟨hgo k H hlt p,fun v H' hy os ho=>?_⟩
    obtain ⟨o,rfl⟩:=List.length_eq_one_iff.mp ho
    exact ⟨⟨[some v],rfl,rfl⟩,hs k H v H' hlt p hy _ _ (fun y H4 zs h1 h2 h3=>⟨zs,n - (k + 1),h1,h2,by omega,rfl,hlt,h3⟩) fun H3 h3=>⟨n - (k + 1),by omega,rfl,hlt,h3⟩⟩
  · have e:k = n:=by omega
    subst e
    exact .inl ⟨hstop H p,hd H p⟩
theorem jks {lo:Int} {n:Nat} (Pv:Nat->Hp->Prop) (h0:Pv 0 (upd H1 l (.lst [])))
    (hs:∀ k H,k < n->Pv k H->Turn1 fr tt te σ l (.int (lo + k)) H (Pv (k + 1))) (hd:∀ H,Pv n H->Q (.ref l) H):Ye (Itr lo n) 1 (YL 0) fr tt te σ Q H1 l :=
  jfw n Pv h0 (fun _ _ h _=>h) (fun _ _=>Nat.le_refl _) (fun k H v H' hk p hy=>by obtain ⟨rfl,rfl⟩:=hy; exact hs k _ hk p) hd
theorem yh {a:Addr} {xs:List V} (Pv:Nat->Hp->Prop) (h0:Pv 0 (upd H1 l (.lst []))) (hl:∀ k H,k <= xs.length->Pv k H->SqL K H a xs)
    (hs:∀ k x H,xs[k]? = some x->Pv k H->Turn1 fr tt te σ l x H (Pv (k + 1))) (hd:∀ H,Pv xs.length H->Q (.ref l) H):Ye (Itl K a) 1 (YL 0) fr tt te σ Q H1 l :=
  jfw xs.length Pv h0 (fun k H h p=>⟨xs,xs[k],hl k H (Nat.le_of_lt h) p,by simp [h]⟩) (fun H p=>⟨xs,hl _ H (Nat.le_refl _) p,Nat.le_refl _⟩)
    (fun k H v H' hk p hy=>by obtain ⟨rfl,y⟩:=hy; exact hs k v _ (y xs (hl k _ (Nat.le_of_lt hk) p)) p) hd
noncomputable def Turn2 (fr:List Nat) (tt:TT) (te:TE) (σ:St) (l:Addr) (v u:V) (H:Hp) (N:Hp->Prop):Prop :=
  ∀ (K1:V->Hp->Prop) (K0:Hp->Prop),(∀ y H4 zs,H4 l = some (.lst zs)->zs.length < sizeLine->N (upd H4 l (.lst (zs ++ [y])))->K1 y H4)->(∀ H3,N H3->K0 H3) ->
    tt (some v :: some u :: inner σ fr) H fun b H3=>if b = true then te (some v :: some u :: inner σ fr) H3 K1 else K0 H3
theorem comp_by2 {J:It} (n:Nat) (Pv:Nat->Hp->Prop) (h0:Pv 0 (upd H1 l (.lst []))) (hgo:∀ k H,k < n->Pv k H->J.go k H) (hstop:∀ H,Pv n H->J.stop n H)
    (hs:∀ k H v H',k < n->Pv k H->J.yld k H v H'->∃ p x y,v = .ref p /\ SqT K H' p [x,y] /\ Turn2 fr tt te σ l x y H' (Pv (k + 1))) (hd:∀ H,Pv n H->Q (.ref l) H):Ye J 2 (gTup K 2 (jg8 (YL 0) (jg8 (YL 1) gNil))) fr tt te σ Q H1 l:=by
  refine ⟨fun k m H=>m = n - k /\ k <= n /\ Pv k H,⟨n,by simp,Nat.zero_le _,h0⟩,?_⟩
  rintro k m H ⟨rfl,hk,p⟩
  by_cases hlt:k < n
  · refine .inr ⟨hgo k H hlt p,fun v H' hy os ho=>?_⟩
    obtain ⟨o,o',rfl⟩:∃ a b,os = [a,b]:=by
      cases os with
      | nil=>cases ho
      | cons a t =>
        obtain ⟨b,rfl⟩:=List.length_eq_one_iff.mp (Nat.succ.inj ho)
        exact ⟨a,b,rfl⟩
    obtain ⟨p',x,y,rfl,hq,ht⟩:=hs k H v H' hlt p hy
    exact ⟨p',[x,y],rfl,hq,rfl,x,[y],rfl,y,[],rfl,rfl,⟨[some x,some y],rfl,rfl⟩,ht _ _ (fun y H4 zs h1 h2 h3=>⟨zs,n - (k + 1),h1,h2,by omega,rfl,hlt,h3⟩) fun H3 h3=>⟨n - (k + 1),by omega,rfl,hlt,h3⟩⟩
  · have e:k = n:=by omega
    subst e
    exact .inl ⟨hstop H p,hd H p⟩
end
end L2
set_option Elab.async false
set_option linter.all false
set_option maxRecDepth 100000
namespace L2
open PySem PySem.Spec PyProof.Rows
theorem Same.upd {H H':Hp} {l:Addr} (s:Same H H') (h:H l = none) (o:HO):Same H (upd H' l o):=fun b u q=>by rw [jO (jU q h)]; exact s b u q
theorem and_nat (a b:Nat):Builtin.bitAnd (a:Int) b = ((a &&& b:Nat):Int):=by
  unfold Builtin.bitAnd
  rw [show decide ((0:Int) <= (a:Int)) = true from by simp,show decide ((0:Int) <= (b:Int)) = true from by simp]
  show (((a:Int).toNat &&& (b:Int).toNat:Nat):Int) = _
  rw [Int.toNat_natCast,Int.toNat_natCast]
theorem or_nat (a b:Nat):Builtin.bitOr (a:Int) b = ((a ||| b:Nat):Int):=by
  unfold Builtin.bitOr Builtin.bitAnd
  have h1:decide ((0:Int) <= Builtin.bitNot (a:Int)) = false:=by unfold Builtin.bitNot; simp; omega
  have h2:decide ((0:Int) <= Builtin.bitNot (b:Int)) = false:=by unfold Builtin.bitNot; simp; omega
  rw [h1,h2]
  show Builtin.bitNot (Builtin.bitNot (((Builtin.bitNot (Builtin.bitNot (a:Int))).toNat ||| (Builtin.bitNot (Builtin.bitNot (b:Int))).toNat:Nat):Int)) = _
  have e:∀ x:Int,Builtin.bitNot (Builtin.bitNot x) = x:=fun x=>by unfold Builtin.bitNot; omega
  rw [e,e,e,Int.toNat_natCast,Int.toNat_natCast]
theorem shl_nat (k:Nat):(1:Int) * 2 ^ (k:Int).toNat = ((2 ^ k:Nat):Int):=by
  rw [Int.toNat_natCast,Int.one_mul,Int.natCast_pow]; rfl
theorem jio (b:Nat):Builtin.Int.intBits (b:Int) = if b = 0 then 0 else b.log2 + 1:=by
  unfold Builtin.Int.intBits
  by_cases h:b = 0
  · subst h; rfl
  · rw [if_neg h,if_neg (by simpa using h),Int.natAbs_natCast]
theorem bits64 {b:Nat} (h:b < 64):Builtin.Int.intBits (b:Int) <= 6:=by
  rw [jio]
  split
  · omega
  · rename_i h0
    have:=(Nat.log2_lt h0 (k:=6)).mpr h
    omega
noncomputable def things (b:Nat):List Nat:=(List.range 6).filter b.testBit
theorem ji6:∀ b < 64,(List.range (if b = 0 then 0 else b.log2 + 1)).filter (fun k=>decide (b &&& 2 ^ k = 2 ^ k)) = things b:=by decide +kernel
theorem jjT {b k:Nat}:k ∈ things b ↔ k < 6 /\ b.testBit k = true:=by
  unfold things
  rw [List.mem_filter,List.mem_range]
theorem yU (b:Nat):(things b).length <= 6:=by
  have:=List.length_filter_le (b.testBit) (List.range 6)
  rw [List.length_range] at this
  exact this
theorem Zm {a b:Nat}:decide (V.int (a:Int) = V.int (b:Int)) = decide (a = b):=by
  by_cases h:a = b
  · subst h; simp
  · rw [decide_eq_false h,decide_eq_false]
    intro z
    exact h (Int.ofNat.inj (V.int.inj z))
section
variable {K:PySem.W.Frag} {fr:List Nat} {tt:TT} {te:TE} {σ:St} {Q:VK} {H1:Hp} {l:Addr}
theorem Jl {lo:Int} {n:Nat} (p:Nat->Bool) (f:Nat->V) (hn:n <= 100) (hl:H1 l = none)
    (ht:∀ k H,k < n->Same H1 H->∀ C,(∀ H',Same H H'->C (p k) H')->tt (some (.int (lo + k)) :: inner σ fr) H C)
    (he:∀ k H,k < n->p k = true->Same H1 H->∀ C,(∀ H',Same H H'->C (f k) H')->te (some (.int (lo + k)) :: inner σ fr) H C)
    (hd:∀ H,Same H1 H->H l = some (.lst (((List.range n).filter p).map f))->Q (.ref l) H):Ye (Itr lo n) 1 (YL 0) fr tt te σ Q H1 l:=by
  refine jks (fun k H=>Same H1 H /\ H l = some (.lst (((List.range k).filter p).map f))) ⟨jC hl _,jq⟩ ?_ fun H ⟨s,e⟩=>hd H s e
  rintro k H hk ⟨s,e⟩ K1 K0 h1 h0
  refine ht k H hk s _ fun H' s'=>?_
  have e':(List.range (k + 1)).filter p = (List.range k).filter p ++ (if p k = true then [k] else []):=by
    rw [List.range_succ,List.filter_append]
    cases hp:p k <;> simp [hp]
  cases hp:p k with
  | false =>
    rw [if_neg (by decide)]
    refine h0 _ ⟨s.trans s',?_⟩
    rw [e',hp,if_neg (by decide),List.append_nil]
    exact s' _ _ e
  | true =>
    rw [if_pos rfl]
    refine he k H' hk hp (s.trans s') _ fun H'' s''=>?_
    refine h1 _ _ _ (s'' _ _ (s' _ _ e)) ?_ ⟨((s.trans s').trans s'').upd hl _,?_⟩
    · rw [List.length_map]
      have:=List.length_filter_le p (List.range k)
      rw [List.length_range] at this
      exact Ji (by omega)
    · rw [jq,e',hp,if_pos rfl,List.map_append]; rfl
theorem zR {α:Type} {a:Addr} (emb:α->V) (xs:List α) (p:α->Bool) (f:α->V) (hS:SqL K H1 a (xs.map emb)) (hn:xs.length <= 100) (hl:H1 l = none)
    (ht:∀ x ∈ xs,∀ H,Same H1 H->∀ C,(∀ H',Same H H'->C (p x) H')->tt (some (emb x) :: inner σ fr) H C)
    (he:∀ x ∈ xs,p x = true->∀ H,Same H1 H->∀ C,(∀ H',Same H H'->C (f x) H')->te (some (emb x) :: inner σ fr) H C)
    (hd:∀ H,Same H1 H->H l = some (.lst ((xs.filter p).map f))->Q (.ref l) H):Ye (Itl K a) 1 (YL 0) fr tt te σ Q H1 l:=by
  refine yh (xs:=xs.map emb) (fun k H=>Same H1 H /\ H l = some (.lst (((xs.take k).filter p).map f))) ⟨jC hl _,jq⟩ (fun k H _ ⟨s,_⟩=>s.seq hS) ?_ fun H ⟨s,e⟩=>hd H s (by rw [List.length_map,List.take_length] at e; exact e)
  rintro k v H hv ⟨s,e⟩ K1 K0 h1 h0
  rw [List.getElem?_map] at hv
  obtain ⟨x,hx,rfl⟩:=Option.map_eq_some_iff.mp hv
  have hm:x ∈ xs:=List.mem_of_getElem? hx
  refine ht x hm H s _ fun H' s'=>?_
  have e':(xs.take (k + 1)).filter p = (xs.take k).filter p ++ (if p x = true then [x] else []):=by
    rw [List.take_succ,hx,List.filter_append]
    cases hp:p x <;> simp [hp]
  cases hp:p x with
  | false =>
    rw [if_neg (by decide)]
    refine h0 _ ⟨s.trans s',?_⟩
    rw [e',hp,if_neg (by decide),List.append_nil]
    exact s' _ _ e
  | true =>
    rw [if_pos rfl]
    refine he x hm hp H' (s.trans s') _ fun H'' s''=>?_
    refine h1 _ _ _ (s'' _ _ (s' _ _ e)) ?_ ⟨((s.trans s').trans s'').upd hl _,?_⟩
    · rw [List.length_map]
      have h1:=List.length_filter_le p (xs.take k)
      have h2:=List.length_take_le' k xs
      exact Ji (by omega)
    · rw [jq,e',hp,if_pos rfl,List.map_append]; rfl
end
theorem jdW {α:Type} {xs:List α} {k:Nat} {x:α} (h:xs[k]? = some x):atI xs (k:Int) = some x:=Y8 h
end L2
namespace L2
open PySem PySem.Spec PyProof.Rows
noncomputable def rEqI (K:PySem.W.Frag) (neg:Bool):R2:=fun x y H Q=>∃ (a b:Addr) (ns ms:List Int),x = .ref a /\ y = .ref b /\ SqL K H a (ns.map V.int) /\ SqL K H b (ms.map V.int) /\ Q (.bl (if neg then !decide (ns = ms) else decide (ns = ms))) H
theorem ints_all {ns ms:List Int} (h:ns.length = ms.length):((List.range ns.length).all fun j=>ns.getD j 0 == ms.getD j 0) = decide (ns = ms):=by
  rw [Bool.eq_iff_iff,List.all_eq_true,decide_eq_true_iff]
  constructor
  · intro q
    refine List.ext_getElem? fun i=>?_
    by_cases hi:i < ns.length
    · have:=q i (List.mem_range.mpr hi)
      have e:ns.getD i 0 = ms.getD i 0:=by simpa using this
      rw [List.getD_eq_getElem?_getD,List.getD_eq_getElem?_getD,List.getElem?_eq_getElem hi,List.getElem?_eq_getElem (by rw [<- h]; exact hi)] at e
      rw [List.getElem?_eq_getElem hi,List.getElem?_eq_getElem (by rw [<- h]; exact hi)]
      exact congrArg some e
    · rw [List.getElem?_eq_none (by omega),List.getElem?_eq_none (by omega)]
  · intro e j _
    rw [e]; simp
theorem jkx {A:Around} {s:Shared} {ns ms:List Int} {us vs:List Value} (r1:Vals (ns.map V.int) us) (r2:Vals (ms.map V.int) vs) (j:Nat) (h1:j < us.toArray.size) (h2:j < vs.toArray.size):SeqAt.EqAt A s us.toArray[j] vs.toArray[j] (ns.getD j 0 == ms.getD j 0):=by
  obtain ⟨t,e1⟩:=jaW r1 (Array.getElem?_eq_getElem h1)
  obtain ⟨t',e2⟩:=jaW r2 (Array.getElem?_eq_getElem h2)
  rw [e1,e2]
  exact SeqAt.EqAt.int_int _ _ _ _
theorem op_eqI {X:Cx} (hu:X.A.units < cLine):OpR X (compareOp .Eq) (rEqI X.K false):=by
  intro pins s σ H x y v u Q I rx ry h
  obtain ⟨a,b,ns,ms,rfl,rfl,ha,hb,q⟩:=h
  cases rx; cases ry
  obtain ⟨its,r1,p1,_⟩:=I.list ha
  obtain ⟨its2,r2,p2,_⟩:=I.list hb
  have l1:=r1.length
  have l2:=r2.length
  rw [List.length_map] at l1 l2
  by_cases hl:ns.length = ms.length
  · refine SeqAt.eq_listAt p1.isList p2.isList (by rw [List.size_toArray,List.size_toArray]; omega) hu (fun j h1 h2=>jkx r1 r2 j h1 h2) ?_
    refine ⟨_,H,I,?_,q⟩
    show Value.bool _ = Value.bool (decide (ns = ms))
    rw [List.size_toArray,<- l1,ints_all hl]
  · refine SeqAt.eq_list_lengthsAt p1.isList p2.isList (by rw [List.size_toArray,List.size_toArray]; simp; omega) hu ?_
    refine ⟨_,H,I,?_,q⟩
    show Value.bool false = Value.bool (decide (ns = ms))
    rw [decide_eq_false fun e=>hl (by rw [e])]
end L2
namespace L2
open PySem PySem.Spec PyProof.Rows
section
variable {X:Cx}
theorem jaZ:OpR X (binaryOp .BitAnd) (fun x y H Q=>∃ a b:Nat,x = .int a /\ y = .int b /\ Q (.int ((a &&& b:Nat):Int)) H):=by
  intro pins s σ H x y v u Q I rx ry ⟨a,b,e1,e2,q⟩
  exact op_and pins s σ H x y v u Q I rx ry ⟨_,_,e1,e2,by show Q (.int (Builtin.bitAnd a b)) H; rw [and_nat]; exact q⟩
theorem jee:OpR X (binaryOp .BitOr) (fun x y H Q=>∃ a b:Nat,x = .int a /\ y = .int b /\ Q (.int ((a ||| b:Nat):Int)) H):=by
  intro pins s σ H x y v u Q I rx ry ⟨a,b,e1,e2,q⟩
  exact op_or pins s σ H x y v u Q I rx ry ⟨_,_,e1,e2,by show Q (.int (Builtin.bitOr a b)) H; rw [or_nat]; exact q⟩
theorem Qt:OpR X (binaryOp .LShift) (fun x y H Q=>∃ k:Nat,x = .int 1 /\ y = .int k /\ k <= 1000 /\ Q (.int ((2 ^ k:Nat):Int)) H):=by
  intro pins s σ H x y v u Q I rx ry ⟨k,e1,e2,hk,q⟩
  exact op_shl pins s σ H x y v u Q I rx ry ⟨1,k,e1,e2,⟨by omega,by omega,by decide⟩,by show Q (.int ((1:Int) * 2 ^ (k:Int).toNat)) H; rw [shl_nat]; exact q⟩
theorem jke:OpR X (binaryOp .RShift) (fun x y H Q=>∃ a k:Nat,x = .int a /\ y = .int k /\ Q (.int ((a / 2 ^ k:Nat):Int)) H):=by
  intro pins s σ H x y v u Q I rx ry ⟨a,k,e1,e2,q⟩
  refine op_shr pins s σ H x y v u Q I rx ry ⟨a,k,e1,e2,by show (0:Int) <= (k:Int); omega,?_⟩
  show Q (.int ((a:Int) / 2 ^ (k:Int).toNat)) H
  rw [Int.toNat_natCast]
  have e:((a / 2 ^ k:Nat):Int) = (a:Int) / 2 ^ k:=by rw [Int.natCast_ediv,Int.natCast_pow]; rfl
  rw [<- e]; exact q
end
end L2
namespace L2
open PySem PySem.Spec PyProof.Rows
theorem opE {X:Cx} {f:Value->Value->Sem Value} {C:Int->Int->Prop} {g:Int->Int->V} (h:OpR X f (rI C g)):OpR X f (fun x y H Q=>∃ i j r,x = .int i /\ y = .int j /\ C i j /\ g i j = r /\ Q r H):=by
  intro pins s σ H x y v u Q I rx ry ⟨i,j,r,e1,e2,hc,e3,q⟩
  subst e3
  exact h pins s σ H x y v u Q I rx ry ⟨i,j,e1,e2,hc,q⟩
theorem opE0 {X:Cx} {f:Value->Value->Sem Value} {g:Int->Int->V} (h:OpR X f (rI0 g)):OpR X f (fun x y H Q=>∃ i j r,x = .int i /\ y = .int j /\ g i j = r /\ Q r H):=by
  intro pins s σ H x y v u Q I rx ry ⟨i,j,r,e1,e2,e3,q⟩
  subst e3
  exact h pins s σ H x y v u Q I rx ry ⟨i,j,e1,e2,q⟩
end L2
set_option Elab.async false
set_option linter.all false
set_option maxRecDepth 100000
namespace L2
open PySem PySem.Spec PyProof.Rows
section
variable {X:Cx} {pins:List (Addr × Obj)} {σ:St} {H:Hp} {s:Shared} {h':Heap}
theorem Inv.zZ {t':Nat} {ch:List Addr} (I:Inv X pins σ H s) (k:∀ b o,b ∉ ch->s.heap.get? b = some o->h'.get? b = some o) (hf:∀ b ∈ ch,FpOk X pins H b):Inv X pins σ H { s with heap:=h',toks:=t' }:=by
  have nit:∀ b u,H b = some u->b ∉ ch:=fun b u e z=>by have:=(hf b z).1; rw [e] at this; cases this
  refine I.step (g':=s.gens) (d':=s.drawn) (ch:=ch) (fun b hb=>?_) (fun b o _ _ hc e _=>k b o hc e) (fun b o _ _ hc e _=>⟨o.slots,k b o hc e⟩) (fun _ _ _ _ n=>n)
    (fun b o hc e=>⟨o,k b o hc e⟩) (fun _ _ e=>e) (fun _ _ _ e=>e) (fun b ps e=>⟨#[],by rw [e]; simp⟩) (fun m hm=>?_) (fun b u e=>?_) I.bare
  · obtain ⟨f0,f1,f2,f3,f4,f5⟩:=hf b hb
    exact ⟨f3,f1,f4,f5⟩
  · obtain ⟨o,es,ep,ho,r⟩:=hm
    exact ⟨o,es,ep,k _ o (fun z=>(hf _ z).2.1 rfl) ho,r⟩
  · refine (I.hok b u e).stay (fun c v hc q=>k c v ?_ q) (fun _ q=>q) fun _ _ q=>q
    rcases hc with z | z
    · rw [z]; exact nit b u e
    · exact nit c _ z
end
noncomputable def Itz (K:PySem.W.Frag) (a b:Addr):It :=
  ⟨fun i H=>∃ xs x ys y,SqL K H a xs /\ xs[i]? = some x /\ SqL K H b ys /\ ys[i]? = some y,
   fun i H v H'=>∃ p x y,v = .ref p /\ H p = none /\ H' = upd H p (.tup [x,y]) /\ (∀ xs,SqL K H a xs->xs[i]? = some x) /\ (∀ ys,SqL K H b ys->ys[i]? = some y),
   fun i H=>∃ xs ys,SqL K H a xs /\ SqL K H b ys /\ (xs.length <= i ∨ ys.length <= i)⟩
theorem turn_zip {P:Program} {w:World} {K:PySem.W.Frag} {es:List Expr} {kk:Nat} {pos:Pos} (a b z TI TO i1 i2:Addr) (D:ZipApart z TI TO i1 i2 a b) :
    Turn P w K (.Tuple es kk pos) (Itz K a b) [z,TI,TO,i1,i2] z (fun i h=>IsZip h z TI TO .none /\ IsPair h TI (.ref i1) (.ref i2) /\ (∃ u v,IsPair h TO u v) /\ h.IsListIter i1 a i /\ h.IsListIter i2 b i) where
  mem:=by simp
  obj:=fun i h st c hc=>by
    obtain ⟨hz,hTI,⟨u,v,hTO⟩,⟨o1,e1,c1,d1⟩,⟨o2,e2,c2,d2⟩⟩:=st
    simp only [List.mem_cons,List.not_mem_nil,or_false] at hc
    rcases hc with rfl | rfl | rfl | rfl | rfl
    · exact ⟨_,hz,fun v x=>by cases x⟩
    · exact ⟨_,hTI,fun v x=>by cases x⟩
    · exact ⟨_,hTO,fun v x=>by cases x⟩
    · exact ⟨_,e1,fun v x=>by rw [d1] at x; cases x⟩
    · exact ⟨_,e2,fun v x=>by rw [d2] at x; cases x⟩
  keep:=fun i h h' st k=>by
    obtain ⟨hz,hTI,⟨u,v,hTO⟩,h1,h2⟩:=st
    exact ⟨k z (by simp) _ hz,k TI (by simp) _ hTI,⟨u,v,k TO (by simp) _ hTO⟩,h1.at fun o e=>k i1 (by simp) o e,h2.at fun o e=>k i2 (by simp) o e⟩
  item:=by
    intro X hP hw hK hc i pins s σ H E I hf st hg
    subst hP hw hK
    obtain ⟨hz,hTI,⟨u,v,hTO⟩,h1,h2⟩:=st
    obtain ⟨xs,x,ys,y,hq1,hx,hq2,hy⟩:=hg
    obtain ⟨its,rv,p,hz1⟩:=I.list hq1
    obtain ⟨its2,rv2,p2,hz2⟩:=I.list hq2
    obtain ⟨ux,hux,rux⟩:=rv.get hx
    obtain ⟨uy,huy,ruy⟩:=rv2.get hy
    refine wpAny_pyNext_zip_item D hz hTI hTO h1 h2 p.isList p2.isList (x:=ux) (y:=uy) (by simpa using hux) (by simpa using huy) fun h' a1 a2 a3 a4 a5 a6 hk=>?_
    have lt:∀ {c o},s.heap.get? c = some o->c < s.heap.objs.size:=fun e=>Heap.lt_size e
    have ltz:∀ c ∈ [z,TI,TO,i1,i2],c < s.heap.objs.size:=by
      intro c hc
      simp only [List.mem_cons,List.not_mem_nil,or_false] at hc
      rcases hc with rfl | rfl | rfl | rfl | rfl
      · exact lt hz
      · exact lt hTI
      · exact lt hTO
      · obtain ⟨_,e,_⟩:=h1; exact lt e
      · obtain ⟨_,e,_⟩:=h2; exact lt e
    have I1:Inv X pins σ (upd H s.heap.objs.size (.tup [x,y])) { s with heap:=s.heap.push { cls:=.type "tuple",data:=.seq #[ux,uy] },toks:=s.toks }:=by
      refine I.laid (fun c o e=>Heap.get?_push_of_some _ e) (Nat.le_refl _) ⟨by show 2 <= sizeLine; decide,[ux,uy],.cons rux (.cons ruy .nil),?_⟩
      exact ⟨_,Heap.get?_push_size _ rfl,rfl,_,rfl⟩
    have hfr:∀ c ∈ [z,TI,TO,i1,i2],upd H s.heap.objs.size (.tup [x,y]) c = none:=fun c hc=>by
      rw [jO (Nat.ne_of_lt (ltz c hc))]; exact (hf c hc).1
    have hf1:∀ c ∈ [z,TI,TO,i1,i2],FpOk X pins (upd H s.heap.objs.size (.tup [x,y])) c:=fun c hc=>⟨hfr c hc,(hf c hc).2⟩
    have kk:∀ c o,c ∉ [z,TI,TO,i1,i2]->(s.heap.push { cls:=.type "tuple",data:=.seq #[ux,uy] }).get? c = some o->h'.get? c = some o:=fun c o hc e=>by
      rcases Heap.get?_push_cases e with ⟨e9,e8⟩ | e'
      · subst e9 e8; exact a5
      · exact hk c o (fun x=>hc (by simp [x])) (fun x=>hc (by simp [x])) (fun x=>hc (by simp [x])) (fun x=>hc (by simp [x])) e'
    have I2:Inv X pins σ (upd H s.heap.objs.size (.tup [x,y])) { s with heap:=h' }:=by
      have z:=Inv.zZ (t':=s.toks) I1 kk hf1
      exact z
    refine ⟨_,rfl,wpAny_letOwnedTupleGo_zip (s:={ s with heap:=h' }) a1 fun h'' hz'' hs''=>?_⟩
    have I3:Inv X pins σ (upd H s.heap.objs.size (.tup [x,y])) { s with heap:=h'' } :=
      by
      have z:=Inv.zZ (h':=h'') (t':=s.toks) (ch:=[z]) I2 (fun c o hc e=>hs''.extBut c o (fun q=>hc (by simp [q])) e) (fun c hc=>hf1 c (by simp at hc; simp [hc]))
      exact z
    refine ⟨.ref s.heap.objs.size,_,I3,rfl,⟨_,x,y,rfl,I.hok.fresh (Nat.le_refl _),rfl,fun zs hzs=>by rw [I.jdu hzs hq1]; exact hx,fun zs hzs=>by rw [I.jdu hzs hq2]; exact hy⟩,?_,hfr⟩
    have hTI':IsPair h' TI (.ref i1) (.ref i2):=hk _ _ D.TIz D.TITO D.TIi1 D.TIi2 hTI
    exact ⟨hz'',hs''.extBut _ _ D.TIz hTI',⟨_,_,hs''.extBut _ _ D.TOz a2⟩,a3.extBut hs''.extBut D.i1z,a4.extBut hs''.extBut D.i2z⟩
  done:=by
    intro X hP hw hK hc i pins s σ H E I hf st hg
    subst hP hw hK
    obtain ⟨hz,hTI,⟨u,v,hTO⟩,h1,h2⟩:=st
    obtain ⟨xs,ys,hq1,hq2,hend⟩:=hg
    obtain ⟨its,rv,p,hz1⟩:=I.list hq1
    obtain ⟨its2,rv2,p2,hz2⟩:=I.list hq2
    have l1:=rv.length
    have l2:=rv2.length
    refine wpAny_pyNext_zip_end (I.ok.hd hc) D hz hTI hTO h1 h2 p.isList p2.isList ?_ fun h' hk=>⟨rfl,?_⟩
    · rcases hend with q | q
      · exact .inl (by simp; omega)
      · exact .inr (by simp; omega)
    · exact I.zZ (t':=s.toks) (ch:=[z,TI,TO,i1,i2]) (fun c o hc e=>hk c o (fun x=>hc (by simp [x])) (fun x=>hc (by simp [x])) (fun x=>hc (by simp [x])) (fun x=>hc (by simp [x])) e) hf
  self:=fun _ _ _ _ _ st h=>wpAny_pyIter_zip st.1 h
noncomputable def iZip (K:PySem.W.Frag) (ta:TA):TI:=fun σ H R=>ta σ H fun vs H1=>∃ a b,vs = [.ref a,.ref b] /\ (∃ xs,SqL K H1 a xs) /\ (∃ ys,SqL K H1 b ys) /\ R (Itz K a b) H1
theorem jeh {X:Cx} {es:List Expr} {kk:Nat} {tp:Pos} {a b:Expr} {ta:TA} {p pos:Pos} (hg:Gl X "zip") (hm:X.mg "zip" = none) (ha:PA X [a,b] ta) (hs:noStar a = true) (hs2:noStar b = true) :
    PI X (.Tuple es kk tp) (.Call (.Name "zip" p) [a,b] [] pos) (iZip X.K ta):=by
  intro pins s σ H R I h
  refine Call_ (Z6 I hg hm boot_zip (PyProof.Rows.callWith_type1 (thn (ha pos pins s σ H _ I h) fun us s1 zz=>?_) (by rw [Jc hs,Jc hs2]) (by rw [Jc hs2]; rfl)))
  obtain ⟨vs,H1,I1,r1,q1⟩:=zz
  obtain ⟨l1,l2,e,⟨xs,hq1⟩,⟨ys,hq2⟩,q⟩:=q1
  subst e
  obtain ⟨u,u',rfl,ru,ru'⟩:=vals2 r1
  cases ru; cases ru'
  obtain ⟨its,rv,p1,_⟩:=I1.list hq1
  obtain ⟨its2,rv2,p2,_⟩:=I1.list hq2
  have lt1:l1 < s1.heap.objs.size:=by obtain ⟨_,e,_⟩:=p1.isList; exact Heap.lt_size e
  have lt2:l2 < s1.heap.objs.size:=by obtain ⟨_,e,_⟩:=p2.isList; exact Heap.lt_size e
  refine call_zip_2 p1.isList p2.isList fun h' hz hTI hTO hi1 hi2 hsz hk=>?_
  refine wpAny_pyIter_zip hz ?_
  refine ⟨s1.heap.objs.size + 4,_,_,_,H1,rfl,I1.kept (t':=s1.toks) hk,turn_zip l1 l2 _ _ _ _ _ (zipApart_new lt1 lt2),⟨hz,hTI,⟨_,_,hTO⟩,hi1,hi2⟩,fun c hc=>?_,q⟩
  have hge:s1.heap.objs.size <= c:=by
    simp only [List.mem_cons,List.not_mem_nil,or_false] at hc
    rcases hc with rfl | rfl | rfl | rfl | rfl
    · exact Nat.le_add_right _ _
    · exact Nat.le_add_right _ _
    · exact Nat.le_add_right _ _
    · exact Nat.le_refl _
    · exact Nat.le_add_right _ _
  exact I1.fpOk hge (I1.hok.fresh hge)
namespace R
theorem jeh {X:Cx} {es:List Expr} {kk:Nat} {tp:Pos} {a b:Expr} {ta:TA} {p pos:Pos} (hg:Gl X "zip") (hm:X.mg "zip" = none) (ha:QA X [a,b] ta) (hs:noStar a = true:=by rfl) (hs2:noStar b = true:=by rfl) :
    QI X (.Tuple es kk tp) (.Call (.Name "zip" p) [a,b] [] pos) (iZip X.K ta):=⟨L2.jeh hg hm ha.h hs hs2⟩
end R
theorem jdZ {K:PySem.W.Frag} {fr:List Nat} {tt:TT} {te:TE} {σ:St} {Q:VK} {H1:Hp} {l:Addr} {a b:Addr} {xs ys:List V} (hlen:xs.length = ys.length) (Pv:Nat->Hp->Prop) (h0:Pv 0 (upd H1 l (.lst []))) (hl:∀ k H,k <= xs.length->Pv k H->SqL K H a xs /\ SqL K H b ys)
    (hs:∀ k x y p H,xs[k]? = some x->ys[k]? = some y->Pv k H->H p = none->Turn2 fr tt te σ l x y (upd H p (.tup [x,y])) (Pv (k + 1))) (hd:∀ H,Pv xs.length H->Q (.ref l) H) :
    Ye (Itz K a b) 2 (gTup K 2 (jg8 (YL 0) (jg8 (YL 1) gNil))) fr tt te σ Q H1 l :=
  comp_by2 xs.length Pv h0 (fun k H h p=>⟨xs,xs[k],ys,ys[k],(hl k H (Nat.le_of_lt h) p).1,by simp [h],(hl k H (Nat.le_of_lt h) p).2,by simp [hlen ▸ h]⟩) (fun H p=>⟨xs,ys,(hl _ H (Nat.le_refl _) p).1,(hl _ H (Nat.le_refl _) p).2,.inl (Nat.le_refl _)⟩)
    (fun k H v H' hk p hy=>by
      obtain ⟨q,x,y,rfl,hn,rfl,h1,h2⟩:=hy
      exact ⟨q,x,y,rfl,SqT.of jq,hs k x y q H (h1 _ (hl k H (Nat.le_of_lt hk) p).1) (h2 _ (hl k H (Nat.le_of_lt hk) p).2) p hn⟩) hd
theorem for_zip {K:PySem.W.Frag} {a b:Addr} {xs ys:List V} {g:TG} {tb:TS} {D:Ends} {σ:St} {H:Hp} (hlen:xs.length = ys.length) (Pv:Nat->St->Hp->Prop) (h0:Pv 0 σ H) (hl:∀ i σ H,i <= xs.length->Pv i σ H->SqL K H a xs /\ SqL K H b ys)
    (hs:∀ i x y p σ H,xs[i]? = some x->ys[i]? = some y->Pv i σ H->H p = none->g (.ref p) σ (upd H p (.tup [x,y])) fun σ2 H2=>tb { D with nx:=Pv (i + 1),ct:=Pv (i + 1),bk:=D.nx } σ2 H2) (hd:∀ σ H,Pv xs.length σ H->D.nx σ H) :
    ∃ W:Nat->Nat->St->Hp->Prop,(∃ m,W 0 m σ H) /\ ∀ i m σ H,W i m σ H ->
      ((Itz K a b).stop i H /\ D.nx σ H) ∨ ((Itz K a b).go i H /\ ∃ N:St->Hp->Prop,(∀ σ' H',N σ' H'->∃ m',m' < m /\ W (i + 1) m' σ' H') /\ ∀ x H',(Itz K a b).yld i H x H'->g x σ H' fun σ2 H2=>tb { D with nx:=N,ct:=N,bk:=D.nx } σ2 H2):=by
  refine ⟨fun i m σ H=>m = xs.length - i /\ i <= xs.length /\ Pv i σ H,⟨xs.length,by simp,Nat.zero_le _,h0⟩,?_⟩
  rintro i m σ H ⟨rfl,hi,p⟩
  have q:=hl i σ H hi p
  by_cases hlt:i < xs.length
  · refine .inr ⟨⟨xs,xs[i],ys,ys[i],q.1,by simp [hlt],q.2,by simp [hlen ▸ hlt]⟩,Pv (i + 1),fun σ' H' p'=>⟨xs.length - (i + 1),by omega,rfl,hlt,p'⟩,fun v H' y=>?_⟩
    obtain ⟨r,x,y,rfl,hn,rfl,h1,h2⟩:=y
    exact hs i x y r σ _ (h1 _ q.1) (h2 _ q.2) p hn
  · have e:i = xs.length:=by omega
    subst e
    exact .inl ⟨⟨xs,ys,q.1,q.2,.inl (Nat.le_refl _)⟩,hd σ H p⟩
end L2
set_option Elab.async false
set_option linter.all false
set_option maxRecDepth 100000
namespace L2
open PySem PySem.Spec PyProof.Rows
section
variable {prog:Program} {w:World} {A:Around} {R:Result->Shared->Prop} {I:Addr} {fp wr:List Addr} {n:Nat} {P:Nat->Value->Prop} {St':Nat->Heap->Prop} {kw:List (Str × Value)}
theorem gv_mx (W:Walks prog w A.in1 I fp wr n P St') (bt:Nat->Nat->Bool) (cmp:CmpOf prog w A.in1 .Gt P bt) {S:Addr} (nf:S ∉ fp) :
    ∀ (k j:Nat) (s:Shared) (vb:Value) (c:Nat),(j + 1) + k = n->St' (j + 1) s.heap->P (argBest bt j) vb->s.heap.get? S = some { cls:=.type "list",dict:=none,data:=.seq #[vb,vb] c,slots:=#[] } ->
      (∀ v h' tk,P (argBest bt (n - 1)) v->(∀ b o,b ∉ wr->b ≠ S->s.heap.get? b = some o->h'.get? b = some o)->R (.ok (.ret v)) { s with heap:=h',toks:=tk }) ->
      codeAny (model prog w) A (.builtin "max.loop" ⟨[.ref I,.none,.ref S],kw⟩) R s:=by
  have nw:S ∉ wr:=fun z=>nf (W.sub _ z)
  have nm:(toString "max" ++ toString ".loop" : String) = "max.loop" := by decide
  intro k
  induction k with
  | zero =>
    intro j s vb c e0 st pb hS hR
    have e1:n = j + 1:=by omega
    subst e1
    refine codeAny_builtin F.entry_max_loop ?_; rw [Around.under_plainId F.plain_max_loop _]; show wpAny _ A.in1 (seqItems? (.ref S) >>= _) _ _ s; refine wpAny_bind (wpAny_seqItems hS rfl ?_); show wpAny _ A.in1 (tryCatch (pyNext (.ref I)) _ >>= _) _ _ s
    refine wpAny_bind (wpAny_tryCatch (W.done s _ _ st fun g tk keep=>?_))
    show wpAny _ A.in1 (updateSeq S (fun _=>#[]) >>= _) _ _ _
    refine wpAny_bind (wpAny_updateSeq (keep S _ nw hS) rfl (wpAny_bind (wpAny_letGo (wpAny_pure (hR vb _ tk pb fun b o q1 q2 e=>?_)))))
    exact (Heap.get?_update_other _ _ (Ne.symm q2)).trans (keep b o q1 e)
  | succ k ih =>
    intro j s vb c e0 st pb hS hR
    refine codeAny_builtin F.entry_max_loop ?_; rw [Around.under_plainId F.plain_max_loop _]; show wpAny _ A.in1 (seqItems? (.ref S) >>= _) _ _ s; refine wpAny_bind (wpAny_seqItems hS rfl ?_); show wpAny _ A.in1 (tryCatch (pyNext (.ref I)) _ >>= _) _ _ s
    refine wpAny_bind (wpAny_tryCatch (W.item (j + 1) s _ _ (by omega) st fun v g tk pv st2 keep=>?_))
    have hS2:=keep S _ nw hS
    show wpAny _ A.in1 (tryCatch (holding [v,v] (richCompare .Gt v vb >>= _)) _ >>= _) _ _ _
    refine wpAny_bind (wpAny_tryCatch (wpAny_holding (wpAny_bind (cmp (j + 1) (argBest bt j) v vb _ _ _ pv pb (wpAny_bind (wpAny_holding (wpAny_truthy_bool (wpAny_bind (wpAny_letGo (wpAny_pure ?_))))))))))
    have ea:argBest bt (j + 1) = if bt (j + 1) (argBest bt j) = true then j + 1 else argBest bt j:=rfl
    by_cases hb:bt (j + 1) (argBest bt j) = true
    · rw [if_pos hb] at ea ⊢
      refine wpAny_bind (wpAny_updateSeq hS2 rfl (wpAny_bind (wpAny_letGo ?_)))
      rw [nm]
      refine wpAny_pure ⟨plainId_quiet F.plain_max_loop _,ih (j + 1) _ v _ (by omega) (W.frame _ _ _ st2 fun b q o e=>?_) (by rw [ea]; exact pv) (Heap.get?_update_self _ hS2 rfl) fun v' g' tk' pv' keep'=>?_⟩
      · exact (Heap.get?_update_other _ _ (fun z:S = b=>nf (z ▸ q))).trans e
      · exact hR v' g' tk' pv' fun b o q1 q2 e=>keep' b o q1 q2 ((Heap.get?_update_other _ _ (Ne.symm q2)).trans (keep b o q1 e))
    · rw [if_neg hb] at ea ⊢
      refine wpAny_bind (wpAny_letGo ?_)
      rw [nm]
      refine wpAny_pure ⟨plainId_quiet F.plain_max_loop _,ih (j + 1) _ vb c (by omega) st2 (by rw [ea]; exact pb) hS2 fun v' g' tk' pv' keep'=>?_⟩
      exact hR v' g' tk' pv' fun b o q1 q2 e=>keep' b o q1 q2 (keep b o q1 e)
theorem gv_mx0 {d:Value} (W:Walks prog w A.in1 I fp wr n P St') (bt:Nat->Nat->Bool) (cmp:CmpOf prog w A.in1 .Gt P bt) {S:Addr} (nf:S ∉ fp) {s:Shared} {c:Nat} (st:St' 0 s.heap) (hS:s.heap.get? S = some { cls:=.type "list",dict:=none,data:=.seq #[] c,slots:=#[] })
    (hR:∀ v h' tk,(n = 0 /\ v = d ∨ 0 < n /\ P (argBest bt (n - 1)) v)->(∀ b o,b ∉ wr->b ≠ S->s.heap.get? b = some o->h'.get? b = some o)->R (.ok (.ret v)) { s with heap:=h',toks:=tk }) :
    codeAny (model prog w) A (.builtin "max.loop" ⟨[.ref I,.none,.ref S],[(Str.ofString "default",d)]⟩) R s:=by
  have nw:S ∉ wr:=fun z=>nf (W.sub _ z)
  have nm:(toString "max" ++ toString ".loop" : String) = "max.loop" := by decide
  refine codeAny_builtin F.entry_max_loop ?_; rw [Around.under_plainId F.plain_max_loop _]; show wpAny _ A.in1 (seqItems? (.ref S) >>= _) _ _ s; refine wpAny_bind (wpAny_seqItems hS rfl ?_); show wpAny _ A.in1 (tryCatch (pyNext (.ref I)) _ >>= _) _ _ s
  rcases Nat.eq_zero_or_pos n with e0 | e0
  · refine wpAny_bind (wpAny_tryCatch (W.done s _ _ (by rw [e0]; exact st) fun g tk keep=>?_))
    refine wpAny_bind (wpAny_rule (wpAny_pure ?_))
    exact hR d g tk (.inl ⟨e0,rfl⟩) fun b o q1 _ e=>keep b o q1 e
  · refine wpAny_bind (wpAny_tryCatch (W.item 0 s _ _ e0 st fun v g tk pv st2 keep=>?_))
    have hS2:=keep S _ nw hS
    show wpAny _ A.in1 (updateSeq S (fun _=>#[v,v]) >>= _) _ _ _
    refine wpAny_bind (wpAny_updateSeq hS2 rfl ?_)
    rw [nm]
    refine wpAny_pure ⟨plainId_quiet F.plain_max_loop _,gv_mx W bt cmp nf (n - 1) 0 _ v _ (by omega) (W.frame _ _ _ st2 fun b q o e=>?_) pv (Heap.get?_update_self _ hS2 rfl) fun v' g' tk' pv' keep'=>?_⟩
    · exact (Heap.get?_update_other _ _ (fun z:S = b=>nf (z ▸ q))).trans e
    · exact hR v' g' tk' (.inr ⟨e0,pv'⟩) fun b o q1 q2 e=>keep' b o q1 q2 ((Heap.get?_update_other _ _ (Ne.symm q2)).trans (keep b o q1 e))
end
theorem jiD (a v:Value):argsOk "max" ⟨[a],[(Str.ofString "default",v)]⟩:=by unfold argsOk; kernel_rfl
section
variable {X:Cx}
theorem gv_maxD {pins:List (Addr × Obj)} {s:Shared} {σ:St} {H:Hp} {Q:VK} {p:Addr} {ns:List Int} {d:Int} {t:Tok} (hc:X.calm = true) (J:Inv X pins σ H s) (hq:SqL X.K H p (ns.map V.int)) (q0:ns = []->Q (.int d) H) (q1:∀ m,jfl ns m->Q (.int m) H) :
    wpAny (model X.prog X.w) X.A (call (.builtin "max") [.ref p] [(Str.ofString "default",.int d t)]) (EP X pins σ Q) X.xe s:=by
  obtain ⟨its,r',pl,hz⟩:=J.list hq
  have hl:=r'.length
  rw [List.length_map] at hl
  have hlt:p < s.heap.objs.size:=by obtain ⟨_,e,_⟩:=pl.isList; exact Heap.lt_size e
  have nm:(toString "max" ++ toString ".loop" : String) = "max.loop" := by decide
  refine kmk_tree PySem.F.kind_max PySem.F.plain_max PySem.F.entry_max (jiD _ _) ?_
  show wpAny _ X.A.in1 (Builtin.Builtins.bindParams "max" ["key", "default"] 0 ⟨[],[(Str.ofString "default",.int d t)]⟩ >>= _) _ _ s
  refine wpAny_bind (wpAny_of_eq (show Builtin.Builtins.bindParams "max" ["key", "default"] 0 ⟨[],[(Str.ofString "default",.int d t)]⟩ = pure [none,some (.int d t)] from rfl) (wpAny_bind (wpAny_pure ?_)))
  refine wpAny_bind (wpAny_pyIter_list pl.isList (wpAny_bind (wpAny_newObj_type ?_)))
  rw [nm]
  have hI:p ≠ s.heap.objs.size:=Nat.ne_of_lt hlt
  have hsz:(s.heap.push { cls:=.type "list_iterator",data:=.fields #[.ref p,.int 0 0] }).objs.size = s.heap.objs.size + 1:=Heap.size_push ..
  refine wpAny_pure ⟨plainId_quiet F.plain_max_loop _,gv_mx0 (Walks.list (A:=X.A.in1) (J.ok.hd hc) s.heap.objs.size p hI its.toArray) _ (CmpOf.ints_gt (fun i=>ns.getD i 0) (fun i v e=>jaW r' e)) ?_ ?_ (Heap.get?_push_size _ rfl) ?_⟩
  · intro z
    rw [hsz] at z
    rcases List.mem_cons.mp z with z | z
    · exact absurd z (Nat.ne_of_gt (Nat.lt_succ_self _))
    · have z':=List.mem_singleton.mp z
      exact absurd z'.symm (Nat.ne_of_lt (Nat.lt_succ_of_lt hlt))
  · exact ⟨⟨_,Heap.get?_push_of_some _ (Heap.get?_push_size _ rfl),rfl,rfl⟩,(pl.isList.push _).push _⟩
  · intro v g tk hv keep
    have J':Inv X pins σ H { s with heap:=g,toks:=tk }:=by
      refine J.kept fun b o e=>keep b o (fun z=>?_) (fun z=>?_) (Heap.get?_push_of_some _ (Heap.get?_push_of_some _ e))
      · rw [List.mem_singleton.mp z] at e; exact absurd (Heap.lt_size e) (Nat.lt_irrefl _)
      · rw [z,hsz] at e; exact absurd (Nat.lt_of_succ_lt (Heap.lt_size e)) (Nat.lt_irrefl _)
    rcases hv with ⟨e0,rfl⟩ | ⟨e0,hv⟩
    · rw [List.size_toArray] at e0
      exact ⟨.int d,H,J',⟨t,rfl⟩,q0 (List.length_eq_zero_iff.mp (by omega))⟩
    · obtain ⟨t',rfl⟩:=jaW r' hv
      rw [List.size_toArray] at e0
      refine ⟨.int _,H,J',⟨t',rfl⟩,q1 _ ?_⟩
      rw [List.size_toArray,<- hl]
      exact jfr (by omega)
noncomputable def tMaxD (K:PySem.W.Frag) (te td:TE):TE:=fun σ H Q=>te σ H fun x H1=>td σ H1 fun y H2=>∃ (p:Addr) (ns:List Int) (d:Int),x = .ref p /\ y = .int d /\ SqL K H2 p (ns.map V.int) /\ (ns = []->Q (.int d) H2) /\ ∀ m,jfl ns m->Q (.int m) H2
theorem jfd {e d:Expr} {te td:TE} {p kpos pos:Pos} (hc:X.calm = true) (hg:Gl X "max") (hm:X.mg "max" = none) (ha:PE X e te) (hd:PE X d td) (hs:noStar e = true) :
    PE X (.Call (.Name "max" p) [e] [⟨some "default",d,kpos⟩] pos) (tMaxD X.K te td):=by
  intro pins s σ H Q I h
  refine wpAny_Call_Name_kw (Z6 I hg hm boot_max ?_)
  refine callWith_kw (thn ((pa_c ha ji hs) pos pins s σ H (fun vs H1=>match vs with
    | [x]=>td σ H1 fun y H2=>∃ (p:Addr) (ns:List Int) (d:Int),x = .ref p /\ y = .int d /\ SqL X.K H2 p (ns.map V.int) /\ (ns = []->Q (.int d) H2) /\ ∀ m,jfl ns m->Q (.int m) H2
    | _=>False) I h) fun us s1 zz=>?_) (by rw [Jc hs]; rfl) (by rw [Jc hs]; rfl) rfl rfl
  obtain ⟨vs,H1,I1,r1,q1⟩:=zz
  match vs,q1 with
  | [x],q1 =>
    obtain ⟨u,rfl,ru⟩:=vals1 r1
    refine kws_cons (thn (hd pins s1 σ H1 _ I1 q1) fun v s2 zz=>kws_nil ?_)
    obtain ⟨y,H2,I2,r2,p2,ns,dd,e1,e2,hq,q0,qm⟩:=zz
    subst e1 e2
    cases ru
    obtain ⟨t,rfl⟩:=r2
    exact gv_maxD hc I2 hq q0 qm
end
namespace R
theorem jfd {X:Cx} (K:PySem.W.Frag) {e d:Expr} {te td:TE} {p kpos pos:Pos} (hc:X.calm = true) (hg:Gl X "max") (hm:X.mg "max" = none) (ha:QE X e te) (hd:QE X d td) (hs:noStar e = true:=by rfl) (hK:X.K = K:=by rfl) :
    QE X (.Call (.Name "max" p) [e] [⟨some "default",d,kpos⟩] pos) (tMaxD K te td):=by subst hK; exact ⟨L2.jfd hc hg hm ha.h hd.h hs⟩
end R
end L2
set_option Elab.async false
set_option linter.all false
set_option maxRecDepth 100000
namespace L2
theorem jgB {b c:Nat}:b &&& c = c ↔ ∀ k,c.testBit k = true->b.testBit k = true:=by
  constructor
  · intro h k hk
    have:(b &&& c).testBit k = true:=by rw [h]; exact hk
    rw [Nat.testBit_and,Bool.and_eq_true] at this
    exact this.1
  · intro h
    refine Nat.eq_of_testBit_eq fun k=>?_
    rw [Nat.testBit_and]
    cases hc:c.testBit k with
    | false=>rw [Bool.and_false]
    | true=>rw [h k hc]; rfl
theorem sub_or {b p:Nat}:b ||| p = b ↔ b &&& p = p:=by
  rw [jgB]
  constructor
  · intro h k hk
    have:(b ||| p).testBit k = true:=by rw [Nat.testBit_or,hk,Bool.or_true]
    rw [h] at this; exact this
  · intro h
    refine Nat.eq_of_testBit_eq fun k=>?_
    rw [Nat.testBit_or]
    cases hp:p.testBit k with
    | false=>rw [Bool.or_false]
    | true=>rw [h k hp]; rfl
theorem jhx {a b c:Nat} (h1:a &&& b = b) (h2:b &&& c = c):a &&& c = c:=by
  rw [jgB] at *
  exact fun k hk=>h1 k (h2 k hk)
noncomputable def top (ns:List Int):Int:=ns.foldl max 0
theorem jjU (ns:List Int):∀ a:Int,a <= ns.foldl max a /\ ∀ x ∈ ns,x <= ns.foldl max a:=by
  induction ns with
  | nil=>intro a; exact ⟨Int.le_refl _,fun x h=>by cases h⟩
  | cons y ns ih =>
    intro a
    obtain ⟨h1,h2⟩:=ih (max a y)
    refine ⟨Int.le_trans (Int.le_max_left a y) h1,fun x hx=>?_⟩
    rcases List.mem_cons.mp hx with e | hx
    · rw [e]; exact Int.le_trans (Int.le_max_right a y) h1
    · exact h2 x hx
theorem jkm (ns:List Int):∀ a:Int,ns.foldl max a = a ∨ ns.foldl max a ∈ ns:=by
  induction ns with
  | nil=>intro a; exact .inl rfl
  | cons y ns ih =>
    intro a
    show ns.foldl max (max a y) = a ∨ ns.foldl max (max a y) ∈ y :: ns
    rcases ih (max a y) with h | h
    · rw [h]
      rcases Int.le_total a y with q | q
      · rw [Int.max_eq_right q]; exact .inr List.mem_cons_self
      · rw [Int.max_eq_left q]; exact .inl rfl
    · exact .inr (List.mem_cons_of_mem _ h)
theorem jhz {ns:List Int} {m:Int} (h0:∀ x ∈ ns,0 <= x) (h:jfl ns m):m = top ns:=by
  have h1:=(jjU ns 0).2 m h.1
  rcases jkm ns 0 with e | e
  · have:=h0 m h.1
    unfold top; omega
  · have:=h.2 _ e
    unfold top; omega
theorem jgD (ns:List Int):0 <= top ns:=(jjU ns 0).1
end L2
set_option Elab.async false
set_option linter.all false
set_option maxRecDepth 100000
namespace L2
open PySem PySem.Spec PyProof.Rows
section
variable {P:Program} {w:World} {K:PySem.W.Frag} {mg:Str->Option Value} {base:Heap}
end
end L2
set_option Elab.async false
set_option linter.all false
set_option maxRecDepth 100000
namespace L2
open PySem PySem.Spec PyProof.Rows
section
variable {X:Cx}
end
namespace R
section
variable {X:Cx} {e e2 o a b c:Expr} {to ta tb tc:TE} {t:TA} {pos apos cpos:Pos}
theorem jb8 {op op':CmpOp} {r r':R2} (h1:OpR X (compareOp op) r) (h2:OpR X (compareOp op') r') (ha:QE X a ta) (hb:QE X b tb) (hc:QE X c tc)
    (hm:lastMarks [op,op'] [b,c] = false:=by with_unfolding_all rfl):QE X (.Compare a [op,op'] [b,c] pos) (jig r r' ta tb tc):=⟨L2.jb8 h1 h2 ha.h hb.h hc.h hm⟩
theorem jdG {op op':CmpOp} {r r':R2} (h1:OpR X (compareOp op) r) (h2:OpR X (compareOp op') r') (ha:QE X a ta) (hb:QE X b tb) (hc:QE X c tc)
    (hm:lastMarks [op,op'] [b,c] = false:=by with_unfolding_all rfl):QT X (.Compare a [op,op'] [b,c] pos) (tTest (jig r r' ta tb tc)):=⟨L2.jdG h1 h2 ha.h hb.h hc.h hm⟩
end
end R
end L2
set_option Elab.async false
set_option linter.all false
set_option maxRecDepth 100000
namespace L2
open PySem PySem.Spec PyProof.Rows
noncomputable def Jo (s:Stmt):List Stmt:=match s with
  | .ClassDef _ _ _ b _ _ _ _ _ _ _=>b
  | _=>[]
structure Own (K:PySem.W.Frag) (mg:Str->Option Value) (x:Str) (C:Addr) (nos:List Str):Prop where
  at_:mg x = some (.ref C)
  cls:Cls K C
  makes:PySem.W.makesIn K C = true
  kp:PySem.W.keepIn K (.ref C) = true
  no:∀ f ∈ nos,jaQ K C f
  t1:PySem.W.findIn K (.ref C) "__class__" = some (some (.builtin "object.__class__"))
  t2:PySem.W.specialIn K (.builtin "object.__class__") "__get__" = some (some (.builtin "getset_descriptor.__get__"))
  t3:PySem.W.takesIn K (.builtin "object.__class__") = some true
  t4:PySem.W.mroIn K C (.type "object") = some true
theorem Own.ty {K:PySem.W.Frag} {mg:Str->Option Value} {x:Str} {C a dx:Addr} {nos:List Str} {H:Hp} {fs:List (Str × V)} (O:Own K mg x C nos) (e:H a = some (.ins C dx fs)):TyOf K H (.ref a) (.ref C):=.ins e O.cls O.t1 O.t2 O.t3 O.t4
structure J3 (P:Program) (w:World) (K:PySem.W.Frag) (mg:Str->Option Value) (base:Heap) (k:Nat) (C:Addr) (m:Str) (ps:List Str) (sp:Sp):Prop where
  ex:∃ (f:Addr) (fd:FuncData),FnOk P w K mg base CX0 k f fd ps sp /\ Binds K fd ps [] /\ Meth K C m f /\ Cls K C
structure Zh (P:Program) (w:World) (K:PySem.W.Frag) (mg:Str->Option Value) (base:Heap) (k:Nat) (x:Str) (C:Addr) (ps:List Str) (sp:Sp):Prop where
  ex:∃ (f:Addr) (fd:FuncData),FnOk P w K mg base CX0 k f fd ps sp /\ Binds K fd ps [] /\ Mk K C f /\ mg x = some (.ref C)
structure jik (K:PySem.W.Frag) (mg:Str->Option Value) (x:Str) (C:Addr):Prop where
  makes:PySem.W.makesIn K C = true
  init:PySem.W.findIn K (.ref C) "__init__" = some (some (.builtin "object.__init__"))
  kp:PySem.W.keepIn K (.ref C) = true
  at_:mg x = some (.ref C)
section
variable {X:Cx}
theorem jkW {pins:List (Addr × Obj)} {σ:St} {H:Hp} {s:Shared} {Q:VK} {C:Addr} {x:Str} (M:jik X.K X.mg x C) (I:Inv X pins σ H s)
    (h:∀ a dx,H a = none->H dx = none->dx ≠ a->Q (.ref a) (upd (upd H dx (.own a)) a (.ins C dx []))):wpAny (model X.prog X.w) X.A (call (.ref C) []) (EP X pins σ Q) X.xe s:=by
  have hq:=h (s.heap.objs.size + 1) s.heap.objs.size (I.hok.fresh (Nat.le_succ _)) (I.hok.fresh (Nat.le_refl _)) (Nat.ne_of_lt (Nat.lt_succ_self _))
  have I2:=Inv.made (C:=C) I
  have Y:=PySem.W.makes_of (M:=model X.prog X.w) I.kIn M.makes
  have up:∀ b o,s.heap.get? b = some o->((s.heap.push PySem.W.emptyDict).push (PySem.W.instObj C s.heap.objs.size)).get? b = some o:=fun b o e=>Heap.get?_push_of_some _ (Heap.get?_push_of_some _ e)
  have hx:((s.heap.push PySem.W.emptyDict).push (PySem.W.instObj C s.heap.objs.size)).get? (s.heap.objs.size + 1) = some (PySem.W.instObj C s.heap.objs.size):=by
    have z:=Heap.get?_push_size (s.heap.push PySem.W.emptyDict) (o:=PySem.W.instObj C s.heap.objs.size) rfl
    rwa [Heap.size_push] at z
  have t1:PySem.W.Looks (model X.prog X.w) ((s.heap.push PySem.W.emptyDict).push (PySem.W.instObj C s.heap.objs.size)) (typeOf (.ref (s.heap.objs.size + 1))) (.ref C):=(PySem.W.Looks.ld hx).andThen .now
  have t2:PySem.W.Looks (model X.prog X.w) ((s.heap.push PySem.W.emptyDict).push (PySem.W.instObj C s.heap.objs.size)) (isInstance (.ref (s.heap.objs.size + 1)) (.type "object")) true:=t1.andThen (Y.top.keeps up)
  refine wpAny_call (jkI I.kIn M.makes M.init (fun self=>PySem.W.Looks.of_pure (PySem.W.oi_bind self)) ?_)
  refine codeAny_call_builtin PySem.W.oi_plain PySem.W.entry_oi (@PySem.W.check_slot (model X.prog X.w) _ _ _ "object.__init__" "object" "__init__" (.ref (s.heap.objs.size + 1)) [] [] _ PySem.W.oi_kind PySem.W.oi_split t2 (PySem.W.oi_args (.ref (s.heap.objs.size + 1))) ?_)
  rw [PySem.W.oi_run]
  exact wpAny_pure (And.intro rfl ⟨V.ref (s.heap.objs.size + 1),_,I2,rfl,hq⟩)
noncomputable def tMake0 (C:Addr):TE:=fun _ H Q=>∀ a dx,H a = none->H dx = none->dx ≠ a->Q (.ref a) (upd (upd H dx (.own a)) a (.ins C dx []))
theorem jjH {x:Str} {C:Addr} {p pos:Pos} (M:jik X.K X.mg x C) (hg:Gl X x) (hdb:(x == ("__debug__" : Str)) = false:=by decide):PE X (.Call (.Name x p) [] [] pos) (tMake0 C):=by
  intro pins s σ H Q I h
  exact wpAny_Call_Name_kw (jfa I hg M.at_ (PySem.W.callWith_K0 I.kIn M.kp (jkW M I h)) hdb)
noncomputable def jii (T:Addr->Sp->Prop) (m:Str) (ta:TE) (t:TA):TE:=fun σ H Q=>ta σ H fun x H1=>∃ (a C dx:Addr) (fs:List (Str × V)) (sp:Sp),x = .ref a /\ H1 a = some (.ins C dx fs) /\ fs.lookup m = none /\ T C sp /\ t σ H1 fun vs H2=>sp (x :: vs) H2 Q E0
theorem Qe {T:Addr->Sp->Prop} {m:Str} {o e:Expr} {es:List Expr} {ta:TE} {t:TA} {apos pos:Pos} {j:Nat} {pl:Sem Bool} (he:PE X o ta) (hT:∀ C sp,T C sp->∃ ps,J3 X.prog X.w X.K X.mg X.base j C m ps sp) (hr:Room j X.A) (ha:PA X (e :: es) t)
    (hst:starEach (e :: es) X.env = (false,eval e X.env) :: starEach es X.env) (hpl:(backTo pos (starEach es X.env)).any (·.1) = false)
    (ht:eval (.Call (.Attribute o m apos) (e :: es) [] pos) X.env = (do
      let ov <- eval o X.env
      standAt apos.atName
      let (f,first) <- holding [ov] (getMethod ov m pl)
      callWith pos f first (backTo pos (starEach (e :: es) X.env)) (backToKw pos (keywordEach [] X.env)))) :
    PE X (.Call (.Attribute o m apos) (e :: es) [] pos) (jii T m ta t):=by
  intro pins s σ H Q I h
  refine PySem.W.methodCall_KW (pl:=pl) (thn (he pins s σ H _ I h) fun u s1 zz=>?_) ht
  obtain ⟨x,H1,I1,rx,a,C,dx,fs,sp,ex,ea,l,hC,q⟩:=zz
  subst ex
  obtain rfl:u = Value.ref a:=rx
  obtain ⟨ps,D⟩:=hT C sp hC
  obtain ⟨f,fd,F,b,hm,c⟩:=D.ex
  refine jfI I1 ea c hm l (PySem.W.callWith_K (first:=[.ref a]) (h₀:=X.base) I.ok.mod.kin hm.kp (thn (ha pos pins s1 σ H1 _ I1 q) fun us s2 ⟨vs,H2,I2,r,q2⟩=>⟨I2.kIn,?_⟩) hst hpl)
  have q3:sp (V.ref a :: (vs ++ [])) H2 Q E0:=by rw [List.append_nil]; exact q2
  exact jjI (us:=.ref a :: us) (vs:=.ref a :: vs) (dvs:=[]) F hr b .nil pass0 I2 (.cons rfl r) q3
theorem ym {T:Addr->Sp->Prop} {m:Str} {o:Expr} {ta:TE} {apos pos:Pos} {j:Nat} {pl:Sem Bool} (he:PE X o ta) (hT:∀ C sp,T C sp->∃ ps,J3 X.prog X.w X.K X.mg X.base j C m ps sp) (hr:Room j X.A)
    (ht:eval (.Call (.Attribute o m apos) [] [] pos) X.env = (do
      let ov <- eval o X.env
      standAt apos.atName
      let (f,first) <- holding [ov] (getMethod ov m pl)
      callWith pos f first (backTo pos (starEach [] X.env)) (backToKw pos (keywordEach [] X.env)))) :
    PE X (.Call (.Attribute o m apos) [] [] pos) (jii T m ta tNil):=by
  intro pins s σ H Q I h
  refine PySem.W.methodCall_KW (pl:=pl) (thn (he pins s σ H _ I h) fun u s1 zz=>?_) ht
  obtain ⟨x,H1,I1,rx,a,C,dx,fs,sp,ex,ea,l,hC,q⟩:=zz
  subst ex
  obtain rfl:u = Value.ref a:=rx
  obtain ⟨ps,D⟩:=hT C sp hC
  obtain ⟨f,fd,F,b,hm,c⟩:=D.ex
  refine jfI I1 ea c hm l (PySem.W.callWith_K0 (first:=[.ref a]) I1.kIn hm.kp ?_)
  exact jjI (us:=[.ref a]) (vs:=[.ref a]) (dvs:=[]) F hr b .nil pass0 I1 (.cons rfl .nil) q
noncomputable def rIsOwn (K:PySem.W.Frag) (D:Addr):List V->Hp->VK->Prop:=fun xs H Q=>∃ x t b,xs = [x,.ref D] /\ TyOf K H x t /\ PySem.W.kitOne K t (.ref D) = some b /\ Q (.bl b) H
theorem jjg (D:Addr):yx X (.builtin "isinstance") (rIsOwn X.K D):=by
  intro pins s σ H xs us Q I r h
  obtain ⟨x,t,b,rfl,ty,e,q⟩:=h
  obtain ⟨u,u',rfl,ru,ru'⟩:=vals2 r
  cases ru'
  exact jha I ru ty e fun tk=>⟨.bl b,H,I.tok tk,rfl,q⟩
end
namespace R
section
variable {X:Cx} {e o value:Expr} {es:List Expr} {te to ta tv:TE} {t:TA} {pos p apos pos':Pos}
theorem Jp (K:PySem.W.Frag) {f:Str} (he:QE X e ta) (hb:attributeBase e f X.env (eval e X.env) = eval e X.env:=by rfl) (hK:X.K = K:=by rfl):QE X (.Attribute e f pos) (tFld K ta f):=by subst hK; exact ⟨L2.Jp he.h hb⟩
theorem YT {f:Str} (ha:QE X o ta) (hv:QE X value tv) (hs:jfR value = true:=by rfl):QS X (.Assign [.Attribute o f pos'] value pos) (sFld X.K ta tv f):=⟨L2.YT ha.h hv.h (jdL hs)⟩
theorem jjH {x:Str} {C:Addr} (M:jik X.K X.mg x C) (hg:Gl X x) (hdb:(x == ("__debug__" : Str)) = false:=by decide):QE X (.Call (.Name x p) [] [] pos) (tMake0 C):=⟨L2.jjH M hg hdb⟩
theorem Zu {k j:Nat} {x:Str} {C:Addr} {ps:List Str} {sp:Sp} (D:Zh X.prog X.w X.K X.mg X.base k x C ps sp) (hr:Room j X.A) (hj:k + 1 <= j) (hg:Gl X x) (ha:QA X (e :: es) t) (hs:(e :: es).all noStar = true:=by rfl) (hdb:(x == ("__debug__" : Str)) = false:=by decide) :
    QE X (.Call (.Name x p) (e :: es) [] pos) (tMake C sp [] E0 t):=by
  obtain ⟨f,fd,F,b,M,m⟩:=D.ex
  exact ⟨L2.pe_make M F (hr.mono hj) hg m b .nil pass0 ha.h hdb (Jc (Qh hs).1) (jaI (Qh hs).2)⟩
theorem Qe {T:Addr->Sp->Prop} {m:Str} {k j:Nat} {pl:Sem Bool} (he:QE X o ta) (hT:∀ C sp,T C sp->∃ ps,J3 X.prog X.w X.K X.mg X.base k C m ps sp) (hr:Room j X.A) (hj:k <= j) (ha:QA X (e :: es) t) (hs:(e :: es).all noStar = true:=by rfl)
    (ht:eval (.Call (.Attribute o m apos) (e :: es) [] pos) X.env = (do
      let ov <- eval o X.env
      standAt apos.atName
      let (f,first) <- holding [ov] (getMethod ov m pl)
      callWith pos f first (backTo pos (starEach (e :: es) X.env)) (backToKw pos (keywordEach [] X.env))):=by rfl) :
    QE X (.Call (.Attribute o m apos) (e :: es) [] pos) (jii T m ta t):=⟨L2.Qe (pl:=pl) he.h hT (hr.mono hj) ha.h (Jc (Qh hs).1) (jaI (Qh hs).2) ht⟩
theorem ym {T:Addr->Sp->Prop} {m:Str} {k j:Nat} {pl:Sem Bool} (he:QE X o ta) (hT:∀ C sp,T C sp->∃ ps,J3 X.prog X.w X.K X.mg X.base k C m ps sp) (hr:Room j X.A) (hj:k <= j)
    (ht:eval (.Call (.Attribute o m apos) [] [] pos) X.env = (do
      let ov <- eval o X.env
      standAt apos.atName
      let (f,first) <- holding [ov] (getMethod ov m pl)
      callWith pos f first (backTo pos (starEach [] X.env)) (backToKw pos (keywordEach [] X.env))):=by rfl) :
    QE X (.Call (.Attribute o m apos) [] [] pos) (jii T m ta tNil):=⟨L2.ym (pl:=pl) he.h hT (hr.mono hj) ht⟩
theorem Zt {x:Str} {D:Addr} {p2:Pos} (hg:Gl X "isinstance") (hm:X.mg "isinstance" = none) (hgT:Gl X x) (hmT:X.mg x = some (.ref D)) (ha:QE X e te) (hs:noStar e = true:=by rfl) (hdb:(x == ("__debug__" : Str)) = false:=by decide) :
    QE X (.Call (.Name "isinstance" p) [e,.Name x p2] [] pos) (tCB (rIsOwn X.K D) (jdM te (jdM (tC (.ref D)) tNil))) :=
  ⟨L2.Jz (jjg D) hg hm boot_isinstance (L2.pa_c ha.h (L2.pa_c (L2.pe_glob hgT hmT rfl hdb) L2.ji) hs) (by rw [List.all_cons,hs]; rfl)⟩
end
end R
end L2
set_option Elab.async false
set_option linter.all false
set_option maxRecDepth 100000
namespace L2
open PySem PySem.Spec PyProof.Rows
inductive Form where
  | none
  | only (b:Nat) (m:Int)
  | some (k l:Nat) (m:Int)
  | most (k c:Nat) (m:Int)
inductive Tr where
  | leaf (f:Form)
  | node (any:Bool) (ts:List Tr)
noncomputable def qL:Form->Nat
  | .none=>0
  | .only b _=>b
  | .some k _ _=>k
  | .most k _ _=>k
mutual
noncomputable def j9:Tr->Nat
  | .leaf _=>1
  | .node _ ts=>1 + j7 ts
noncomputable def j7:List Tr->Nat
  | []=>0
  | t :: ts=>max (j9 t) (j7 ts)
end
mutual
noncomputable def jW:Tr->Nat
  | .leaf _=>1
  | .node _ ts=>1 + jR ts
noncomputable def jR:List Tr->Nat
  | []=>0
  | t :: ts=>jW t + jR ts
end
mutual
noncomputable def Jb:Tr->Nat
  | .leaf f=>qL f
  | .node _ ts=>Jg ts
noncomputable def Jg:List Tr->Nat
  | []=>0
  | t :: ts=>Jb t ||| Jg ts
end
theorem jjj:∀ ts:List Tr,((j7 ts:Nat):Int) = top (ts.map fun t=>((j9 t:Nat):Int)):=by
  have key:∀ (ts:List Tr) (a:Nat),(ts.map fun t=>((j9 t:Nat):Int)).foldl max (a:Int) = ((max a (j7 ts):Nat):Int):=by
    intro ts
    induction ts with
    | nil=>intro a; show (a:Int) = _; rw [show j7 [] = 0 from rfl,Nat.max_eq_left (Nat.zero_le _)]
    | cons t ts ih =>
      intro a
      show (ts.map fun t=>((j9 t:Nat):Int)).foldl max (max (a:Int) ((j9 t:Nat):Int)) = _
      have e:max (a:Int) ((j9 t:Nat):Int) = ((max a (j9 t):Nat):Int):=by omega
      rw [e,ih]
      show _ = ((max a (max (j9 t) (j7 ts)):Nat):Int)
      omega
  intro ts
  have:=key ts 0
  rw [Nat.max_eq_right (Nat.zero_le _)] at this
  exact this.symm
theorem jdl:∀ ts:List Tr,((jR ts:Nat):Int) = (ts.map fun t=>((jW t:Nat):Int)).sum
  | []=>rfl
  | t :: ts=>by
    show ((jW t + jR ts:Nat):Int) = _
    rw [List.map_cons,List.sum_cons,<- jdl ts]; omega
theorem jd0:∀ t:Tr,1 <= j9 t
  | .leaf _=>Nat.le_refl _
  | .node _ ts=>by show 1 <= 1 + j7 ts; omega
theorem yW {ts:List Tr} {t:Tr} (h:t ∈ ts):j9 t <= j7 ts:=by
  induction ts with
  | nil=>cases h
  | cons x ts ih =>
    show j9 t <= max (j9 x) (j7 ts)
    rcases List.mem_cons.mp h with e | h
    · subst e; omega
    · have:=ih h; omega
theorem Qi:∀ (as bs:List Tr),j7 (as ++ bs) = max (j7 as) (j7 bs)
  | [],bs=>by show j7 bs = max 0 (j7 bs); omega
  | a :: as,bs=>by show max (j9 a) (j7 (as ++ bs)) = max (max (j9 a) (j7 as)) (j7 bs); rw [Qi as bs]; omega
theorem qO:∀ (as bs:List Tr),jR (as ++ bs) = jR as + jR bs
  | [],bs=>by show jR bs = 0 + jR bs; omega
  | a :: as,bs=>by show jW a + jR (as ++ bs) = jW a + jR as + jR bs; rw [qO as bs]; omega
noncomputable def All2 {α β:Type} (R:α->β->Prop) (xs:List α) (ys:List β):Prop:=xs.length = ys.length /\ ∀ (i:Nat) (x:α) (y:β),xs[i]? = some x->ys[i]? = some y->R x y
section
variable {α β:Type} {R S:α->β->Prop} {xs xs':List α} {ys ys':List β}
theorem All2.nil:All2 R [] []:=⟨rfl,fun i x y e=>by simp at e⟩
theorem All2.imp (h:All2 R xs ys) (f:∀ x y,y ∈ ys->R x y->S x y):All2 S xs ys:=⟨h.1,fun i x y e1 e2=>f x y (List.mem_of_getElem? e2) (h.2 i x y e1 e2)⟩
theorem All2.append (h:All2 R xs ys) (g:All2 R xs' ys'):All2 R (xs ++ xs') (ys ++ ys'):=by
  refine ⟨by rw [List.length_append,List.length_append,h.1,g.1],fun i x y e1 e2=>?_⟩
  by_cases hi:i < xs.length
  · rw [List.getElem?_append_left hi] at e1
    rw [List.getElem?_append_left (by rw [<- h.1]; exact hi)] at e2
    exact h.2 i x y e1 e2
  · rw [List.getElem?_append_right (by omega)] at e1
    rw [List.getElem?_append_right (by rw [<- h.1]; omega),<- h.1] at e2
    exact g.2 _ x y e1 e2
theorem All2.one {x:α} {y:β} (h:R x y):All2 R [x] [y]:=⟨rfl,fun i a b e1 e2=>by
  match i with
  | 0=>cases e1; cases e2; exact h
  | i + 1=>simp at e1⟩
theorem All2.snoc {x:α} {y:β} (h:All2 R xs ys) (g:R x y):All2 R (xs ++ [x]) (ys ++ [y]):=h.append (.one g)
theorem All2.at {bs:List Addr} {R:Addr->β->Prop} (h:All2 R bs ys) {i:Nat} {v:V} (e:(bs.map V.ref)[i]? = some v):∃ b y,v = .ref b /\ bs[i]? = some b /\ ys[i]? = some y /\ R b y:=by
  rw [List.getElem?_map] at e
  obtain ⟨b,hb,rfl⟩:=Option.map_eq_some_iff.mp e
  have hi:i < bs.length:=(List.getElem?_eq_some_iff.mp hb).1
  have hi':i < ys.length:=by rw [<- h.1]; exact hi
  exact ⟨b,ys[i],rfl,hb,List.getElem?_eq_getElem hi',h.2 i b _ hb (List.getElem?_eq_getElem hi')⟩
end
theorem Ql:∀ ts:List Tr,ts.length <= jR ts
  | []=>Nat.le_refl _
  | t :: ts=>by
    have h1:1 <= jW t:=by cases t with | leaf f=>exact Nat.le_refl _ | node a us=>show 1 <= 1 + jR us; omega
    have h2:=Ql ts
    show ts.length + 1 <= jW t + jR ts
    omega
theorem qD {ts:List Tr} {t:Tr} (h:t ∈ ts):jW t <= jR ts:=by
  induction ts with
  | nil=>cases h
  | cons x ts ih =>
    show jW t <= jW x + jR ts
    rcases List.mem_cons.mp h with e | h
    · subst e; omega
    · have:=ih h; omega
theorem ji5 (ts:List Tr) (i:Nat) (t:Tr) (h:ts[i]? = some t):jR (ts.take (i + 1)) = jR (ts.take i) + jW t:=by
  rw [List.take_succ,h,qO]; show _ + (jW t + 0) = _; omega
end L2
set_option Elab.async false
set_option linter.all false
set_option maxRecDepth 100000
namespace L2
open PySem PySem.Spec PyProof.Rows
structure jfh (m:Int):Prop where
  lo:0 <= m
  hi:m <= 10 ^ 9
noncomputable def qP:Form->Prop
  | .none=>True
  | .only b m=>1 <= b /\ b <= 63 /\ jfh m
  | .some k l m=>1 <= k /\ k <= 63 /\ 1 <= l /\ l <= 6 /\ jfh m
  | .most k c m=>1 <= k /\ k <= 63 /\ 1 <= c /\ c <= 6 /\ jfh m
noncomputable def yf:Form->Nat->Int
  | .none,_=>0
  | .only b m,x=>if x &&& b = b then m else 0
  | .some k l m,x=>if l <= (things (x &&& k)).length then m else 0
  | .most k c m,x=>m * (if c < (things (x &&& k)).length then c else (things (x &&& k)).length:Nat)
noncomputable def jfg (f:Form) (n:Nat):List Int:=(List.range (2 ^ n)).map (yf f)
noncomputable def jba (x:Nat):List Nat:=(List.range (x + 1)).filter fun p=>decide (x &&& p = p)
theorem jaJ {x p:Nat}:p ∈ jba x ↔ x &&& p = p:=by
  unfold jba
  rw [List.mem_filter,List.mem_range]
  constructor
  · exact fun h=>of_decide_eq_true h.2
  · intro h
    have:p <= x:=by rw [<- h]; exact Nat.and_le_left
    exact ⟨by omega,decide_eq_true h⟩
theorem jkJ:∀ y < 64,∀ x ∈ jba y,∀ p ∈ jba x,(y - p) &&& (x - p) = x - p:=by decide +kernel
noncomputable def conv (g h:Nat->Int) (x:Nat):Int:=top ((jba x).map fun p=>g p + h (x - p))
noncomputable def mx (g h:Nat->Int) (x:Nat):Int:=if h x > g x then h x else g x
noncomputable def join (any:Bool) (g h:Nat->Int):Nat->Int:=if any = true then conv g h else mx g h
mutual
noncomputable def Qc:Tr->Nat->Int
  | .leaf f=>yf f
  | .node any ts=>qX any ts (fun _=>0)
noncomputable def qX:Bool->List Tr->(Nat->Int)->Nat->Int
  | _,[],g=>g
  | any,t :: ts,g=>qX any ts (join any g (Qc t))
end
theorem jfq (any:Bool) (t:Tr):∀ (ts:List Tr) (g:Nat->Int),qX any (ts ++ [t]) g = join any (qX any ts g) (Qc t)
  | [],g=>by show qX any [t] g = join any (qX any [] g) (Qc t); rw [qX,qX,qX]
  | u :: ts,g=>by
    show qX any (u :: (ts ++ [t])) g = join any (qX any (u :: ts) g) (Qc t)
    rw [qX,qX,jfq any t ts]
theorem jaS (any:Bool) (ts:List Tr) (i:Nat) (t:Tr) (h:ts[i]? = some t) (g:Nat->Int):qX any (ts.take (i + 1)) g = join any (qX any (ts.take i) g) (Qc t):=by
  rw [List.take_succ,h]; exact jfq any t _ g
theorem jah (any:Bool) (g:Nat->Int):qX any [] g = g:=by rw [qX]
theorem zF (any:Bool) (ts:List Tr):Qc (.node any ts) = qX any ts (fun _=>0):=by rw [Qc]
theorem jcs (f:Form):Qc (.leaf f) = yf f:=by rw [Qc]
structure Good (g:Nat->Int):Prop where
  zero:g 0 = 0
  up:∀ x y,y < 64->y &&& x = x->g x <= g y
theorem Good.nonneg {g:Nat->Int} (h:Good g) {x:Nat} (hx:x < 64):0 <= g x:=by
  have:=h.up 0 x hx (Nat.and_zero x)
  rw [h.zero] at this; exact this
theorem sub_lt {x p:Nat} (hx:x < 64) (h:x &&& p = p):p < 64:=by
  have:p <= x:=by rw [<- h]; exact Nat.and_le_left
  omega
theorem jiR {g h:Nat->Int} (hg:Good g) (hh:Good h) {x:Nat} (hx:x < 64) {p:Nat} (hp:x &&& p = p):0 <= g p + h (x - p):=by
  have h1:=hg.nonneg (sub_lt hx hp)
  have h2:=hh.nonneg (show x - p < 64 by omega)
  omega
theorem jj4 {g h:Nat->Int} {x p:Nat} (hp:x &&& p = p):g p + h (x - p) <= conv g h x :=
  (jjU _ 0).2 _ (List.mem_map.mpr ⟨p,jaJ.mpr hp,rfl⟩)
theorem jhM (g h:Nat->Int) (x:Nat):conv g h x = 0 ∨ ∃ p,x &&& p = p /\ conv g h x = g p + h (x - p):=by
  rcases jkm ((jba x).map fun p=>g p + h (x - p)) 0 with e | e
  · exact .inl e
  · obtain ⟨p,hp,e⟩:=List.mem_map.mp e
    exact .inr ⟨p,jaJ.mp hp,e.symm⟩
theorem jkt {g h:Nat->Int} (hg:Good g) (hh:Good h):Good (conv g h):=by
  constructor
  · rcases jhM g h 0 with e | ⟨p,hp,e⟩
    · exact e
    · have:p = 0:=by rw [<- hp]; exact Nat.zero_and p
      subst this
      rw [e,hg.zero,hh.zero]; rfl
  · intro x y hy hs
    rcases jhM g h x with e | ⟨p,hp,e⟩
    · rw [e]; exact jgD _
    · rw [e]
      have h1:=hh.up (x - p) (y - p) (by omega) (jkJ y hy x (jaJ.mpr hs) p (jaJ.mpr hp))
      have h2:=jj4 (g:=g) (h:=h) (jhx hs hp)
      omega
theorem mx_good {g h:Nat->Int} (hg:Good g) (hh:Good h):Good (mx g h):=by
  constructor
  · unfold mx; rw [hg.zero,hh.zero]; rfl
  · intro x y hy hs
    have h1:=hg.up x y hy hs
    have h2:=hh.up x y hy hs
    unfold mx
    split <;> split <;> omega
theorem jkC (any:Bool) {g h:Nat->Int} (hg:Good g) (hh:Good h):Good (join any g h):=by
  cases any
  · exact mx_good hg hh
  · exact jkt hg hh
theorem good0:Good fun _=>0:=⟨rfl,fun _ _ _ _=>Int.le_refl _⟩
theorem jfC {p q:Nat->Bool}:∀ (l:List Nat),(∀ k ∈ l,p k = true->q k = true)->(l.filter p).length <= (l.filter q).length
  | [],_=>Nat.le_refl _
  | k :: l,h=>by
    have ih:=jfC l (fun j hj=>h j (List.mem_cons_of_mem _ hj))
    have hk:=h k (List.mem_cons_self ..)
    rw [List.filter_cons,List.filter_cons]
    cases e1:p k with
    | true=>rw [hk e1]; show _ + 1 <= _ + 1; omega
    | false =>
      cases e2:q k with
      | true=>show _ <= _ + 1; rw [if_neg (by decide)]; omega
      | false=>rw [if_neg (by decide),if_neg (by decide)]; exact ih
theorem jeK {x y:Nat} (h:y &&& x = x) (k:Nat):(things (x &&& k)).length <= (things (y &&& k)).length:=by
  refine jfC _ fun i _ e=>?_
  rw [Nat.testBit_and,Bool.and_eq_true] at e ⊢
  exact ⟨jgB.mp h i e.1,e.2⟩
theorem jjb {f:Form} (ok:qP f):Good (yf f):=by
  cases f with
  | none=>exact good0
  | only b m =>
    refine ⟨?_,fun x y hy hs=>?_⟩
    · show (if 0 &&& b = b then m else 0) = 0
      rw [Nat.zero_and,if_neg (by have:=ok.1; omega)]
    · show (if x &&& b = b then m else 0) <= if y &&& b = b then m else 0
      have hm:=ok.2.2.lo
      by_cases c:x &&& b = b
      · rw [if_pos c,if_pos (jhx hs c)]; exact Int.le_refl _
      · rw [if_neg c]; split; exact hm; exact Int.le_refl _
  | some k l m =>
    refine ⟨?_,fun x y hy hs=>?_⟩
    · show (if l <= (things (0 &&& k)).length then m else 0) = 0
      rw [Nat.zero_and,if_neg (by have:=ok.2.2.1; show ¬ l <= 0; omega)]
    · show (if l <= (things (x &&& k)).length then m else 0) <= if l <= (things (y &&& k)).length then m else 0
      have hm:=ok.2.2.2.2.lo
      have:=jeK hs k
      by_cases c:l <= (things (x &&& k)).length
      · rw [if_pos c,if_pos (by omega)]; exact Int.le_refl _
      · rw [if_neg c]; split; exact hm; exact Int.le_refl _
  | most k c m =>
    refine ⟨?_,fun x y hy hs=>?_⟩
    · show m * ((if c < (things (0 &&& k)).length then c else (things (0 &&& k)).length:Nat):Int) = 0
      rw [Nat.zero_and,if_neg (by show ¬ c < 0; omega)]
      show m * 0 = 0
      exact Int.mul_zero m
    · have:=jeK hs k
      refine Int.mul_le_mul_of_nonneg_left ?_ ok.2.2.2.2.lo
      split <;> split <;> omega
mutual
noncomputable def okT:Tr->Prop
  | .leaf f=>qP f
  | .node _ ts=>okL ts
noncomputable def okL:List Tr->Prop
  | []=>True
  | t :: ts=>okT t /\ okL ts
end
mutual
theorem Z1:∀ t,okT t->Good (Qc t)
  | .leaf f,h=>by rw [jcs]; rw [okT] at h; exact jjb h
  | .node any ts,h=>by rw [zF]; rw [okT] at h; exact Zi any ts _ good0 h
theorem Zi:∀ any ts g,Good g->okL ts->Good (qX any ts g)
  | _,[],g,hg,_=>by rw [jah]; exact hg
  | any,t :: ts,g,hg,h=>by
    rw [okL] at h
    rw [qX]
    exact Zi any ts _ (jkC any hg (Z1 t h.1)) h.2
end
theorem jhT:∀ {ts:List Tr},(∀ t ∈ ts,okT t)->okL ts
  | [],_=>by rw [okL]; trivial
  | t :: ts,h=>by rw [okL]; exact ⟨h t (List.mem_cons_self ..),jhT fun u hu=>h u (List.mem_cons_of_mem _ hu)⟩
theorem za:∀ {ts:List Tr},okL ts->∀ t ∈ ts,okT t
  | [],_,t,ht=>by cases ht
  | u :: ts,h,t,ht=>by
    rw [okL] at h
    rcases List.mem_cons.mp ht with e | ht
    · subst e; exact h.1
    · exact za h.2 t ht
theorem jfS {ts:List Tr} (h:okL ts) (i:Nat):okL (ts.take i):=jhT fun t ht=>za h t (List.mem_of_mem_take ht)
theorem yD {any:Bool} {ts:List Tr}:okT (.node any ts) ↔ okL ts:=by rw [okT]
theorem jb1 {f:Form}:okT (.leaf f) ↔ qP f:=by rw [okT]
theorem All2.mem {α β:Type} {R:α->β->Prop} {xs:List α} {ys:List β} (h:All2 R xs ys) {y:β} (hy:y ∈ ys):∃ x,R x y:=by
  obtain ⟨i,hi,rfl⟩:=List.mem_iff_getElem.mp hy
  have hi':i < xs.length:=by rw [h.1]; exact hi
  exact ⟨xs[i],h.2 i _ _ (List.getElem?_eq_getElem hi') (List.getElem?_eq_getElem hi)⟩
noncomputable def tab (g:Nat->Int) (n:Nat):List Int:=(List.range (2 ^ n)).map g
theorem zu (g:Nat->Int) (n:Nat):(tab g n).length = 2 ^ n:=by unfold tab; rw [List.length_map,List.length_range]
theorem tab_at {g:Nat->Int} {n x:Nat} (h:x < 2 ^ n):(tab g n).getD x 0 = g x:=by
  unfold tab
  rw [List.getD_eq_getElem?_getD,List.getElem?_map,List.getElem?_eq_getElem (by rw [List.length_range]; exact h),List.getElem_range]; rfl
structure ZL (S:Nat->Prop) (v:Nat->Int) (m:Int):Prop where
  nn:0 <= m
  ub:∀ p,S p->v p <= m
  at_:m = 0 ∨ ∃ p,S p /\ v p = m
theorem ZL.uniq {S:Nat->Prop} {v:Nat->Int} {m m':Int} (h:ZL S v m) (h':ZL S v m'):m = m':=by
  have a:m <= m':=by
    rcases h.at_ with e | ⟨p,hp,e⟩
    · rw [e]; exact h'.nn
    · rw [<- e]; exact h'.ub p hp
  have b:m' <= m:=by
    rcases h'.at_ with e | ⟨p,hp,e⟩
    · rw [e]; exact h.nn
    · rw [<- e]; exact h.ub p hp
  omega
theorem ZL.add {S S':Nat->Prop} {v:Nat->Int} {m:Int} (h:ZL S v m) (p:Nat) (hS:∀ q,S' q ↔ S q ∨ q = p):ZL S' v (if v p > m then v p else m):=by
  by_cases c:v p > m
  · rw [if_pos c]
    refine ⟨by have:=h.nn; omega,fun q hq=>?_,.inr ⟨p,(hS p).mpr (.inr rfl),rfl⟩⟩
    rcases (hS q).mp hq with hq | rfl
    · have:=h.ub q hq; omega
    · exact Int.le_refl _
  · rw [if_neg c]
    refine ⟨h.nn,fun q hq=>?_,?_⟩
    · rcases (hS q).mp hq with hq | rfl
      · exact h.ub q hq
      · omega
    · rcases h.at_ with e | ⟨q,hq,e⟩
      · exact .inl e
      · exact .inr ⟨q,(hS q).mpr (.inl hq),e⟩
theorem ZL.eqv {S S':Nat->Prop} {v:Nat->Int} {m:Int} (h:ZL S v m) (hS:∀ q,S' q ↔ S q):ZL S' v m :=
  ⟨h.nn,fun q hq=>h.ub q ((hS q).mp hq),h.at_.imp id fun ⟨q,hq,e⟩=>⟨q,(hS q).mpr hq,e⟩⟩
theorem conv_top (g h:Nat->Int) (x:Nat):ZL (fun p=>x &&& p = p) (fun p=>g p + h (x - p)) (conv g h x) :=
  ⟨jgD _,fun _ hp=>jj4 hp,(jhM g h x).imp id fun ⟨p,hp,e⟩=>⟨p,hp,e.symm⟩⟩
end L2
namespace L2.R
open PySem PySem.Spec PyProof.Rows
variable {X:Cx} {e:Expr} {te:TE} {pos:Pos}
theorem jkg {i:Nat} {x:Str} {pos':Pos} (hN:X.N.Nodup) (hi:X.N[i]? = some x) (hx:Loc X.env.scope x) (he:QE X e te) (hs:swapsWith e (some (.Name x pos')) pos.line X.env = pure false:=by rfl) (hf:X.fn x = true ∨ X.env.scope.names.lookup x = some .local:=by first | exact .inl rfl | exact .inr rfl | assumption) :
    QS X (.Assign [.Name x pos'] e pos) (tAsg te (YL i)):=⟨L2.jT hN hi hx he.h hs hf⟩
end L2.R
set_option Elab.async false
set_option linter.all false
set_option maxRecDepth 100000
namespace L2
open PySem PySem.Spec PyProof.Rows
end L2
set_option Elab.async false
set_option linter.all false
set_option maxRecDepth 100000
namespace L2
open PySem PySem.Spec PyProof.Rows
section
variable {prog:Program} {w:World} {A:Around} {E:Value->Shared->Prop}
end
namespace R
end R
end L2
set_option Elab.async false
set_option linter.all false
set_option maxRecDepth 100000
namespace L2
open PySem PySem.Spec PyProof.Rows PySem.W
section
variable {P:Program} {w:World} {K:PySem.W.Frag} {mg:Str->Option Value} {base:Heap}
end
theorem jh5 {X:Cx} {body:List Stmt} {h₀:ExceptHandler} {hs:List ExceptHandler} {pos:Pos} {t:TS} (hb:PSs X.nox body t):PS X (.Try body (h₀ :: hs) [] [] pos) t:=by
  intro pins s σ H D I h
  refine wpAny_Try_except (wpAny_mono (hb pins s σ H D (I.wish _) h) (fun f s1 q=>?_) fun _ _ z=>False.elim z)
  have q':=q.jbb
  cases f with
  | next=>exact wpAny_execs_nil q'
  | ret u=>exact q'
  | brk=>exact q'
  | cont=>exact q'
namespace R
section
variable {X:Cx} {e:Expr} {es:List Expr} {te:TE} {t:TA} {pos p:Pos}
theorem jh5 {body:List Stmt} {h₀:ExceptHandler} {hs:List ExceptHandler} {tb:TS} (hb:QSs X.nox body tb):QS X (.Try body (h₀ :: hs) [] [] pos) tb:=⟨L2.jh5 hb.h⟩
end
end R
end L2
set_option Elab.async false
set_option linter.all false
set_option maxRecDepth 100000
namespace L2
open PySem PySem.Spec PyProof.Rows PySem.W
section
variable {M:Model} {A:Around} {E:Value->Shared->Prop} {s:Shared} {B:Heap} {env:Env} {outer:List Env} {L e:Addr} {C:Value} {dx:Option Addr} {Q:Unit->Shared->Prop}
end
end L2
set_option Elab.async false
set_option linter.all false
set_option maxRecDepth 100000
namespace L2
open PySem PySem.Spec PyProof.Rows PySem.W
section
variable {prog:Program} {w:World} {A:Around} {E:Value->Shared->Prop} {h:Heap} {g:Array GenState} {d:Drawn} {t:Nat} {os:OsState} {K:Frag}
variable {nm q:Str} {C N:Addr} {bs bm bmB:List Value} {hdct:Bool} {sn:List Str} {sub:List Value} {ab:Bool} {col:Option Bool} {dd:Option Addr} {k0 k1 k2 k3 k5:Option Value} {B newId initId:String}
end
end L2
set_option Elab.async false
set_option linter.all false
set_option maxRecDepth 100000
namespace L2
open PySem PySem.Spec PyProof.Rows PySem.W
end L2
set_option Elab.async false
set_option linter.all false
set_option maxRecDepth 100000
namespace L2
open PySem PySem.Spec PyProof.Rows PySem.W
open Builtin Builtin.ObjectAttr
section
variable {prog:Program} {w:World} {A:Around} {E:Value->Shared->Prop} {h:Heap} {g:Array GenState} {d:Drawn} {t:Nat} {os:OsState} {K:Frag} {C a:Addr}
end
end L2
set_option Elab.async false
set_option linter.all false
set_option maxRecDepth 100000
namespace L2
open PySem PySem.Spec PyProof.Rows PySem.W
open Builtin Builtin.ObjectAttr
section
variable {prog:Program} {w:World} {A:Around} {E:Value->Shared->Prop} {h:Heap} {g:Array GenState} {d:Drawn} {t:Nat} {os:OsState} {K:Frag} {C a dx:Addr} {f:Str} {v:Value}
end
end L2
set_option Elab.async false
set_option linter.all false
set_option maxRecDepth 100000
namespace L2
open PySem PySem.Spec PyProof.Rows PySem.W
section
variable {X:Cx} {D:Addr} {pos p apos:Pos} {e o:Expr} {es:List Expr} {ta:TE} {t:TA}
end
end L2
set_option Elab.async false
set_option linter.all false
set_option maxRecDepth 100000
namespace L2
open PySem PySem.Spec PyProof.Rows PySem.W
noncomputable def tx (l:List Nat):Str:=⟨l.toArray⟩
theorem Qa (l:List Nat):(tx l).cps.toList = l:=by simp [tx]
theorem Jk (l:List Nat):(tx l).length = l.length:=by simp [tx,Str.length]
theorem jgE {l m:List Nat} (h:tx l = tx m):l = m:=by rw [<- Qa l,h,Qa]
theorem jhA (x:Str):x = tx x.cps.toList:=by obtain ⟨a⟩:=x; simp [tx]
theorem Jt (l m:List Nat):tx l ++ tx m = tx (l ++ m):=by
  rw [jhA (tx l ++ tx m)]
  congr 1
  show ((tx l).cps ++ (tx m).cps).toList = _
  rw [Array.toList_append,Qa,Qa]
theorem jcv {X:Cx}:OpR X (compareOp .LtE) (fun x y H Q=>∃ i j,x = .str i /\ y = .str j /\ Q (.bl (!decide (j.cps.toList < i.cps.toList))) H):=by
  rintro pins s σ H x y u v Q I rx ry ⟨i,j,rfl,rfl,q⟩
  obtain ⟨t,rfl⟩:=(show ∃ t,u = Value.str i t from rx)
  obtain ⟨t',rfl⟩:=(show ∃ t',v = Value.str j t' from ry)
  exact P.le_str ⟨.bl _,H,I,rfl,q⟩
noncomputable def cutL (l:List Nat) (lo hi:Option Int):List Nat:=(l.drop (HT.sIx l.length 0 lo)).take (HT.sIx l.length l.length hi - HT.sIx l.length 0 lo)
theorem picked_eq (n:Nat) (lo hi:Option Int):Builtin.Str.strSliceIndices lo hi 1 n = (List.range (HT.sIx n n hi - HT.sIx n 0 lo)).map (HT.sIx n 0 lo + ·):=by
  rw [<- sliceRange_one]
  unfold Builtin.Str.strSliceIndices
  have c:∀ (d:Nat) (o:Option Int),(match o with | none=>(d:Int) | some i=>if (1:Int) > 0 then max 0 (min (if i < 0 then i + (n:Int) else i) (n:Int)) else max (-1) (min (if i < 0 then i + (n:Int) else i) ((n:Int) - 1))) = ((HT.sIx n d o:Nat):Int):=fun d o=>by
    cases o with
    | none=>rfl
    | some i =>
      show (if (1:Int) > 0 then _ else _) = _
      rw [if_pos (by decide)]
      unfold HT.sIx
      by_cases h:i < 0
      · simp only [h,if_true] <;> omega
      · simp only [h,if_false] <;> omega
  have c0:=c 0 lo
  have cn:=c n hi
  dsimp only
  rw [if_pos (by decide),if_pos (by decide)]
  congr 1
theorem jfx (l:List Nat) (lo hi:Option Int):(cutL l lo hi).length <= l.length:=by
  unfold cutL
  rw [List.length_take,List.length_drop]; omega
noncomputable def rSlS:V->Option Int->Option Int->Hp->VK->Prop:=fun x lo hi H Q=>∃ l,x = .str (tx l) /\ l.length <= sizeLine /\ Q (.str (tx (cutL l lo hi))) H
theorem jck {X:Cx}:SlR X rSlS:=by
  intro pins s σ H x v vl vu lo hi sl Q I rx hs pl pu h
  obtain ⟨l,rfl,hz,q⟩:=h
  obtain ⟨t,rfl⟩:=(show ∃ t,v = Value.str (tx l) t from rx)
  have pt:∀ {w o},IsPart w o->∃ p:Option (Int × Tok),w = partValue p /\ p.map (·.1) = o:=fun p=>by
    cases p with
    | none=>exact ⟨none,rfl,rfl⟩
    | int i t=>exact ⟨some (i,t),rfl,rfl⟩
  obtain ⟨pl1,rfl,el⟩:=pt pl
  obtain ⟨pu1,rfl,eu⟩:=pt pu
  refine ⟨"str",_,F.slot_str_getitem.lookup,typeIs_str _ _ _,wpAny_getItem_str_slice (l:=pl1) (u:=pu1) (st:=none) hs rfl ?_⟩
  have e:(slicePicked (tx l) pl1 pu1 none).filterMap ((tx l).cps[·]?) = cutL l lo hi:=by
    unfold slicePicked
    rw [el,eu]
    show (Builtin.Str.strSliceIndices lo hi 1 (tx l).length).filterMap ((tx l).cps[·]?) = _
    rw [picked_eq,pick_run,Qa,Jk]
    rfl
  have e2:(slicePicked (tx l) pl1 pu1 none).length = (cutL l lo hi).length:=by
    have:slicePicked (tx l) pl1 pu1 none = (List.range (HT.sIx l.length l.length hi - HT.sIx l.length 0 lo)).map (HT.sIx l.length 0 lo + ·):=by
      unfold slicePicked
      rw [el,eu]
      show Builtin.Str.strSliceIndices lo hi 1 (tx l).length = _
      rw [picked_eq,Jk]
    rw [this,List.length_map,List.length_range]
    unfold cutL
    rw [List.length_take,List.length_drop]
    have:=HT.sIx_le l.length l.length (Nat.le_refl _) hi
    omega
  unfold sliceMade
  refine post_val_or_str ?_
  rw [e]
  have fin:(if (((none:Option (Int × Tok)).map (·.1)).getD 1 == 1 && (slicePicked (tx l) pl1 pu1 none).length == (tx l).length) = true then tx l else ⟨(cutL l lo hi).toArray⟩) = tx (cutL l lo hi):=by
    split
    · rename_i z
      rw [Bool.and_eq_true] at z
      have z2:=beq_iff_eq.mp z.2
      rw [e2,Jk] at z2
      congr 1
      have a0:HT.sIx l.length 0 lo = 0 ∨ l = []:=by
        unfold cutL at z2
        rw [List.length_take,List.length_drop] at z2
        have:=HT.sIx_le l.length l.length (Nat.le_refl _) hi
        by_cases hl:l = []
        · exact .inr hl
        · have:0 < l.length:=List.length_pos_iff.mpr hl
          left; omega
      rcases a0 with a0 | a0
      · have:l.length <= HT.sIx l.length l.length hi:=by
          unfold cutL at z2
          rw [a0,List.length_take,List.length_drop] at z2
          omega
        unfold cutL
        rw [a0,List.drop_zero,List.take_of_length_le (by omega)]
      · subst a0; unfold cutL; simp
    · rfl
  rw [fin]
  exact ⟨by rw [Jk]; exact Nat.le_trans (jfx l lo hi) hz,fun t2 k=>⟨.str (tx (cutL l lo hi)),H,I.tok k,⟨t2,rfl⟩,q⟩⟩
end L2
set_option Elab.async false
set_option linter.all false
set_option maxRecDepth 100000
namespace L2
open PySem PySem.Spec PyProof.Rows PySem.W
noncomputable def Ite (K:PySem.W.Frag) (a:Addr):It :=
  ⟨fun i H=>∃ xs x,SqL K H a xs /\ xs[i]? = some x,
   fun i H v H'=>∃ p x,v = .ref p /\ H p = none /\ H' = upd H p (.tup [.int i,x]) /\ ∀ xs,SqL K H a xs->xs[i]? = some x,
   fun i H=>∃ xs,SqL K H a xs /\ xs.length <= i⟩
theorem jk1 {P:Program} {w:World} {K:PySem.W.Frag} {es:List Expr} {kk:Nat} {pos:Pos} (a z i1:Addr) (hne:z ≠ i1) :
    Turn P w K (.Tuple es kk pos) (Ite K a) [z,i1] z (fun i h=>(∃ old,IsEnum h z i1 i old) /\ h.IsListIter i1 a i) where
  mem:=by simp
  obj:=fun i h st c hc=>by
    obtain ⟨⟨old,hz⟩,⟨o1,e1,c1,d1⟩⟩:=st
    simp only [List.mem_cons,List.not_mem_nil,or_false] at hc
    rcases hc with rfl | rfl
    · exact ⟨_,hz,fun v x=>by cases x⟩
    · exact ⟨_,e1,fun v x=>by rw [d1] at x; cases x⟩
  keep:=fun i h h' st k=>by
    obtain ⟨⟨old,hz⟩,h1⟩:=st
    exact ⟨⟨old,k z (by simp) _ hz⟩,h1.at fun o e=>k i1 (by simp) o e⟩
  item:=by
    intro X hP hw hK hc i pins s σ H E I hf st hg
    subst hP hw hK
    obtain ⟨⟨old,hz⟩,h1⟩:=st
    obtain ⟨xs,x,hq1,hx⟩:=hg
    obtain ⟨its,rv,p,hz1⟩:=I.list hq1
    obtain ⟨ux,hux,rux⟩:=rv.get hx
    refine wpAny_pyNext_enum_item hz h1 p.isList (x:=ux) (by simpa using hux) hne fun h' a1 a2 a3 a4 hk=>?_
    have ltz:∀ c ∈ [z,i1],c < s.heap.objs.size:=by
      intro c hc
      simp only [List.mem_cons,List.not_mem_nil,or_false] at hc
      rcases hc with rfl | rfl
      · exact Heap.lt_size hz
      · obtain ⟨_,e,_⟩:=h1; exact Heap.lt_size e
    have I1:Inv X pins σ (upd H s.heap.objs.size (.tup [.int i,x])) { s with heap:=s.heap.push { cls:=.type "tuple",data:=.seq #[.int i s.toks,ux] },toks:=s.toks + 1 }:=by
      refine I.laid (fun c o e=>Heap.get?_push_of_some _ e) (Nat.le_refl _) ⟨by show 2 <= sizeLine; decide,[.int i s.toks,ux],.cons ⟨_,rfl⟩ (.cons rux .nil),?_⟩
      exact ⟨_,Heap.get?_push_size _ rfl,rfl,_,rfl⟩
    have hfr:∀ c ∈ [z,i1],upd H s.heap.objs.size (.tup [.int i,x]) c = none:=fun c hc=>by
      rw [jO (Nat.ne_of_lt (ltz c hc))]; exact (hf c hc).1
    have hf1:∀ c ∈ [z,i1],FpOk X pins (upd H s.heap.objs.size (.tup [.int i,x])) c:=fun c hc=>⟨hfr c hc,(hf c hc).2⟩
    have kk:∀ c o,c ∉ [z,i1]->(s.heap.push { cls:=.type "tuple",data:=.seq #[.int i s.toks,ux] }).get? c = some o->h'.get? c = some o:=fun c o hc e=>by
      rcases Heap.get?_push_cases e with ⟨e9,e8⟩ | e'
      · subst e9 e8; exact a3
      · exact hk c o (fun x=>hc (by simp [x])) (fun x=>hc (by simp [x])) e'
    have I2:Inv X pins σ (upd H s.heap.objs.size (.tup [.int i,x])) { s with heap:=h',toks:=s.toks + 1 }:=by
      have z:=Inv.zZ (t':=s.toks + 1) I1 kk hf1
      exact z
    refine ⟨_,rfl,wpAny_letOwnedTupleGo_enum (s:={ s with heap:=h',toks:=s.toks + 1 }) a1 fun h'' hz'' hs''=>?_⟩
    have I3:Inv X pins σ (upd H s.heap.objs.size (.tup [.int i,x])) { s with heap:=h'',toks:=s.toks + 1 }:=by
      have z:=Inv.zZ (h':=h'') (t':=s.toks + 1) (ch:=[z]) I2 (fun c o hc e=>hs''.extBut c o (fun q=>hc (by simp [q])) e) (fun c hc=>hf1 c (by simp at hc; simp [hc]))
      exact z
    refine ⟨.ref s.heap.objs.size,_,I3,rfl,⟨_,x,rfl,I.hok.fresh (Nat.le_refl _),rfl,fun zs hzs=>by rw [I.jdu hzs hq1]; exact hx⟩,?_,hfr⟩
    exact ⟨⟨_,by have:=hz''; push_cast; exact this⟩,a2.extBut hs''.extBut (Ne.symm hne)⟩
  done:=by
    intro X hP hw hK hc i pins s σ H E I hf st hg
    subst hP hw hK
    obtain ⟨⟨old,hz⟩,h1⟩:=st
    obtain ⟨xs,hq1,hend⟩:=hg
    obtain ⟨its,rv,p,hz1⟩:=I.list hq1
    have l1:=rv.length
    refine wpAny_pyNext_enum_end (I.ok.hd hc) hz h1 p.isList (by simp; omega) fun h' hk=>⟨rfl,?_⟩
    exact I.zZ (t':=s.toks) (ch:=[z,i1]) (fun c o hc e=>hk c o (fun x=>hc (by simp [x])) e) hf
  self:=fun _ _ _ _ _ st h=>by
    obtain ⟨⟨old,hz⟩,_⟩:=st
    exact wpAny_pyIter_enum hz h
noncomputable def iEnum (K:PySem.W.Frag) (ta:TA):TI:=fun σ H R=>ta σ H fun vs H1=>∃ a,vs = [.ref a] /\ (∃ xs,SqL K H1 a xs) /\ R (Ite K a) H1
theorem jh2 {X:Cx} {es:List Expr} {kk:Nat} {tp:Pos} {a:Expr} {ta:TA} {p pos:Pos} (hg:Gl X "enumerate") (hm:X.mg "enumerate" = none) (ha:PA X [a] ta) (hs:noStar a = true) :
    PI X (.Tuple es kk tp) (.Call (.Name "enumerate" p) [a] [] pos) (iEnum X.K ta):=by
  intro pins s σ H R I h
  refine Call_ (Z6 I hg hm boot_enumerate (PyProof.Rows.callWith_type1 (thn (ha pos pins s σ H _ I h) fun us s1 zz=>?_) (by rw [Jc hs]) rfl))
  obtain ⟨vs,H1,I1,r1,q1⟩:=zz
  obtain ⟨l1,e,⟨xs,hq1⟩,q⟩:=q1
  subst e
  obtain ⟨u,rfl,ru⟩:=vals1 r1
  cases ru
  obtain ⟨its,rv,p1,_⟩:=I1.list hq1
  refine call_enumerate_list p1.isList fun h' hz hi1 hsz hk=>?_
  refine wpAny_pyIter_enum hz ?_
  refine ⟨s1.heap.objs.size + 1,_,_,_,H1,rfl,I1.kept (t':=s1.toks) hk,jk1 l1 _ _ (Nat.succ_ne_self _),⟨⟨_,hz⟩,hi1⟩,fun c hc=>?_,q⟩
  have hge:s1.heap.objs.size <= c:=by
    simp only [List.mem_cons,List.not_mem_nil,or_false] at hc
    rcases hc with rfl | rfl
    · exact Nat.le_succ _
    · exact Nat.le_refl _
  exact I1.fpOk hge (I1.hok.fresh hge)
theorem for_enum {K:PySem.W.Frag} {a:Addr} {xs:List V} {g:TG} {tb:TS} {D:Ends} {σ:St} {H:Hp} (Pv:Nat->St->Hp->Prop) (h0:Pv 0 σ H) (hl:∀ i σ H,i <= xs.length->Pv i σ H->SqL K H a xs)
    (hs:∀ (i:Nat) x p σ H,xs[i]? = some x->Pv i σ H->H p = none->g (.ref p) σ (upd H p (.tup [.int i,x])) fun σ2 H2=>tb { D with nx:=Pv (i + 1),ct:=Pv (i + 1),bk:=D.nx } σ2 H2) (hd:∀ σ H,Pv xs.length σ H->D.nx σ H) :
    ∃ W:Nat->Nat->St->Hp->Prop,(∃ m,W 0 m σ H) /\ ∀ i m σ H,W i m σ H ->
      ((Ite K a).stop i H /\ D.nx σ H) ∨ ((Ite K a).go i H /\ ∃ N:St->Hp->Prop,(∀ σ' H',N σ' H'->∃ m',m' < m /\ W (i + 1) m' σ' H') /\ ∀ x H',(Ite K a).yld i H x H'->g x σ H' fun σ2 H2=>tb { D with nx:=N,ct:=N,bk:=D.nx } σ2 H2):=by
  refine ⟨fun i m σ H=>m = xs.length - i /\ i <= xs.length /\ Pv i σ H,⟨xs.length,by simp,Nat.zero_le _,h0⟩,?_⟩
  rintro i m σ H ⟨rfl,hi,p⟩
  have q:=hl i σ H hi p
  by_cases hlt:i < xs.length
  · refine .inr ⟨⟨xs,xs[i],q,by simp [hlt]⟩,Pv (i + 1),fun σ' H' p'=>⟨xs.length - (i + 1),by omega,rfl,hlt,p'⟩,fun v H' y=>?_⟩
    obtain ⟨r,x,rfl,hn,rfl,h1⟩:=y
    exact hs i x r σ _ (h1 _ q) p hn
  · have e:i = xs.length:=by omega
    subst e
    exact .inl ⟨⟨xs,q,Nat.le_refl _⟩,hd σ H p⟩
noncomputable def Its (l:List Nat):It:=⟨fun i _=>i < l.length,fun i H v H'=>H' = H /\ ∃ c,l[i]? = some c /\ v = .str (tx [c]),fun i _=>l.length <= i⟩
theorem turn_str {P:Program} {w:World} {K:PySem.W.Frag} {tg:Expr} (l:List Nat) (t:Tok) (it:Addr):Turn P w K tg (Its l) [it] it (fun i h=>h.IsStrIter it "str_ascii_iterator" (tx l) t i) where
  mem:=by simp
  obj:=fun i h st b hb=>by
    have e:b = it:=by simpa using hb
    subst e
    obtain ⟨o,e,c,d⟩:=st
    exact ⟨o,e,fun v z=>by rw [d] at z; cases z⟩
  keep:=fun i h h' st k=>by
    obtain ⟨o,e,c,d⟩:=st
    exact ⟨o,k it (by simp) o e,c,d⟩
  item:=by
    intro X hP hw hK hc i pins s σ H E I hf st hg
    subst hP hw hK
    have hg:i < l.length:=hg
    obtain ⟨f0,f1,f2,f3,f4,f5⟩:=hf it (by simp)
    have hx:(tx l).cps[i]? = some l[i]:=by rw [<- Array.getElem?_toList,Qa]; simp [hg]
    refine wpAny_pyNext_ascii_item st hx fun h' st' sb=>?_
    have I1:Inv X pins σ H { s with heap:=h',toks:=s.toks + 1 }:=I.turned (t':=s.toks + 1) (fun b o hb e=>(sb.2 b hb).trans e) f0 f1 f3 f4 f5
    obtain ⟨o,e,c,d⟩:=id st'
    exact ⟨_,rfl,go_of (s:={ s with heap:=h',toks:=s.toks + 1 }) e c d (by decide) ⟨.str (tx [l[i]]),H,I1,⟨_,rfl⟩,⟨rfl,l[i],by simp [hg],rfl⟩,st',fun b hb=>(hf b hb).1⟩⟩
  done:=by
    intro X hP hw hK hc i pins s σ H E I hf st hg
    subst hP hw hK
    have hg:l.length <= i:=hg
    obtain ⟨f0,f1,f2,f3,f4,f5⟩:=hf it (by simp)
    have hx:(tx l).cps[i]? = none:=by rw [<- Array.getElem?_toList,Qa]; simp [hg]
    exact wpAny_pyNext_ascii_end (I.ok.hd hc) st hx fun h' eb=>⟨rfl,I.turned (t':=s.toks) (fun b o hb e=>eb b o hb e) f0 f1 f3 f4 f5⟩
  self:=fun _ _ _ _ _ st h=>wpAny_pyIter_striter_ascii st h
noncomputable def iStr (tl:TE):TI:=fun σ H R=>tl σ H fun x H1=>∃ l:List Nat,x = .str (tx l) /\ l.all (· < 128) = true /\ R (Its l) H1
theorem jh3 {X:Cx} {tg e:Expr} {tl:TE} (hl:PE X e tl):PI X tg e (iStr tl):=by
  intro pins s σ H R I h
  refine thn (hl pins s σ H _ I h) fun v s1 zz=>?_
  obtain ⟨x,H1,I1,r1,l,e,ha,q⟩:=zz
  subst e
  obtain ⟨t,rfl⟩:=(show ∃ t,v = Value.str (tx l) t from r1)
  refine wpAny_pyIter_ascii (by rw [<- Array.all_toList,Qa]; exact ha) ?_
  refine ⟨s1.heap.objs.size,[s1.heap.objs.size],_,_,H1,rfl,I1.kept (t':=s1.toks) fun b o e=>Heap.get?_push_of_some _ e,turn_str l t _,⟨_,Heap.get?_push_size _ rfl,rfl,rfl⟩,fun b hb=>?_,q⟩
  have e:b = s1.heap.objs.size:=by simpa using hb
  subst e
  exact I1.fpOk (Nat.le_refl _) (I1.hok.fresh (Nat.le_refl _))
end L2
set_option Elab.async false
set_option linter.all false
set_option maxRecDepth 100000
namespace L2
open PySem PySem.Spec PyProof.Rows PySem.W
section
variable {X:Cx}
theorem jk3 {P:Program} {w:World} {kvs:List (Key × V)} {vs:List (Key × Value)} (r:KV kvs vs):∀ (us:List Value),us.length = vs.length->(∀ (j:Nat) (v:Value),us[j]? = some v->∃ (k:Key) (x:Value),vs[j]? = some (k,x) /\ (qF P w).is k v = true)->Vals (kvs.map fun q=>kV q.1) us:=by
  induction r with
  | nil=>intro us hl _; cases us with | nil=>exact .nil | cons=>cases hl
  | cons h t ih =>
    intro us hl hu
    cases us with
    | nil=>cases hl
    | cons u us =>
      obtain ⟨k,x,e,hk⟩:=hu 0 u rfl
      simp only [List.getElem?_cons_zero,Option.some.injEq] at e
      refine .cons ?_ (ih us (by simpa using hl) fun j v hv=>by simpa using hu (j + 1) v (by simpa using hv))
      rename_i p q _ _
      have e1:p.1 = k:=by rw [h.1,e]
      show RelV (kV p.1) u
      rw [e1]
      rcases qe hk with ⟨i,t,rfl,rfl⟩ | ⟨i,t,rfl,rfl⟩
      · exact ⟨t,rfl⟩
      · exact ⟨t,rfl⟩
theorem jhK (hc:X.calm = true):yx X (.type "list") (fun xs H Q=>∃ a kvs,xs = [.ref a] /\ H a = some (.dK kvs) /\ ∀ l,H l = none->Q (.ref l) (upd H l (.lst (kvs.map fun q=>kV q.1)))):=by
  intro pins s σ H xs us Q I r h
  obtain ⟨a,kvs,rfl,ea,q⟩:=h
  obtain ⟨u,rfl,ru⟩:=vals1 r
  cases ru
  obtain ⟨z,lo,vs,rel,hd⟩:qQ X.prog X.w H s.heap a (.dK kvs):=I.hok a _ ea
  obtain ⟨ep,hat⟩:=hd.dictAt
  have hlen:kvs.length = vs.length:=Paired.length rel
  refine kdl_call (kdl_dict (knd:=qF X.prog X.w) (kvs:=vs) (ep:=ep) lo) (I.ok.hd hc) hat (by rw [<- hlen]; exact z) fun h' tk acc c hk hl hacc=>?_
  have va:Vals (kvs.map fun q=>kV q.1) acc.toList:=jk3 (P:=X.prog) (w:=X.w) rel acc.toList (by rw [Array.length_toList]; exact hacc.1) fun j v e=>hacc.2 j v (by rw [<- Array.getElem?_toList]; exact e)
  exact ⟨.ref s.heap.objs.size,_,I.laid (t':=tk) (o:=.lst (kvs.map fun q=>kV q.1)) hk (Nat.le_refl _) ⟨by rw [List.length_map]; exact z,acc.toList,c,va,by rw [Array.toArray_toList]; exact hl⟩,rfl,q _ (I.hok.fresh (Nat.le_refl _))⟩
noncomputable def rEqS (K:PySem.W.Frag) (neg:Bool):R2:=fun x y H Q=>∃ (a b:Addr) (ns ms:List Str),x = .ref a /\ y = .ref b /\ SqL K H a (ns.map V.str) /\ SqL K H b (ms.map V.str) /\ Q (.bl (if neg then !decide (ns = ms) else decide (ns = ms))) H
theorem strs_all:∀ {ns ms:List Str} {us ws:List Value} {A:Around} {s:Shared},Vals (ns.map V.str) us->Vals (ms.map V.str) ws->∀ j (h1:j < us.toArray.size) (h2:j < ws.toArray.size),SeqAt.EqAt A s us.toArray[j] ws.toArray[j] ((ns[j]?).any fun x=>(ms[j]?).any fun y=>x == y):=by
  intro ns ms us ws A s r1 r2 j h1 h2
  have g1:j < us.length:=by simpa using h1
  have g2:j < ws.length:=by simpa using h2
  have l1:=r1.length
  have l2:=r2.length
  rw [List.length_map] at l1 l2
  obtain ⟨x,hx,rx⟩:=jdP r1 (List.getElem?_eq_getElem g1)
  obtain ⟨y,hy,ry⟩:=jdP r2 (List.getElem?_eq_getElem g2)
  rw [List.getElem?_map] at hx hy
  obtain ⟨a,ha,rfl⟩:=Option.map_eq_some_iff.mp hx
  obtain ⟨b,hb,rfl⟩:=Option.map_eq_some_iff.mp hy
  rw [ha,hb]
  have:=eqAt_V (A:=A) (s:=s) rx ry rfl rfl
  simpa [eqV] using this
theorem jk0:∀ {ns ms:List Str},ns.length = ms.length->((List.range ns.length).all fun j=>(ns[j]?).any fun x=>(ms[j]?).any fun y=>x == y) = decide (ns = ms):=by
  intro ns ms hl
  by_cases h:ns = ms
  · subst h
    rw [decide_eq_true rfl,List.all_eq_true]
    intro j hj
    have hj:j < ns.length:=List.mem_range.mp hj
    simp [hj]
  · rw [decide_eq_false h,<- Bool.not_eq_true]
    intro q
    refine h (List.ext_getElem? fun j=>?_)
    by_cases hj:j < ns.length
    · have z:=List.all_eq_true.mp q j (List.mem_range.mpr hj)
      have hj2:j < ms.length:=hl ▸ hj
      simp only [List.getElem?_eq_getElem hj,List.getElem?_eq_getElem hj2,Option.any_some,beq_iff_eq] at z ⊢
      rw [z]
    · rw [List.getElem?_eq_none (by omega),List.getElem?_eq_none (by omega)]
theorem op_eqS (hu:X.A.units < cLine):OpR X (compareOp .Eq) (rEqS X.K false):=by
  intro pins s σ H x y v u Q I rx ry h
  obtain ⟨a,b,ns,ms,rfl,rfl,ha,hb,q⟩:=h
  cases rx; cases ry
  obtain ⟨its,r1,p1,_⟩:=I.list ha
  obtain ⟨its2,r2,p2,_⟩:=I.list hb
  have l1:=r1.length
  have l2:=r2.length
  rw [List.length_map] at l1 l2
  by_cases hl:ns.length = ms.length
  · refine SeqAt.RcAt.lists p1.isList p2.isList (by rw [List.size_toArray,List.size_toArray]; omega) hu (fun j h1 h2=>strs_all r1 r2 j h1 h2) _ _ _ _ ?_
    refine ⟨_,H,I,?_,q⟩
    show Value.bool _ = Value.bool (decide (ns = ms))
    rw [List.size_toArray,<- l1,jk0 hl]
  · refine SeqAt.RcAt.lists_lengths p1.isList p2.isList (by rw [List.size_toArray,List.size_toArray]; simp; omega) hu _ _ _ _ ?_
    refine ⟨_,H,I,?_,q⟩
    show Value.bool false = Value.bool (decide (ns = ms))
    rw [decide_eq_false fun e=>hl (by rw [e])]
end
end L2
set_option Elab.async false
set_option linter.all false
set_option maxRecDepth 100000
namespace L2
open PySem PySem.Spec PyProof.Rows PySem.W
section
variable {X:Cx}
theorem op_din (hu:X.A.units + 64 < cLine):OpR X (compareOp .In) (fun y x H Q=>∃ a o,x = .ref a /\ DGet H a y o /\ Q (.bl o.isSome) H):=by
  intro pins s σ H y x v u Q I ry rx h
  obtain ⟨a,o,rfl,g,q⟩:=h
  cases rx
  exact d_in (by omega) I g ry fun s' I'=>⟨.bl _,H,I',rfl,q⟩
theorem jhk (hu:X.A.units + 64 < cLine):OpR X (compareOp .NotIn) (fun y x H Q=>∃ a o,x = .ref a /\ DGet H a y o /\ Q (.bl (!o.isSome)) H):=by
  intro pins s σ H y x v u Q I ry rx h
  obtain ⟨a,o,rfl,g,q⟩:=h
  cases rx
  exact d_notIn (by omega) I g ry fun s' I'=>⟨.bl _,H,I',rfl,q⟩
end
theorem few2 {e f:Expr} {env:Env} {cpos:Pos} (h:noStar e = true) (h2:noStar f = true):((backTo cpos (starEach [e,f] env)).all (fun x=>!x.1) && (backToKw cpos (keywordEach [] env)).all (fun x=>x.1.isSome)
      && decide (([e,f]:List Expr).length + ([]:List Keyword).length + (if ([]:List Keyword).isEmpty then 0 else 1) < 30)) = true:=by
  rw [Jc h,Jc h2]; rfl
section
variable {P:Program} {w:World} {K:PySem.W.Frag} {mg:Str->Option Value} {base:Heap}
end
namespace R
section
variable {X:Cx} {e o i f value:Expr} {es:List Expr} {te to ti tf tv:TE} {t:TA} {pos p apos pos':Pos}
theorem jh2 {tes:List Expr} {kk:Nat} {tp:Pos} (hg:Gl X "enumerate") (hm:X.mg "enumerate" = none) (ha:QA X [e] t) (hs:noStar e = true:=by rfl):QI X (.Tuple tes kk tp) (.Call (.Name "enumerate" p) [e] [] pos) (iEnum X.K t):=⟨L2.jh2 hg hm ha.h hs⟩
theorem jh3 {tg:Expr} (hl:QE X e te):QI X tg e (iStr te):=⟨L2.jh3 hl.h⟩
theorem jfb (hu:X.A.units + 64 < cLine) (ho:QE X o to) (hi:QE X i ti) (hs:NoSl i:=by intro _ _; rfl):QE X (.Subscript o i pos) (tDGet to ti):=⟨L2.jfb (by omega) ho.h hi.h hs⟩
theorem jfe (hu:X.A.units + 64 < cLine) (ho:QE X o to) (hi:QE X i ti) (hv:QE X value tv) (hs:jfR value = true:=by rfl):QS X (.Assign [.Subscript o i pos'] value pos) (sDPut to ti tv):=⟨L2.jfe (by omega) ho.h hi.h hv.h (jdL hs)⟩
theorem jf0 {cpos:Pos} (hu:X.A.units + 64 < cLine) (ho:QE X o to) (he:QE X e te) (hf:QE X f tf) (hs:noStar e = true:=by rfl) (hs2:noStar f = true:=by rfl) (hb:attributeBase o "get" X.env (eval o X.env) = eval o X.env:=by rfl) (hl:(apos.endLine == cpos.line) = true:=by rfl) :
    QE X (.Call (.Attribute o "get" apos) [e,f] [] cpos) (tDGet2 to te tf):=⟨L2.jf0 (by omega) ho.h he.h hf.h ⟨hb,few2 hs hs2,hl,by rw [Jc hs,Jc hs2]; rfl⟩⟩
end
end R
section
variable {l:Addr} {fr:List Nat} {tt:TT} {te:TE} {σ:St} {Q:VK} {H1:Hp}
theorem jdq (xs:List Nat) (p:Nat->Bool) (f:Nat->V) (hn:xs.length <= 100) (hl:H1 l = none)
    (ht:∀ x ∈ xs,∀ H,Same H1 H->∀ C,(∀ H',Same H H'->C (p x) H')->tt (some (.str (tx [x])) :: inner σ fr) H C)
    (he:∀ x ∈ xs,p x = true->∀ H,Same H1 H->∀ C,(∀ H',Same H H'->C (f x) H')->te (some (.str (tx [x])) :: inner σ fr) H C)
    (hd:∀ H,Same H1 H->H l = some (.lst ((xs.filter p).map f))->Q (.ref l) H):Ye (Its xs) 1 (YL 0) fr tt te σ Q H1 l:=by
  refine jfw xs.length (fun k H=>Same H1 H /\ H l = some (.lst (((xs.take k).filter p).map f))) ⟨jC hl _,jq⟩ (fun k H hk _=>hk) (fun H _=>Nat.le_refl _) ?_ fun H ⟨s,e⟩=>hd H s (by rw [List.take_length] at e; exact e)
  rintro k H v H' hk ⟨s,e⟩ ⟨rfl,c,hx,rfl⟩ K1 K0 h1 h0
  have hm:c ∈ xs:=List.mem_of_getElem? hx
  have e':(xs.take (k + 1)).filter p = (xs.take k).filter p ++ (if p c = true then [c] else []):=by
    rw [List.take_add_one,hx,List.filter_append]
    cases hp:p c <;> simp [hp]
  refine ht c hm _ s _ fun H2 s2=>?_
  have eL:H2 l = some (.lst (((xs.take k).filter p).map f)):=s2 _ _ e
  cases hp:p c with
  | false =>
    rw [if_neg (by decide)]
    refine h0 H2 ⟨s.trans s2,?_⟩
    rw [e',hp]; simpa using eL
  | true =>
    rw [if_pos rfl]
    refine he c hm hp H2 (s.trans s2) _ fun H3 s3=>?_
    have e3:H3 l = some (.lst (((xs.take k).filter p).map f)):=s3 _ _ eL
    refine h1 _ H3 _ e3 ?_ ⟨?_,?_⟩
    · rw [List.length_map,sizeLine_eq]
      have:=List.length_filter_le p (xs.take k)
      rw [List.length_take] at this
      omega
    · exact ((s.trans s2).trans s3).upd hl _
    · rw [jq,e',hp]; simp
end
end L2
set_option Elab.async false
set_option linter.all false
set_option maxRecDepth 100000
namespace L2
open PySem PySem.Spec PyProof.Rows PySem.W
end L2
set_option Elab.async false
set_option linter.all false
set_option maxRecDepth 100000
namespace L2
open PySem PySem.Spec PyProof.Rows
theorem ji3:∀ {ns:List Str} {us:List Value},Vals (ns.map V.str) us->∃ l:List (Str × Tok),us = strValues l /\ l.map (·.1) = ns
  | [],_,h=>by
    cases h
    exact ⟨[],rfl,rfl⟩
  | n :: ns,_,h=>by
    cases h with
    | cons r t =>
      obtain ⟨l,rfl,e⟩:=ji3 t
      obtain ⟨tk,rfl⟩:=r
      exact ⟨(n,tk) :: l,rfl,by rw [List.map_cons,e]⟩
noncomputable def tJoin (K:PySem.W.Frag) (to te:TE):TE:=fun σ H Q=>to σ H fun x H1=>∃ sep,x = .str sep /\ te σ H1 fun y H2=>∃ a ns,y = .ref a /\ SqL K H2 a (ns.map V.str) /\ JoinOk sep ns = true /\ Q (.str (Txt.join sep ns)) H2
section
variable {X:Cx} {o e:Expr} {apos cpos pos:Pos} {to te:TE}
theorem ZR (ho:PE X o to) (he:PE X e te) (m:M1 X o "join" apos e cpos):PE X (.Call (.Attribute o "join" apos) [e] [] cpos) (tJoin X.K to te):=by
  intro pins s σ H Q I h
  refine wpAny_Call_method m.base m.few m.line PySem.F.plainAttrs_str PySem.F.slot_str_join PySem.F.type_str_join (thn (ho pins s σ H _ I h) fun u s1 zz=>?_)
  obtain ⟨x,H1,I1,rx,sep,ex,q1⟩:=zz
  subst ex
  obtain ⟨t,rfl⟩:=rx
  refine ⟨typeIs_str _ _ _,(fun _ e=>nomatch e),?_⟩
  rw [m.trees]
  refine Calls.callWith_builtin rfl (Calls.evalArgs_plain (Calls.spliced_cons (thn (he pins s1 σ H1 _ I1 q1) fun iv s2 ⟨y,H2,I2,ry,a,ns,ey,ha,hok,q2⟩=>Calls.spliced_nil ?_)))
  subst ey
  cases ry
  obtain ⟨its,r1,p1,_⟩:=I2.list ha
  obtain ⟨l,rfl,hl⟩:=ji3 r1
  exact SC.join p1.isList hl hok fun t' k=>⟨.str (Txt.join sep ns),H2,I2.tok _,⟨_,rfl⟩,q2⟩
noncomputable def tFs (te:TE):TE:=fun σ H Q=>te σ H fun x H1=>∃ y:Str,x = .str y /\ y.length <= sizeLine /\ Q (.str y) H1
theorem jf1 (he:PE X e te):PE X (.FormattedValue e (-1) none pos) (tFs te):=by
  intro pins s σ H Q I q
  refine FormattedValue_plain (thn (he pins s σ H _ I q) fun v s1 ⟨x,H1,I1,r1,y,e,hz,q1⟩=>?_)
  subst e
  obtain ⟨t,rfl⟩:=r1
  exact wpAny_formatField_str ⟨.str y,H1,I1,⟨_,rfl⟩,q1⟩ ⟨.str y,H1,I1.tok _,⟨_,rfl⟩,q1⟩ hz
end
namespace R
section
variable {X:Cx} {o e:Expr} {apos cpos pos:Pos} {to te:TE}
theorem ZR (K:PySem.W.Frag) (ho:QE X o to) (he:QE X e te) (hK:X.K = K:=by rfl) (hs:noStar e = true:=by rfl) (hb:attributeBase o "join" X.env (eval o X.env) = eval o X.env:=by rfl) (hl:(apos.endLine == cpos.line) = true:=by rfl) :
    QE X (.Call (.Attribute o "join" apos) [e] [] cpos) (tJoin K to te):=by
  subst hK
  exact ⟨L2.ZR ho.h he.h ⟨hb,few1 hs,hl,by rw [Jc hs]; rfl⟩⟩
theorem jf1 (he:QE X e te):QE X (.FormattedValue e (-1) none pos) (tFs te):=⟨L2.jf1 he.h⟩
end
end R
end L2
set_option Elab.async false
set_option linter.all false
set_option maxRecDepth 100000
namespace L2
open PySem PySem.Spec PyProof.Rows
noncomputable def ql (ns:List Str) (b:Nat):Str:=Txt.join (Str.ofString "+") ((things b).map fun k=>ns.getD k Str.empty)
noncomputable def jfD (ns:List Str):Form->Str
  | .none=>Str.ofString "nothing"
  | .only b m=>ql ns b ++ Str.ofString " for " ++ Str.ofString (toString m)
  | .some k l m=>Str.ofString (toString ((l:Nat):Int)) ++ Str.ofString " of " ++ ql ns k ++ Str.ofString " for " ++ Str.ofString (toString m)
  | .most k c m=>Str.ofString "up to " ++ Str.ofString (toString ((c:Nat):Int)) ++ Str.ofString " of " ++ ql ns k ++ Str.ofString " for " ++ Str.ofString (toString m) ++ Str.ofString " each"
noncomputable def jiE (any:Bool):Str:=if any = true then Str.ofString "any(" else Str.ofString "one("
mutual
noncomputable def qM (ns:List Str):Tr->Str
  | .leaf f=>jfD ns f
  | .node any ts=>jiE any ++ Txt.join (Str.ofString "; ") (textL ns ts) ++ Str.ofString ")"
noncomputable def textL (ns:List Str):List Tr->List Str
  | []=>[]
  | t :: ts=>qM ns t :: textL ns ts
end
theorem jcA (ns:List Str):∀ ts:List Tr,textL ns ts = ts.map (qM ns)
  | []=>by rw [textL]; rfl
  | t :: ts=>by rw [textL,jcA ns ts]; rfl
theorem ZJ (ns:List Str) (any:Bool) (ts:List Tr):qM ns (.node any ts) = jiE any ++ Txt.join (Str.ofString "; ") (ts.map (qM ns)) ++ Str.ofString ")" := by rw [qM,jcA]
theorem ZG (ns:List Str) (f:Form):qM ns (.leaf f) = jfD ns f:=by rw [qM]
noncomputable def NsOk (ns:List Str):Prop:=∀ x ∈ ns,x.length <= 20
theorem jjp {ns:List Str} (h:NsOk ns) (k:Nat):(ns.getD k Str.empty).length <= 20:=by
  rw [List.getD_eq_getElem?_getD]
  cases e:ns[k]? with
  | none=>show Str.empty.length <= 20; decide
  | some x=>exact h x (List.mem_of_getElem? e)
theorem jiF {sep:Str} {ts:List Str} {B N:Nat} (h:∀ x ∈ ts,x.length <= B) (hn:ts.length <= N):(ts.map (·.length)).sum + ts.length * sep.length <= N * (B + sep.length):=by
  have h1:∀ l:List Str,(∀ x ∈ l,x.length <= B)->(l.map (·.length)).sum <= l.length * B:=by
    intro l
    induction l with
    | nil=>intro _; simp
    | cons x l ih =>
      intro h
      have a:=ih fun y hy=>h y (List.mem_cons_of_mem _ hy)
      have b:=h x (List.mem_cons_self ..)
      rw [List.map_cons,List.sum_cons,List.length_cons,Nat.succ_mul]
      omega
  have a:=h1 ts h
  have b:ts.length * (B + sep.length) <= N * (B + sep.length):=Nat.mul_le_mul_right _ hn
  rw [Nat.mul_add] at b
  omega
theorem joinOk_of {sep:Str} {ts:List Str} (h:(ts.map (·.length)).sum + ts.length * sep.length <= 100000):JoinOk sep ts = true /\ (Txt.join sep ts).length <= (ts.map (·.length)).sum + ts.length * sep.length:=by
  constructor
  · unfold JoinOk Builtin.Str.tooLong
    rw [StrLaws.joinTotal]
    have:¬ ((ts.map (·.length)).sum + ts.length * sep.length > sizeLine):=by rw [sizeLine_eq]; omega
    simp [this]
  · unfold Txt.join
    rw [StrLaws.glued_eq_join]
    exact StrLaws.join_length_le sep ts
theorem qp {ns:List Str} (h:NsOk ns) (b:Nat):JoinOk (Str.ofString "+") ((things b).map fun k=>ns.getD k Str.empty) = true /\ (ql ns b).length <= 130:=by
  have e:=jiF (sep:=Str.ofString "+") (ts:=(things b).map fun k=>ns.getD k Str.empty) (B:=20) (N:=6) (fun x hx=>by
    obtain ⟨k,_,rfl⟩:=List.mem_map.mp hx
    exact jjp h k) (by rw [List.length_map]; exact yU b)
  have e1:(Str.ofString "+").length = 1:=rfl
  rw [e1] at e
  obtain ⟨a,c⟩:=joinOk_of (sep:=Str.ofString "+") (ts:=(things b).map fun k=>ns.getD k Str.empty) (by rw [e1]; omega)
  refine ⟨a,?_⟩
  unfold ql
  rw [e1] at c
  omega
theorem JZ {m:Int} (h0:0 <= m) (h:m <= 10 ^ 9):(Str.ofString (toString m)).length <= 11:=by
  rw [PySem.ofString_length]
  exact int_text_length_le10 (k:=10) (by decide) (by omega)
theorem qY {m:Int} (h0:0 <= m) (h:m <= 10 ^ 9):m.natAbs.log2 < 1920:=by
  by_cases z:m.natAbs = 0
  · rw [z]; decide
  · exact (Nat.log2_lt z).mpr (Nat.lt_of_lt_of_le (show m.natAbs < 2 ^ 31 by omega) (Nat.pow_le_pow_right (by decide) (by decide)))
theorem lens:(Str.ofString " for ").length = 5 /\ (Str.ofString " of ").length = 4 /\ (Str.ofString "up to ").length = 6 /\ (Str.ofString " each").length = 5 /\ (Str.ofString "nothing").length = 7 /\ (Str.ofString ")").length = 1 /\ (Str.ofString "; ").length = 2 /\ (Str.ofString "any(").length = 4 /\ (Str.ofString "one(").length = 4:=by decide
theorem form_len {ns:List Str} (h:NsOk ns) {f:Form} (ok:qP f):(jfD ns f).length <= 200:=by
  obtain ⟨l1,l2,l3,l4,l5,_⟩:=lens
  cases f with
  | none=>show (Str.ofString "nothing").length <= 200; omega
  | only b m =>
    have a:=(qp h b).2
    have c:=JZ ok.2.2.lo ok.2.2.hi
    show (ql ns b ++ Str.ofString " for " ++ Str.ofString (toString m)).length <= 200
    rw [strLen_append,strLen_append]; omega
  | some k l m =>
    have a:=(qp h k).2
    have c:=JZ ok.2.2.2.2.lo ok.2.2.2.2.hi
    have d:=JZ (m:=((l:Nat):Int)) (by omega) (by have:=ok.2.2.2.1; omega)
    show (Str.ofString (toString ((l:Nat):Int)) ++ Str.ofString " of " ++ ql ns k ++ Str.ofString " for " ++ Str.ofString (toString m)).length <= 200
    rw [strLen_append,strLen_append,strLen_append,strLen_append]; omega
  | most k l m =>
    have a:=(qp h k).2
    have c:=JZ ok.2.2.2.2.lo ok.2.2.2.2.hi
    have d:=JZ (m:=((l:Nat):Int)) (by omega) (by have:=ok.2.2.2.1; omega)
    show (Str.ofString "up to " ++ Str.ofString (toString ((l:Nat):Int)) ++ Str.ofString " of " ++ ql ns k ++ Str.ofString " for " ++ Str.ofString (toString m) ++ Str.ofString " each").length <= 200
    rw [strLen_append,strLen_append,strLen_append,strLen_append,strLen_append,strLen_append]; omega
theorem head_len (any:Bool):(jiE any).length = 4:=by cases any <;> rfl
mutual
theorem text_len {ns:List Str} (h:NsOk ns):∀ t:Tr,okT t->jW t <= 100->(qM ns t).length + 2 <= 220 * jW t
  | .leaf f,ok,_=>by
    rw [ZG]
    have:=form_len h (jb1.mp ok)
    show _ <= 220 * 1
    omega
  | .node any ts,ok,few=>by
    have few':1 + jR ts <= 100:=few
    have ih:=jew h ts (za (yD.mp ok)) (by omega)
    obtain ⟨_,_,_,_,_,l6,l7,_⟩:=lens
    rw [qM,strLen_append,strLen_append,head_len,l6]
    have hl:(textL ns ts).length = ts.length:=by rw [jcA,List.length_map]
    have e:((textL ns ts).map (·.length)).sum + (textL ns ts).length * (Str.ofString "; ").length <= 220 * jR ts:=by rw [l7]; exact ih
    have:=(joinOk_of (sep:=Str.ofString "; ") (ts:=textL ns ts) (by omega)).2
    show _ <= 220 * (1 + jR ts)
    omega
theorem jew {ns:List Str} (h:NsOk ns):∀ ts:List Tr,(∀ t ∈ ts,okT t)->jR ts <= 100->((textL ns ts).map (·.length)).sum + (textL ns ts).length * 2 <= 220 * jR ts
  | [],_,_=>by rw [textL]; exact Nat.zero_le _
  | t :: ts,ok,few=>by
    have few':jW t + jR ts <= 100:=few
    have a:=text_len h t (ok t (List.mem_cons_self ..)) (by omega)
    have b:=jew h ts (fun u hu=>ok u (List.mem_cons_of_mem _ hu)) (by omega)
    rw [textL,List.map_cons,List.sum_cons,List.length_cons,Nat.succ_mul]
    show _ <= 220 * (jW t + jR ts)
    omega
end
theorem jcB {ns:List Str} (h:NsOk ns) {ts:List Tr} (ok:∀ t ∈ ts,okT t) (few:jR ts <= 100):JoinOk (Str.ofString "; ") (ts.map (qM ns)) = true /\ (Txt.join (Str.ofString "; ") (ts.map (qM ns))).length <= 22000:=by
  obtain ⟨_,_,_,_,_,l6,l7,_⟩:=lens
  have ih:=jew h ts ok few
  rw [jcA] at ih
  have e:((ts.map (qM ns)).map (·.length)).sum + (ts.map (qM ns)).length * (Str.ofString "; ").length <= 22000:=by rw [l7]; omega
  obtain ⟨a,b⟩:=joinOk_of (sep:=Str.ofString "; ") (ts:=ts.map (qM ns)) (by omega)
  exact ⟨a,by omega⟩
noncomputable def Sub (x m:Nat):Prop:=x ||| (2 ^ m - 1) = 2 ^ m - 1
theorem Sub.of_or {x y m:Nat} (h:Sub (x ||| y) m):Sub x m /\ Sub y m:=by
  unfold Sub at *
  have key:∀ i,(x.testBit i = true->(2 ^ m - 1).testBit i = true) /\ (y.testBit i = true->(2 ^ m - 1).testBit i = true):=fun i=>by
    have:=congrArg (fun z=>z.testBit i) h
    simp only [Nat.testBit_or] at this
    constructor <;> intro z
    · rw [z,Bool.true_or,Bool.true_or] at this; exact this.symm
    · rw [z,Bool.or_true,Bool.true_or] at this; exact this.symm
  constructor
  · refine Nat.eq_of_testBit_eq fun i=>?_
    rw [Nat.testBit_or]
    cases e:x.testBit i with
    | false=>rfl
    | true=>rw [(key i).1 e]; rfl
  · refine Nat.eq_of_testBit_eq fun i=>?_
    rw [Nat.testBit_or]
    cases e:y.testBit i with
    | false=>rfl
    | true=>rw [(key i).2 e]; rfl
theorem Z0:∀ m < 7,∀ b < 64,b ||| (2 ^ m - 1) = 2 ^ m - 1->∀ k ∈ things b,k < m:=by decide +kernel
theorem Sub.mem {m:Nat}:∀ {ts:List Tr},Sub (Jg ts) m->∀ t ∈ ts,Sub (Jb t) m
  | [],_,t,ht=>by cases ht
  | u :: ts,h,t,ht=>by
    obtain ⟨a,b⟩:=Sub.of_or (show Sub (Jb u ||| Jg ts) m from h)
    rcases List.mem_cons.mp ht with rfl | ht
    · exact a
    · exact Sub.mem b t ht
end L2
set_option Elab.async false
set_option linter.all false
set_option maxRecDepth 100000
namespace L2
open PySem PySem.Spec PyProof.Rows PySem.W Builtin Builtin.Str
section
variable {prog:Program} {w:World} {A:Around} {E:Value->Shared->Prop} {s:Shared} {x y:Str} {t u:Tok} {Q:Value->Shared->Prop}
theorem jhm (x:Str) (cuts:List Nat) (k:Nat):(partsBetween x cuts k).length = cuts.length + 1:=by
  unfold partsBetween
  rw [List.length_map,List.length_zip]
  simp
theorem call_cut (hy:(y.length == 0) = false) (hx:x.length + 2 <= sizeLine)
    (h:∀ (l:List (Str × Tok)) (k:Tok),l.map (·.1) = Txt.split x y->l.length <= x.length + 2->Q (.ref s.heap.objs.size) { s with heap:=s.heap.push { cls:=.type "list",data:=.seq (strValues l).toArray },toks:=k }) :
    wpAny (model prog w) A (call (.builtin "str.split") [.str x t,.str y u]) Q E s:=by
  have hocc:=StrLaws.occ_length_le x y 0 x.length (x.length + 1)
  by_cases h1:(decide (x.length < y.length) || decide (strKind x < strKind y)) = true
  · refine call_meets F.slot_str_split (typeIs_str _ _ _) F.entry_str_split (F.args_str_split_2 _ _) (meets_str_split_cannot_occur x y t u h1) ?_
    exact h [(x,t)] s.toks (by unfold Txt.split; rw [if_pos h1]; rfl) (by simp)
  have h1':=eq_false_of_ne_true h1
  by_cases hf:(occurrences x y 0 x.length (x.length + 1)).isEmpty = true
  · refine call_meets F.slot_str_split (typeIs_str _ _ _) F.entry_str_split (F.args_str_split_2 _ _) (meets_str_split_not_found x y t u h1' hy hf) ?_
    exact h [(x,t)] s.toks (by unfold Txt.split; rw [if_neg h1,if_pos hf]; rfl) (by simp)
  have hf':=eq_false_of_ne_true hf
  have hp:(partsBetween x (occurrences x y 0 x.length (x.length + 1)) y.length).length <= x.length + 2:=by rw [jhm]; omega
  refine call_meets F.slot_str_split (typeIs_str _ _ _) F.entry_str_split (F.args_str_split_2 _ _) (meets_str_split_sep x y t u h1' hy hf' (by omega) (by omega)) ?_
  show wants Q E _ _
  rw [strsFrom_eq]
  refine h (numbered s.toks _) _ ?_ ?_
  · unfold Txt.split; rw [if_neg h1,if_neg hf]; exact numbered_texts _ _
  · rw [<- List.length_map (f:=(·.1)),numbered_texts]; exact hp
end
theorem jhw:∀ l:List (Str × Tok),Vals ((l.map (·.1)).map V.str) (strValues l)
  | []=>.nil
  | (x,t) :: l=>.cons ⟨t,rfl⟩ (jhw l)
section
variable {X:Cx} {o e f:Expr} {apos cpos pos p:Pos} {to te tf:TE}
noncomputable def jkk (to te:TE):TE:=fun σ H Q=>to σ H fun x H1=>∃ z,x = .str z /\ te σ H1 fun y H2=>∃ q,y = .str q /\ Q (.bl (Txt.startswith z q)) H2
noncomputable def tEnds (to te:TE):TE:=fun σ H Q=>to σ H fun x H1=>∃ z,x = .str z /\ te σ H1 fun y H2=>∃ q,y = .str q /\ Q (.bl (Txt.endswith z q)) H2
noncomputable def ji4 (to te tf:TE):TE:=fun σ H Q=>to σ H fun x H1=>∃ z,x = .str z /\ te σ H1 fun y H2=>∃ q,y = .str q /\ tf σ H2 fun v H3=>∃ i,v = .int i /\ Q (.bl (Txt.startswith3 z q i)) H3
noncomputable def tSplit (to te:TE):TE:=fun σ H Q=>to σ H fun x H1=>∃ z,x = .str z /\ z.length <= 100000 /\ te σ H1 fun y H2=>∃ q,y = .str q /\ (q.length == 0) = false /\ ∀ l,H2 l = none->Q (.ref l) (upd H2 l (.lst ((Txt.split z q).map V.str)))
theorem z8 (ho:PE X o to) (he:PE X e te) (m:M1 X o "startswith" apos e cpos):PE X (.Call (.Attribute o "startswith" apos) [e] [] cpos) (jkk to te):=by
  intro pins s σ H Q I h
  refine wpAny_Call_method m.base m.few m.line PySem.F.plainAttrs_str PySem.F.slot_str_startswith PySem.F.type_str_startswith (thn (ho pins s σ H _ I h) fun u s1 zz=>?_)
  obtain ⟨x,H1,I1,rx,z,ex,q1⟩:=zz
  subst ex
  obtain ⟨t,rfl⟩:=rx
  refine ⟨typeIs_str _ _ _,(fun _ e=>nomatch e),?_⟩
  rw [m.trees]
  refine Calls.callWith_builtin rfl (Calls.evalArgs_plain (Calls.spliced_cons (thn (he pins s1 σ H1 _ I1 q1) fun iv s2 ⟨y,H2,I2,ry,q,ey,q2⟩=>Calls.spliced_nil ?_)))
  subst ey
  obtain ⟨t2,rfl⟩:=ry
  exact SC.startswith ⟨.bl _,H2,I2,rfl,q2⟩
theorem jfc (ho:PE X o to) (he:PE X e te) (m:M1 X o "endswith" apos e cpos):PE X (.Call (.Attribute o "endswith" apos) [e] [] cpos) (tEnds to te):=by
  intro pins s σ H Q I h
  refine wpAny_Call_method m.base m.few m.line PySem.F.plainAttrs_str PySem.F.slot_str_endswith PySem.F.type_str_endswith (thn (ho pins s σ H _ I h) fun u s1 zz=>?_)
  obtain ⟨x,H1,I1,rx,z,ex,q1⟩:=zz
  subst ex
  obtain ⟨t,rfl⟩:=rx
  refine ⟨typeIs_str _ _ _,(fun _ e=>nomatch e),?_⟩
  rw [m.trees]
  refine Calls.callWith_builtin rfl (Calls.evalArgs_plain (Calls.spliced_cons (thn (he pins s1 σ H1 _ I1 q1) fun iv s2 ⟨y,H2,I2,ry,q,ey,q2⟩=>Calls.spliced_nil ?_)))
  subst ey
  obtain ⟨t2,rfl⟩:=ry
  exact SC.endswith ⟨.bl _,H2,I2,rfl,q2⟩
theorem jc8 (ho:PE X o to) (he:PE X e te) (hf:PE X f tf) (m:M2 X o "startswith" apos e f cpos):PE X (.Call (.Attribute o "startswith" apos) [e,f] [] cpos) (ji4 to te tf):=by
  intro pins s σ H Q I h
  refine wpAny_Call_method m.base m.few m.line PySem.F.plainAttrs_str PySem.F.slot_str_startswith PySem.F.type_str_startswith (thn (ho pins s σ H _ I h) fun u s1 zz=>?_)
  obtain ⟨x,H1,I1,rx,z,ex,q1⟩:=zz
  subst ex
  obtain ⟨t,rfl⟩:=rx
  refine ⟨typeIs_str _ _ _,(fun _ e=>nomatch e),?_⟩
  rw [m.trees]
  refine Calls.callWith_builtin rfl (Calls.evalArgs_plain (Calls.spliced_cons (thn (he pins s1 σ H1 _ I1 q1) fun iv s2 ⟨y,H2,I2,ry,q,ey,q2⟩ =>
    Calls.spliced_cons (thn (hf pins s2 σ H2 _ I2 q2) fun fv s3 ⟨v,H3,I3,rv,i,ei,q3⟩=>Calls.spliced_nil ?_))))
  subst ey ei
  obtain ⟨t2,rfl⟩:=ry
  obtain ⟨t3,rfl⟩:=rv
  exact SC.startswith3 ⟨.bl _,H3,I3,rfl,q3⟩
theorem jdE (ho:PE X o to) (he:PE X e te) (m:M1 X o "split" apos e cpos):PE X (.Call (.Attribute o "split" apos) [e] [] cpos) (tSplit to te):=by
  intro pins s σ H Q I h
  refine wpAny_Call_method m.base m.few m.line PySem.F.plainAttrs_str PySem.F.slot_str_split PySem.F.type_str_split (thn (ho pins s σ H _ I h) fun u s1 zz=>?_)
  obtain ⟨x,H1,I1,rx,z,ex,hz,q1⟩:=zz
  subst ex
  obtain ⟨t,rfl⟩:=rx
  refine ⟨typeIs_str _ _ _,(fun _ e=>nomatch e),?_⟩
  rw [m.trees]
  refine Calls.callWith_builtin rfl (Calls.evalArgs_plain (Calls.spliced_cons (thn (he pins s1 σ H1 _ I1 q1) fun iv s2 ⟨y,H2,I2,ry,q,ey,hq,q2⟩=>Calls.spliced_nil ?_)))
  subst ey
  obtain ⟨t2,rfl⟩:=ry
  refine call_cut hq (by rw [sizeLine_eq]; omega) fun l k el hl=>?_
  have ev:Vals ((Txt.split z q).map V.str) (strValues l):=by rw [<- el]; exact jhw l
  refine ⟨.ref s2.heap.objs.size,_,I2.laid (t':=k) (o:=.lst ((Txt.split z q).map V.str)) (fun c o e=>Heap.get?_push_of_some _ e) (Nat.le_refl _) ⟨?_,strValues l,0,ev,?_⟩,rfl,q2 _ (I2.hok.fresh (Nat.le_refl _))⟩
  · have:=congrArg List.length el
    rw [List.length_map] at this
    rw [List.length_map,<- this,sizeLine_eq]; omega
  · exact Heap.get?_push_size _ rfl
theorem jhJ:yx X (.type "int") (fun xs H Q=>∃ n:Int,xs = [.str (Str.ofString (toString n))] /\ 0 <= n /\ n < 10 ^ 10 /\ Q (.int n) H):=by
  intro pins s σ H xs us Q I r h
  obtain ⟨n,rfl,h0,h1,q⟩:=h
  obtain ⟨u,rfl,ru⟩:=vals1 r
  obtain ⟨t,rfl⟩:=ru
  exact KIN.call_num h0 h1 ⟨.int n,H,I.tok _,⟨_,rfl⟩,q⟩
end
noncomputable def Itq (l:List Nat):It :=
  ⟨fun i _=>i < l.length,fun i H v H'=>∃ p c,v = .ref p /\ H p = none /\ l[i]? = some c /\ H' = upd H p (.tup [.int i,.str (tx [c])]),fun i _=>l.length <= i⟩
theorem jjV {P:Program} {w:World} {K:PySem.W.Frag} {es:List Expr} {kk:Nat} {pos:Pos} (l:List Nat) (t:Tok) (z i1:Addr) (hne:z ≠ i1) :
    Turn P w K (.Tuple es kk pos) (Itq l) [z,i1] z (fun i h=>i <= l.length /\ (∃ old,IsEnum h z i1 i old) /\ h.IsStrIter i1 "str_ascii_iterator" (tx l) t i) where
  mem:=by simp
  obj:=fun i h st c hc=>by
    obtain ⟨_,⟨old,hz⟩,⟨o1,e1,c1,d1⟩⟩:=st
    simp only [List.mem_cons,List.not_mem_nil,or_false] at hc
    rcases hc with rfl | rfl
    · exact ⟨_,hz,fun v x=>by cases x⟩
    · exact ⟨_,e1,fun v x=>by rw [d1] at x; cases x⟩
  keep:=fun i h h' st k=>by
    obtain ⟨hi,⟨old,hz⟩,⟨o1,e1,c1,d1⟩⟩:=st
    exact ⟨hi,⟨old,k z (by simp) _ hz⟩,⟨o1,k i1 (by simp) o1 e1,c1,d1⟩⟩
  item:=by
    intro X hP hw hK hc i pins s σ H E I hf st hg
    subst hP hw hK
    have hg:i < l.length:=hg
    obtain ⟨_,⟨old,hz⟩,h1⟩:=st
    have hsz:(tx l).cps.size = l.length:=Jk l
    refine wpAny_pyNext_enum_itemD (Draws.strAscii (A:=X.A.in1) (I.ok.hd hc) i1 (tx l) t) hz h1 (by rw [hsz]; exact hg) hne (by simpa using hne) fun ux h' tk hP a1 a2 a3 a4 hk=>?_
    obtain ⟨c,u,hcx,rfl⟩:=hP
    have hcl:l[i]? = some c:=by rw [<- Array.getElem?_toList,Qa] at hcx; exact hcx
    have ltz:∀ b ∈ [z,i1],b < s.heap.objs.size:=by
      intro b hb
      simp only [List.mem_cons,List.not_mem_nil,or_false] at hb
      rcases hb with rfl | rfl
      · exact Heap.lt_size hz
      · obtain ⟨_,e,_⟩:=h1; exact Heap.lt_size e
    have I1:Inv X pins σ (upd H s.heap.objs.size (.tup [.int i,.str (tx [c])])) { s with heap:=s.heap.push { cls:=.type "tuple",data:=.seq #[.int i tk,.str ⟨#[c]⟩ u] },toks:=tk + 1 }:=by
      refine I.laid (fun c o e=>Heap.get?_push_of_some _ e) (Nat.le_refl _) ⟨by show 2 <= sizeLine; decide,[.int i tk,.str ⟨#[c]⟩ u],.cons ⟨_,rfl⟩ (.cons ⟨_,rfl⟩ .nil),?_⟩
      exact ⟨_,Heap.get?_push_size _ rfl,rfl,_,rfl⟩
    have hfr:∀ b ∈ [z,i1],upd H s.heap.objs.size (.tup [.int i,.str (tx [c])]) b = none:=fun b hb=>by
      rw [jO (Nat.ne_of_lt (ltz b hb))]; exact (hf b hb).1
    have hf1:∀ b ∈ [z,i1],FpOk X pins (upd H s.heap.objs.size (.tup [.int i,.str (tx [c])])) b:=fun b hb=>⟨hfr b hb,(hf b hb).2⟩
    have kk:∀ b o,b ∉ [z,i1]->(s.heap.push { cls:=.type "tuple",data:=.seq #[.int i tk,.str ⟨#[c]⟩ u] }).get? b = some o->h'.get? b = some o:=fun b o hb e=>by
      rcases Heap.get?_push_cases e with ⟨e9,e8⟩ | e'
      · subst e9 e8; exact a3
      · exact hk b o (fun x=>hb (by simp [x])) (fun x=>hb (by simp [x])) e'
    have I2:Inv X pins σ (upd H s.heap.objs.size (.tup [.int i,.str (tx [c])])) { s with heap:=h',toks:=tk + 1 }:=by
      have z:=Inv.zZ (t':=tk + 1) I1 kk hf1
      exact z
    refine ⟨_,rfl,wpAny_letOwnedTupleGo_enum (s:={ s with heap:=h',toks:=tk + 1 }) a1 fun h'' hz'' hs''=>?_⟩
    have I3:Inv X pins σ (upd H s.heap.objs.size (.tup [.int i,.str (tx [c])])) { s with heap:=h'',toks:=tk + 1 }:=by
      have z:=Inv.zZ (h':=h'') (t':=tk + 1) (ch:=[z]) I2 (fun b o hb e=>hs''.extBut b o (fun q=>hb (by simp [q])) e) (fun b hb=>hf1 b (by simp at hb; simp [hb]))
      exact z
    refine ⟨.ref s.heap.objs.size,_,I3,rfl,⟨_,c,rfl,I.hok.fresh (Nat.le_refl _),hcl,rfl⟩,?_,hfr⟩
    exact ⟨hg,⟨_,by have:=hz''; push_cast; exact this⟩,a2.extBut hs''.extBut (Ne.symm hne)⟩
  done:=by
    intro X hP hw hK hc i pins s σ H E I hf st hg
    subst hP hw hK
    have hg:l.length <= i:=hg
    obtain ⟨hi,⟨old,hz⟩,h1⟩:=st
    have e:i = (tx l).cps.size:=by rw [show (tx l).cps.size = l.length from Jk l]; omega
    subst e
    refine wpAny_pyNext_enum_endD (Draws.strAscii (A:=X.A.in1) (I.ok.hd hc) i1 (tx l) t) hz h1 fun h' hk=>⟨rfl,?_⟩
    exact I.zZ (t':=s.toks) (ch:=[z,i1]) (fun c o hc e=>hk c o (fun x=>hc (by simp [x])) e) hf
  self:=fun _ _ _ _ _ st h=>by
    obtain ⟨_,⟨old,hz⟩,_⟩:=st
    exact wpAny_pyIter_enum hz h
noncomputable def iEnumS (ta:TA):TI:=fun σ H R=>ta σ H fun vs H1=>∃ l:List Nat,vs = [.str (tx l)] /\ l.all (· < 128) = true /\ R (Itq l) H1
theorem jf4 {X:Cx} {es:List Expr} {kk:Nat} {tp:Pos} {a:Expr} {ta:TA} {p pos:Pos} (hg:Gl X "enumerate") (hm:X.mg "enumerate" = none) (ha:PA X [a] ta) (hs:noStar a = true) :
    PI X (.Tuple es kk tp) (.Call (.Name "enumerate" p) [a] [] pos) (iEnumS ta):=by
  intro pins s σ H R I h
  refine Call_ (Z6 I hg hm boot_enumerate (PyProof.Rows.callWith_type1 (thn (ha pos pins s σ H _ I h) fun us s1 zz=>?_) (by rw [Jc hs]) rfl))
  obtain ⟨vs,H1,I1,r1,q1⟩:=zz
  obtain ⟨l,e,hasc,q⟩:=q1
  subst e
  obtain ⟨u,rfl,ru⟩:=vals1 r1
  obtain ⟨t,rfl⟩:=ru
  refine call_enumerate_str fun h' hz hi1 hsz hk=>?_
  have hty:strIterType (tx l) = "str_ascii_iterator" := by
    unfold strIterType
    rw [show (tx l).cps.all (· < 128) = true from by rw [<- Array.all_toList,Qa]; exact hasc]; rfl
  rw [hty] at hi1
  refine wpAny_pyIter_enum hz ?_
  refine ⟨s1.heap.objs.size + 1,_,_,_,H1,rfl,I1.kept (t':=s1.toks) hk,jjV l t _ _ (Nat.succ_ne_self _),⟨Nat.zero_le _,⟨_,hz⟩,hi1⟩,fun c hc=>?_,q⟩
  have hge:s1.heap.objs.size <= c:=by
    simp only [List.mem_cons,List.not_mem_nil,or_false] at hc
    rcases hc with rfl | rfl
    · exact Nat.le_succ _
    · exact Nat.le_refl _
  exact I1.fpOk hge (I1.hok.fresh hge)
theorem jky {l:List Nat} {g:TG} {tb:TS} {D:Ends} {σ:St} {H:Hp} (Pv:Nat->St->Hp->Prop) (h0:Pv 0 σ H)
    (hs:∀ (i:Nat) c p σ H,l[i]? = some c->Pv i σ H->H p = none->g (.ref p) σ (upd H p (.tup [.int i,.str (tx [c])])) fun σ2 H2=>tb { D with nx:=Pv (i + 1),ct:=Pv (i + 1),bk:=D.nx } σ2 H2) (hd:∀ σ H,Pv l.length σ H->D.nx σ H) :
    ∃ W:Nat->Nat->St->Hp->Prop,(∃ m,W 0 m σ H) /\ ∀ i m σ H,W i m σ H ->
      ((Itq l).stop i H /\ D.nx σ H) ∨ ((Itq l).go i H /\ ∃ N:St->Hp->Prop,(∀ σ' H',N σ' H'->∃ m',m' < m /\ W (i + 1) m' σ' H') /\ ∀ x H',(Itq l).yld i H x H'->g x σ H' fun σ2 H2=>tb { D with nx:=N,ct:=N,bk:=D.nx } σ2 H2):=by
  refine ⟨fun i m σ H=>m = l.length - i /\ i <= l.length /\ Pv i σ H,⟨l.length,by simp,Nat.zero_le _,h0⟩,?_⟩
  rintro i m σ H ⟨rfl,hi,p⟩
  by_cases hlt:i < l.length
  · refine .inr ⟨hlt,Pv (i + 1),fun σ' H' p'=>⟨l.length - (i + 1),by omega,rfl,hlt,p'⟩,fun v H' y=>?_⟩
    obtain ⟨r,c,rfl,hn,hc,rfl⟩:=y
    exact hs i c r σ _ hc p hn
  · have e:i = l.length:=by omega
    subst e
    exact .inl ⟨Nat.le_refl _,hd σ H p⟩
namespace R
section
variable {X:Cx} {o e f:Expr} {apos cpos pos p:Pos} {to te tf:TE} {t:TA}
theorem z8 (ho:QE X o to) (he:QE X e te) (hs:noStar e = true:=by rfl) (hb:attributeBase o "startswith" X.env (eval o X.env) = eval o X.env:=by rfl) (hl:(apos.endLine == cpos.line) = true:=by rfl) :
    QE X (.Call (.Attribute o "startswith" apos) [e] [] cpos) (jkk to te):=⟨L2.z8 ho.h he.h ⟨hb,few1 hs,hl,by rw [Jc hs]; rfl⟩⟩
theorem jfc (ho:QE X o to) (he:QE X e te) (hs:noStar e = true:=by rfl) (hb:attributeBase o "endswith" X.env (eval o X.env) = eval o X.env:=by rfl) (hl:(apos.endLine == cpos.line) = true:=by rfl) :
    QE X (.Call (.Attribute o "endswith" apos) [e] [] cpos) (tEnds to te):=⟨L2.jfc ho.h he.h ⟨hb,few1 hs,hl,by rw [Jc hs]; rfl⟩⟩
theorem jdE (ho:QE X o to) (he:QE X e te) (hs:noStar e = true:=by rfl) (hb:attributeBase o "split" X.env (eval o X.env) = eval o X.env:=by rfl) (hl:(apos.endLine == cpos.line) = true:=by rfl) :
    QE X (.Call (.Attribute o "split" apos) [e] [] cpos) (tSplit to te):=⟨L2.jdE ho.h he.h ⟨hb,few1 hs,hl,by rw [Jc hs]; rfl⟩⟩
theorem jc8 (ho:QE X o to) (he:QE X e te) (hf:QE X f tf) (hs:noStar e = true:=by rfl) (hs2:noStar f = true:=by rfl) (hb:attributeBase o "startswith" X.env (eval o X.env) = eval o X.env:=by rfl) (hl:(apos.endLine == cpos.line) = true:=by rfl) :
    QE X (.Call (.Attribute o "startswith" apos) [e,f] [] cpos) (ji4 to te tf):=⟨L2.jc8 ho.h he.h hf.h ⟨hb,few2 hs hs2,hl,by rw [Jc hs,Jc hs2]; rfl⟩⟩
theorem jf4 {tes:List Expr} {kk:Nat} {tp:Pos} (hg:Gl X "enumerate") (hm:X.mg "enumerate" = none) (ha:QA X [e] t) (hs:noStar e = true:=by rfl):QI X (.Tuple tes kk tp) (.Call (.Name "enumerate" p) [e] [] pos) (iEnumS t):=⟨L2.jf4 hg hm ha.h hs⟩
end
end R
end L2
set_option Elab.async false
set_option linter.all false
set_option maxRecDepth 100000
namespace L2
open PySem PySem.Spec PyProof.Rows
noncomputable def j0 (sep:List Nat):List (List Nat)->List Nat
  | []=>[]
  | [x]=>x
  | x :: y :: r=>x ++ sep ++ j0 sep (y :: r)
theorem jcq (sep:List Nat):∀ ps:List (List Nat),Str.join (tx sep) (ps.map tx) = tx (j0 sep ps)
  | []=>rfl
  | [x]=>rfl
  | x :: y :: r=>by
    show tx x ++ tx sep ++ Str.join (tx sep) ((y :: r).map tx) = _
    rw [jcq sep (y :: r),Jt,Jt]; rfl
theorem je9 (sep:List Nat) (ps:List (List Nat)):Txt.join (tx sep) (ps.map tx) = tx (j0 sep ps):=by
  unfold Txt.join
  rw [StrLaws.glued_eq_join,jcq]
theorem jiz {c:Nat}:∀ {a a' b b':List Nat},c ∉ a->c ∉ a'->a ++ c :: b = a' ++ c :: b'->a = a' /\ b = b'
  | [],[],b,b',_,_,e=>⟨rfl,(List.cons.inj e).2⟩
  | [],y :: a',b,b',_,h',e=>absurd (List.cons.inj e).1 (fun q=>h' (by rw [q]; exact List.mem_cons_self ..))
  | x :: a,[],b,b',h,_,e=>absurd (List.cons.inj e).1 (fun q=>h (by rw [<- q]; exact List.mem_cons_self ..))
  | x :: a,y :: a',b,b',h,h',e=>by
    obtain ⟨e1,e2⟩:=List.cons.inj e
    obtain ⟨q1,q2⟩:=jiz (fun z=>h (List.mem_cons_of_mem _ z)) (fun z=>h' (List.mem_cons_of_mem _ z)) e2
    exact ⟨by rw [e1,q1],q2⟩
theorem jhd {c:Nat}:∀ {ps qs:List (List Nat)},ps ≠ []->qs ≠ []->(∀ p ∈ ps,c ∉ p)->(∀ q ∈ qs,c ∉ q)->j0 [c] ps = j0 [c] qs->ps = qs
  | [],_,h,_,_,_,_=>absurd rfl h
  | _ :: _,[],_,h,_,_,_=>absurd rfl h
  | [x],[y],_,_,_,_,e=>by rw [show x = y from e]
  | [x],y :: z :: r,_,_,h,_,e=>by
    have e:x = y ++ [c] ++ j0 [c] (z :: r):=e
    exact absurd (show c ∈ x by rw [e]; simp) (h x (List.mem_cons_self ..))
  | x :: z :: r,[y],_,_,_,h,e=>by
    have e:x ++ [c] ++ j0 [c] (z :: r) = y:=e
    exact absurd (show c ∈ y by rw [<- e]; simp) (h y (List.mem_cons_self ..))
  | x :: y :: r,x' :: y' :: r',_,_,h,h',e=>by
    have e:x ++ [c] ++ j0 [c] (y :: r) = x' ++ [c] ++ j0 [c] (y' :: r'):=e
    rw [List.append_assoc,List.append_assoc] at e
    obtain ⟨e1,e2⟩:=jiz (h x (List.mem_cons_self ..)) (h' x' (List.mem_cons_self ..)) e
    rw [e1,jhd (by simp) (by simp) (fun p hp=>h p (List.mem_cons_of_mem _ hp)) (fun p hp=>h' p (List.mem_cons_of_mem _ hp)) e2]
theorem split_ne (x y:Str):Txt.split x y ≠ []:=by
  unfold Txt.split
  split
  · simp
  split
  · simp
  · intro e
    have:=jhm x (Builtin.Str.occurrences x y 0 x.length (x.length + 1)) y.length
    rw [e] at this
    simp at this
theorem jiZ {c:Nat} {ps:List (List Nat)} (h0:ps ≠ []) (hf:∀ p ∈ ps,c ∉ p):Txt.split (tx (j0 [c] ps)) (tx [c]) = ps.map tx:=by
  have key:Txt.split (tx (j0 [c] ps)) (tx [c]) = ((Txt.split (tx (j0 [c] ps)) (tx [c])).map fun q=>q.cps.toList).map tx:=by
    rw [List.map_map]
    conv=>lhs; rw [<- List.map_id (Txt.split (tx (j0 [c] ps)) (tx [c]))]
    exact List.map_congr_left fun q _=>jhA q
  rw [key]
  congr 1
  refine jhd (c:=c) ?_ h0 ?_ hf ?_
  · intro e
    exact split_ne _ _ (List.map_eq_nil_iff.mp e)
  · intro p hp
    obtain ⟨q,hq,rfl⟩:=List.mem_map.mp hp
    exact StrLaws.split_free (tx (j0 [c] ps)) c q hq
  · refine jgE ?_
    rw [<- jcq,<- key]
    exact StrLaws.join_split _ _
theorem jjk (l:List Nat) (i j:Nat):(tx l).cps.extract i j = ((l.drop i).take (j - i)).toArray:=by
  simp [tx,List.extract_toArray,List.extract_eq_drop_take]
theorem jgA (l p:List Nat) (i:Nat):Builtin.Str.subAt (tx l) (tx p) i = ((l.drop i).take p.length == p):=by
  unfold Builtin.Str.subAt
  rw [jjk,Jk,Nat.add_sub_cancel_left]
  rw [Bool.eq_iff_iff]
  simp [tx]
theorem z9 (l p:List Nat):Txt.startswith (tx l) (tx p) = (l.take p.length == p):=by
  unfold Txt.startswith
  rw [jgA,Jk,Jk,List.drop_zero,Nat.zero_add]
  rw [Bool.eq_iff_iff]
  simp only [Bool.and_eq_true,decide_eq_true_eq,beq_iff_eq]
  refine ⟨fun h=>h.2,fun h=>⟨?_,h⟩⟩
  have:=congrArg List.length h
  rw [List.length_take] at this; omega
theorem jjQ (l p:List Nat) (i:Nat):Txt.startswith3 (tx l) (tx p) (i:Int) = ((l.drop i).take p.length == p && decide (i + p.length <= l.length)):=by
  have e:fromIndex (tx l).length (i:Int) = i:=by unfold fromIndex; rw [if_neg (by omega)]; omega
  unfold Txt.startswith3
  rw [e,jgA,Jk,Jk,Bool.and_comm]
theorem ends_tx (l p:List Nat):Txt.endswith (tx l) (tx p) = (decide (p.length <= l.length) && ((l.drop (l.length - p.length)).take p.length == p)):=by
  unfold Txt.endswith
  rw [jgA,Jk,Jk,Nat.zero_add]
theorem jkw (l:List Nat) (c:Nat):Txt.endswith (tx (l ++ [c])) (tx [c]) = true:=by
  rw [ends_tx]
  simp
theorem Yo (n d i:Nat):HT.sIx n d (some (i:Int)) = min i n:=by
  unfold HT.sIx
  simp only [show ¬ ((i:Int) < 0) by omega,if_false]
  omega
theorem jit (l:List Nat) (b:Nat) (h:b <= l.length):cutL l (some (b:Int)) none = l.drop b:=by
  unfold cutL
  rw [Yo,Nat.min_eq_left h]
  show (l.drop b).take (l.length - b) = _
  rw [List.take_of_length_le (by rw [List.length_drop]; exact Nat.le_refl _)]
theorem cut_in (a x:List Nat) (c:Nat) (h:a.length = 4):cutL (a ++ x ++ [c]) (some 4) (some (-1)) = x:=by
  have hl:(a ++ x ++ [c]).length = x.length + 5:=by simp [h]; omega
  have e1:HT.sIx (x.length + 5) 0 (some 4) = 4:=by unfold HT.sIx; simp only [show ¬ ((4:Int) < 0) by omega,if_false]; omega
  have e2:HT.sIx (x.length + 5) (x.length + 5) (some (-1)) = x.length + 4:=by unfold HT.sIx; simp only [show ((-1:Int) < 0) by omega,if_true]; omega
  unfold cutL
  rw [hl,e1,e2,List.append_assoc,<- h,List.drop_left,h,Nat.add_sub_cancel,List.take_left]
noncomputable def quiet:Nat->List Nat->Option Nat
  | w,[]=>some w
  | w,c :: cs=>if c = 40 then quiet (w + 1) cs else if c = 41 then (if w = 0 then none else quiet (w - 1) cs) else if w = 0 /\ c = 59 then none else quiet w cs
theorem YW:∀ (a b:List Nat) (w:Nat),quiet w (a ++ b) = (quiet w a).bind fun v=>quiet v b
  | [],b,w=>rfl
  | c :: a,b,w=>by
    show (if c = 40 then quiet (w + 1) (a ++ b) else if c = 41 then (if w = 0 then none else quiet (w - 1) (a ++ b)) else if w = 0 /\ c = 59 then none else quiet w (a ++ b)) = (if c = 40 then quiet (w + 1) a else if c = 41 then (if w = 0 then none else quiet (w - 1) a) else if w = 0 /\ c = 59 then none else quiet w a).bind _
    split
    · exact YW a b _
    split
    · split
      · rfl
      · exact YW a b _
    split
    · rfl
    · exact YW a b _
theorem jf8:∀ (a:List Nat) (w:Nat),(∀ c ∈ a,c ≠ 40 /\ c ≠ 41 /\ c ≠ 59)->quiet w a = some w
  | [],w,_=>rfl
  | c :: a,w,h=>by
    obtain ⟨h1,h2,h3⟩:=h c (List.mem_cons_self ..)
    show (if c = 40 then quiet (w + 1) a else if c = 41 then (if w = 0 then none else quiet (w - 1) a) else if w = 0 /\ c = 59 then none else quiet w a) = _
    rw [if_neg h1,if_neg h2,if_neg (fun z=>h3 z.2)]
    exact jf8 a w fun d hd=>h d (List.mem_cons_of_mem _ hd)
theorem jcd:∀ (a:List Nat) (w v:Nat),quiet w a = some v->quiet (w + 1) a = some (v + 1)
  | [],w,v,h=>by rw [show v = w from (Option.some.inj h).symm]; rfl
  | c :: a,w,v,h=>by
    have h:(if c = 40 then quiet (w + 1) a else if c = 41 then (if w = 0 then none else quiet (w - 1) a) else if w = 0 /\ c = 59 then none else quiet w a) = some v:=h
    show (if c = 40 then quiet (w + 1 + 1) a else if c = 41 then (if w + 1 = 0 then none else quiet (w + 1 - 1) a) else if w + 1 = 0 /\ c = 59 then none else quiet (w + 1) a) = _
    by_cases h1:c = 40
    · rw [if_pos h1] at h ⊢; exact jcd a _ _ h
    rw [if_neg h1] at h ⊢
    by_cases h2:c = 41
    · rw [if_pos h2] at h ⊢
      by_cases h3:w = 0
      · rw [if_pos h3] at h; cases h
      · rw [if_neg h3] at h
        rw [if_neg (by omega)]
        have:=jcd a _ _ h
        rw [show w - 1 + 1 = w + 1 - 1 by omega] at this
        exact this
    rw [if_neg h2] at h ⊢
    rw [if_neg (fun z=>absurd z.1 (by omega))]
    by_cases h3:w = 0 /\ c = 59
    · rw [if_pos h3] at h; cases h
    · rw [if_neg h3] at h
      exact jcd a _ _ h
noncomputable def Piece (x:List Nat):Prop:=quiet 0 x = some 0
theorem jf9:∀ xs:List (List Nat),(∀ x ∈ xs,Piece x)->quiet 1 (j0 [59,32] xs) = some 1
  | [],_=>rfl
  | [x],h=>jcd x 0 0 (h x (List.mem_cons_self ..))
  | x :: y :: r,h=>by
    show quiet 1 (x ++ [59,32] ++ j0 [59,32] (y :: r)) = _
    rw [YW,YW,jcd x 0 0 (h x (List.mem_cons_self ..))]
    exact jf9 (y :: r) fun z hz=>h z (List.mem_cons_of_mem _ hz)
noncomputable abbrev PSt:=List (List Nat) × Nat × Int
noncomputable def semi (l:List Nat) (i:Nat):Bool:=(l.drop i).take 2 == [59,32] && decide (i + 2 <= l.length)
noncomputable def Yn (l:List Nat) (i c:Nat) (st:PSt):PSt :=
  if c = 40 then (st.1,st.2.1,st.2.2 + 1) else if c = 41 then (st.1,st.2.1,st.2.2 - 1)
  else if st.2.2 = 0 /\ semi l i = true then (st.1 ++ [(l.drop st.2.1).take (i - st.2.1)],i + 2,st.2.2) else st
noncomputable def prun (l:List Nat):Nat->PSt
  | 0=>([],0,0)
  | i + 1=>Yn l i (l.getD i 0) (prun l i)
theorem jfH (A:List Nat) (c:Nat) (B:List Nat):(A ++ c :: B).getD A.length 0 = c:=by
  rw [List.getD_eq_getElem?_getD,List.getElem?_append_right (Nat.le_refl _),Nat.sub_self]; rfl
theorem jhp {l A B:List Nat} {c:Nat} (e:l = A ++ c :: B) (h:c ≠ 59):semi l A.length = false:=by
  subst e
  unfold semi
  rw [List.drop_left]
  cases B with
  | nil=>simp
  | cons d B=>simp [h]
theorem jf7 (l:List Nat) (ps:List (List Nat)) (b:Nat):∀ (cur A B:List Nat) (w v:Nat),l = A ++ cur ++ B->quiet w cur = some v->prun l A.length = (ps,b,(w:Int))->prun l (A.length + cur.length) = (ps,b,(v:Int))
  | [],A,B,w,v,_,h,hr=>by rw [show v = w from (Option.some.inj h).symm]; exact hr
  | c :: cur,A,B,w,v,e,h,hr=>by
    have h:(if c = 40 then quiet (w + 1) cur else if c = 41 then (if w = 0 then none else quiet (w - 1) cur) else if w = 0 /\ c = 59 then none else quiet w cur) = some v:=h
    have e':l = A ++ c :: (cur ++ B):=by rw [e]; simp
    have hc:l.getD A.length 0 = c:=by rw [e']; exact jfH _ _ _
    have e2:l = (A ++ [c]) ++ cur ++ B:=by rw [e]; simp
    have len:(A ++ [c]).length = A.length + 1:=by simp
    have step:prun l (A.length + 1) = Yn l A.length c (ps,b,(w:Int)):=by
      show Yn l A.length (l.getD A.length 0) (prun l A.length) = _
      rw [hc,hr]
    have go:∀ w':Nat,quiet w' cur = some v->Yn l A.length c (ps,b,(w:Int)) = (ps,b,(w':Int))->prun l (A.length + (c :: cur).length) = (ps,b,(v:Int)):=fun w' hq hp=>by
      have:=jf7 l ps b cur (A ++ [c]) B w' v e2 hq (by rw [len,step,hp])
      rw [len] at this
      rw [List.length_cons,show A.length + (cur.length + 1) = A.length + 1 + cur.length by omega]; exact this
    by_cases h1:c = 40
    · rw [if_pos h1] at h
      exact go (w + 1) h (by unfold Yn; rw [if_pos h1]; simp)
    rw [if_neg h1] at h
    by_cases h2:c = 41
    · rw [if_pos h2] at h
      by_cases h3:w = 0
      · rw [if_pos h3] at h; cases h
      · rw [if_neg h3] at h
        exact go (w - 1) h (by unfold Yn; rw [if_neg h1,if_pos h2]; simp; omega)
    rw [if_neg h2] at h
    by_cases h3:w = 0 /\ c = 59
    · rw [if_pos h3] at h; cases h
    · rw [if_neg h3] at h
      refine go w h ?_
      unfold Yn
      rw [if_neg h1,if_neg h2,if_neg]
      rintro ⟨z1,z2⟩
      have w0:w = 0:=by have:(w:Int) = 0:=z1; omega
      rw [jhp e' (fun q=>h3 ⟨w0,q⟩)] at z2
      cases z2
theorem jhn (l:List Nat):∀ (xs:List (List Nat)) (A:List Nat) (ps:List (List Nat)),xs ≠ []->(∀ x ∈ xs,Piece x)->l = A ++ j0 [59,32] xs->prun l A.length = (ps,A.length,0)->∃ b,b <= l.length /\ (prun l l.length).2.1 = b /\ (prun l l.length).1 ++ [l.drop b] = ps ++ xs
  | [],_,_,h,_,_,_=>absurd rfl h
  | [x],A,ps,_,h,e,hr=>by
    have e:l = A ++ x:=e
    have z:=jf7 l ps A.length x A [] 0 0 (by rw [e,List.append_nil]) (h x (List.mem_cons_self ..)) hr
    rw [<- List.length_append,<- e] at z
    refine ⟨A.length,by rw [e]; simp,by rw [z],?_⟩
    rw [z,show l.drop A.length = x by rw [e,List.drop_left]]
  | x :: y :: r,A,ps,_,h,e,hr=>by
    have e:l = A ++ (x ++ [59,32] ++ j0 [59,32] (y :: r)):=e
    have e1:l = A ++ x ++ (59 :: 32 :: j0 [59,32] (y :: r)):=by rw [e]; simp
    have z:=jf7 l ps A.length x A _ 0 0 e1 (h x (List.mem_cons_self ..)) hr
    have s1:semi l (A.length + x.length) = true:=by
      unfold semi
      rw [e1,<- List.length_append,List.drop_left]; simp; omega
    have g1:l.getD (A.length + x.length) 0 = 59:=by rw [e1,<- List.length_append]; exact jfH _ _ _
    have e2:l = (A ++ x ++ [59]) ++ (32 :: j0 [59,32] (y :: r)):=by rw [e1]; simp
    have len2:(A ++ x ++ [59]).length = A.length + x.length + 1:=by simp; omega
    have g2:l.getD (A.length + x.length + 1) 0 = 32:=by rw [e2,<- len2]; exact jfH _ _ _
    have cutx:(l.drop A.length).take (A.length + x.length - A.length) = x:=by
      rw [e1,List.append_assoc,List.drop_left,Nat.add_sub_cancel_left,List.take_left]
    have p1:prun l (A.length + x.length + 1) = (ps ++ [x],A.length + x.length + 2,0):=by
      show Yn l (A.length + x.length) (l.getD (A.length + x.length) 0) (prun l (A.length + x.length)) = _
      rw [g1,z]
      unfold Yn
      rw [if_neg (by decide),if_neg (by decide),if_pos ⟨rfl,s1⟩]
      show (ps ++ [(l.drop A.length).take (A.length + x.length - A.length)],_,_) = _
      rw [cutx]; rfl
    have p2:prun l (A.length + x.length + 2) = (ps ++ [x],A.length + x.length + 2,0):=by
      show Yn l (A.length + x.length + 1) (l.getD (A.length + x.length + 1) 0) (prun l (A.length + x.length + 1)) = _
      rw [g2,p1]
      unfold Yn
      rw [if_neg (by decide),if_neg (by decide),if_neg]
      rintro ⟨_,z2⟩
      rw [<- len2,jhp e2 (by decide)] at z2
      cases z2
    have e3:l = (A ++ x ++ [59,32]) ++ j0 [59,32] (y :: r):=by rw [e1]; simp
    have len3:(A ++ x ++ [59,32]).length = A.length + x.length + 2:=by simp; omega
    obtain ⟨b,hb,q1,q2⟩:=jhn l (y :: r) (A ++ x ++ [59,32]) (ps ++ [x]) (by simp) (fun z hz=>h z (List.mem_cons_of_mem _ hz)) e3 (by rw [len3]; exact p2)
    exact ⟨b,hb,q1,by rw [q2]; simp⟩
theorem jiS {xs:List (List Nat)} (h0:xs ≠ []) (h:∀ x ∈ xs,Piece x):(prun (j0 [59,32] xs) (j0 [59,32] xs).length).2.1 <= (j0 [59,32] xs).length /\
    (prun (j0 [59,32] xs) (j0 [59,32] xs).length).1 ++ [(j0 [59,32] xs).drop (prun (j0 [59,32] xs) (j0 [59,32] xs).length).2.1] = xs:=by
  obtain ⟨b,hb,e,q⟩:=jhn (j0 [59,32] xs) xs [] [] h0 h rfl rfl
  subst e
  exact ⟨hb,q⟩
end L2
set_option Elab.async false
set_option linter.all false
set_option maxRecDepth 100000
namespace L2
open PySem PySem.Spec PyProof.Rows PySem.W Builtin Builtin.Str
noncomputable abbrev wFor:List Nat:=[102,111,114]
noncomputable abbrev wOf:List Nat:=[111,102]
noncomputable abbrev wUp:List Nat:=[117,112]
noncomputable abbrev wTo:List Nat:=[116,111]
noncomputable abbrev jhC:List Nat:=[101,97,99,104]
noncomputable abbrev jaL:List Nat:=[110,111,116,104,105,110,103]
noncomputable abbrev wAny:List Nat:=[97,110,121,40]
noncomputable abbrev wOne:List Nat:=[111,110,101,40]
theorem jcu:Str.ofString " for " = tx [32,102,111,114,32]:=rfl
theorem jhQ:Str.ofString " of " = tx [32,111,102,32]:=rfl
theorem lit_up:Str.ofString "up to " = tx [117,112,32,116,111,32]:=rfl
theorem jiG:Str.ofString " each" = tx [32,101,97,99,104]:=rfl
theorem jfN:Str.ofString "+" = tx [43]:=rfl
theorem jfO:Str.ofString "; " = tx [59,32]:=rfl
theorem jhg:Str.ofString ")" = tx [41]:=rfl
noncomputable def Zk (any:Bool):List Nat:=if any = true then wAny else wOne
theorem jka (any:Bool):jiE any = tx (Zk any):=by cases any <;> rfl
theorem jct (any:Bool):(Zk any).length = 4:=by cases any <;> rfl
noncomputable def numL (m:Int):List Nat:=(Str.ofString (toString m)).cps.toList
theorem QV (m:Int):Str.ofString (toString m) = tx (numL m):=jhA _
theorem jfK:∀ m:Nat,1 <= m->∃ c r,(Nat.toDigits 10 m).map Char.toNat = c :: r /\ c ≠ 48:=by
  intro m
  induction m using Nat.strongRecOn with
  | _ m ih =>
    intro hm
    by_cases h:m < 10
    · rw [Nat.toDigits_of_lt_base h]
      have key:∀ k < 10,1 <= k->(Nat.digitChar k).toNat ≠ 48:=by decide
      exact ⟨_,[],rfl,key m h hm⟩
    · have hlt:m % 10 < 10:=Nat.mod_lt m (by decide)
      have t:Nat.toDigits 10 (m / 10) ++ Nat.toDigits 10 (m % 10) = Nat.toDigits 10 (10 * (m / 10) + m % 10):=Nat.toDigits_append_toDigits (by decide) (by omega) hlt
      rw [Nat.div_add_mod] at t
      obtain ⟨c,r,e,hc⟩:=ih (m / 10) (by omega) (by omega)
      rw [<- t,List.map_append,e]
      exact ⟨c,_,rfl,hc⟩
theorem jdw {m:Int} (h0:0 <= m) (h1:m < 10 ^ 10):1 <= (numL m).length /\ (numL m).length <= 10 /\ (∀ c ∈ numL m,48 <= c /\ c <= 57) /\ ((numL m).length = 1 ∨ ¬ (numL m).take 1 = [48]):=by
  have hl:(numL m).length <= 10:=by
    have:=KT.len_num h0 h1
    rw [QV,Jk] at this; exact this
  obtain ⟨n,rfl⟩:=Int.eq_ofNat_of_zero_le h0
  have e:numL (n:Nat) = (Nat.toDigits 10 n).map Char.toNat:=KIN.signs_num n
  rw [e] at hl ⊢
  refine ⟨?_,hl,?_,?_⟩
  · rw [List.length_map]
    by_cases hn:1 <= n
    · obtain ⟨c,r,e2,_⟩:=jfK n hn
      have:=congrArg List.length e2
      rw [List.length_map] at this
      rw [this]; simp
    · rw [show n = 0 by omega]; decide
  · intro c hc
    obtain ⟨d,hd,rfl⟩:=List.mem_map.mp hc
    have:=Nat.isDigit_of_mem_toDigits (by decide) (by decide) hd
    unfold Char.isDigit at this
    simp only [Bool.and_eq_true,decide_eq_true_eq] at this
    obtain ⟨a,b⟩:=this
    exact ⟨by have:(48:UInt32) <= d.val:=a; exact UInt32.le_iff_toNat_le.mp this,by have:d.val <= (57:UInt32):=b; exact UInt32.le_iff_toNat_le.mp this⟩
  · by_cases hn:1 <= n
    · obtain ⟨c,r,e2,hc⟩:=jfK n hn
      right
      rw [e2]
      intro z
      exact hc (List.cons.inj (show [c] = [48] from z)).1
    · left; rw [show n = 0 by omega]; decide
theorem jkd {l:Nat} (h:l < 10):(numL (l:Int)).length = 1:=by
  have e:numL (l:Nat) = (Nat.toDigits 10 l).map Char.toNat:=KIN.signs_num l
  rw [e,Nat.toDigits_of_lt_base h]; rfl
noncomputable def bun (b:Nat) (ks:List Nat):Nat:=ks.foldl (fun r k=>r ||| 2 ^ k) b
noncomputable def once:Nat->List Nat->Bool
  | _,[]=>true
  | b,k :: ks=>decide (k < 6) && !decide (b &&& 2 ^ k = 2 ^ k) && once (b ||| 2 ^ k) ks
noncomputable def jbc (n:List Nat):Prop:=1 <= n.length /\ n.length <= 8 /\ ∀ c ∈ n,97 <= c /\ c <= 122
noncomputable def jaR (ns:List (List Nat)) (kd:List Nat->Nat->Prop) (b:Nat) (pl:List Nat):Prop :=
  (∃ js:List Nat,js ≠ [] /\ js.length <= 6 /\ (∀ j ∈ js,j < ns.length) /\ once 0 js = true /\ bun 0 js = b /\ pl = j0 [43] (js.map fun j=>ns.getD j [])) ∨ ∃ k,kd k b /\ jbc k /\ pl = 61 :: k
noncomputable def okc (c:Nat):Prop:=43 <= c /\ c <= 122 /\ c ≠ 59
theorem z7 {sep:List Nat} {c:Nat}:∀ {ps:List (List Nat)},c ∈ j0 sep ps->(∃ p ∈ ps,c ∈ p) ∨ c ∈ sep
  | [],h=>absurd h (by simp [j0])
  | [x],h=>.inl ⟨x,List.mem_cons_self ..,h⟩
  | x :: y :: r,h=>by
    have h:c ∈ x ++ sep ++ j0 sep (y :: r):=h
    rcases List.mem_append.mp h with h | h
    · rcases List.mem_append.mp h with h | h
      · exact .inl ⟨x,List.mem_cons_self ..,h⟩
      · exact .inr h
    · rcases z7 h with ⟨p,hp,h⟩ | h
      · exact .inl ⟨p,List.mem_cons_of_mem _ hp,h⟩
      · exact .inr h
theorem jhc {sep:List Nat} {B:Nat}:∀ {ps:List (List Nat)},(∀ p ∈ ps,p.length <= B)->ps ≠ []->(j0 sep ps).length + sep.length <= ps.length * (B + sep.length)
  | [],_,h=>absurd rfl h
  | [x],h,_=>by
    have:=h x (List.mem_cons_self ..)
    show x.length + sep.length <= 1 * (B + sep.length)
    omega
  | x :: y :: r,h,_=>by
    have a:=h x (List.mem_cons_self ..)
    have b:=jhc (sep:=sep) (ps:=y :: r) (fun p hp=>h p (List.mem_cons_of_mem _ hp)) (by simp)
    show (x ++ sep ++ j0 sep (y :: r)).length + sep.length <= ((y :: r).length + 1) * (B + sep.length)
    rw [List.length_append,List.length_append,Nat.succ_mul]
    omega
theorem getD_mem {ns:List (List Nat)} {j:Nat} (h:j < ns.length):ns.getD j [] ∈ ns:=by
  rw [List.getD_eq_getElem?_getD,List.getElem?_eq_getElem h]; exact List.getElem_mem h
section
variable {ns:List (List Nat)} {kd:List Nat->Nat->Prop} (hn:∀ n ∈ ns,jbc n)
include hn
theorem Zw {b:Nat} {pl:List Nat} (h:jaR ns kd b pl):(∀ c ∈ pl,okc c) /\ 1 <= pl.length /\ pl.length <= 53:=by
  rcases h with ⟨js,h0,h6,hj,_,_,rfl⟩ | ⟨k,_,⟨k1,k2,k3⟩,rfl⟩
  · have hm:∀ p ∈ js.map (fun j=>ns.getD j []),jbc p:=fun p hp=>by
      obtain ⟨j,hjm,rfl⟩:=List.mem_map.mp hp
      exact hn _ (getD_mem (hj j hjm))
    refine ⟨fun c hc=>?_,?_,?_⟩
    · rcases z7 hc with ⟨p,hp,hcp⟩ | hc
      · have:=(hm p hp).2.2 c hcp
        exact ⟨by omega,this.2,by omega⟩
      · rw [List.mem_singleton.mp hc]; unfold okc; omega
    · cases js with
      | nil=>exact absurd rfl h0
      | cons j r =>
        have n1:=(hm _ (List.mem_cons_self ..)).1
        cases r with
        | nil=>exact n1
        | cons j2 r =>
          show 1 <= (ns.getD j [] ++ [43] ++ j0 [43] ((j2 :: r).map fun j=>ns.getD j [])).length
          rw [List.length_append,List.length_append]
          simp only [List.length_cons,List.length_nil]
          omega
    · have:=jhc (sep:=[43]) (B:=8) (fun p hp=>(hm p hp).2.1) (fun z=>h0 (List.map_eq_nil_iff.mp z))
      rw [List.length_map] at this
      have e:js.length * (8 + [43].length) <= 6 * 9:=Nat.mul_le_mul_right 9 h6
      have e1:([43]:List Nat).length = 1:=rfl
      omega
  · refine ⟨fun c hc=>?_,by simp,by simp; omega⟩
    rcases List.mem_cons.mp hc with rfl | hc
    · unfold okc; omega
    · have:=k3 c hc
      exact ⟨by omega,this.2,by omega⟩
end
noncomputable def je7 (ns:List (List Nat)) (kd:List Nat->Nat->Prop):Form->List (List Nat)->Prop
  | .none,ws=>ws = [jaL]
  | .only b m,ws=>∃ pl,jaR ns kd b pl /\ ws = [pl,wFor,numL m]
  | .some k l m,ws=>∃ pl,jaR ns kd k pl /\ ws = [numL (l:Nat),wOf,pl,wFor,numL m]
  | .most k l m,ws=>∃ pl,jaR ns kd k pl /\ ws = [wUp,wTo,numL (l:Nat),wOf,pl,wFor,numL m,jhC]
noncomputable def Yk (ns:List (List Nat)) (kd:List Nat->Nat->Prop):Nat->Tr->List Nat->Prop
  | 0,_,_=>False
  | _ + 1,.leaf f,x=>qP f /\ ∃ ws,je7 ns kd f ws /\ x = j0 [32] ws
  | d + 1,.node any ts,x=>∃ xs,All2 (fun y t=>Yk ns kd d t y) xs ts /\ x = Zk any ++ j0 [59,32] xs ++ [41]
theorem zT {w:List Nat} (h:w.all fun c=>decide (43 <= c) && decide (c <= 122) && !decide (c = 59)):∀ c ∈ w,okc c:=fun c hc=>by
  have:=List.all_eq_true.mp h c hc
  simp at this
  exact ⟨this.1.1,this.1.2,this.2⟩
theorem jdB {m:Int} (h0:0 <= m) (h1:m < 10 ^ 10):∀ c ∈ numL m,okc c:=fun c hc=>by
  have:=(jdw h0 h1).2.2.1 c hc
  exact ⟨by omega,by omega,by omega⟩
theorem jja {ns:List (List Nat)} {kd:List Nat->Nat->Prop} (hn:∀ n ∈ ns,jbc n) {f:Form} {ws:List (List Nat)} (ok:qP f) (h:je7 ns kd f ws):(∀ w ∈ ws,∀ c ∈ w,okc c) /\ (j0 [32] ws).length <= 84 /\ ws ≠ []:=by
  cases f with
  | none =>
    have h:ws = [jaL]:=h
    subst h
    refine ⟨fun w hw=>?_,by decide,by simp⟩
    rw [List.mem_singleton.mp hw]; exact zT (by decide)
  | only b m =>
    obtain ⟨pl,hp,rfl⟩:=h
    obtain ⟨a1,a2,a3⟩:=Zw hn hp
    have lo:=ok.2.2.lo
    have hi:=ok.2.2.hi
    have nm:=jdw lo (by omega)
    refine ⟨fun w hw=>?_,?_,by simp⟩
    · simp only [List.mem_cons,List.not_mem_nil,or_false] at hw
      rcases hw with rfl | rfl | rfl
      · exact a1
      · exact zT (by decide)
      · exact jdB lo (by omega)
    · simp [j0]; omega
  | some k l m =>
    obtain ⟨pl,hp,rfl⟩:=h
    obtain ⟨a1,a2,a3⟩:=Zw hn hp
    have lo:=ok.2.2.2.2.lo
    have hi:=ok.2.2.2.2.hi
    have l6:=ok.2.2.2.1
    have nm:=jdw lo (by omega)
    have nl:=jkd (l:=l) (by omega)
    refine ⟨fun w hw=>?_,?_,by simp⟩
    · simp only [List.mem_cons,List.not_mem_nil,or_false] at hw
      rcases hw with rfl | rfl | rfl | rfl | rfl
      · exact jdB (by omega) (by omega)
      · exact zT (by decide)
      · exact a1
      · exact zT (by decide)
      · exact jdB lo (by omega)
    · simp [j0]; omega
  | most k l m =>
    obtain ⟨pl,hp,rfl⟩:=h
    obtain ⟨a1,a2,a3⟩:=Zw hn hp
    have lo:=ok.2.2.2.2.lo
    have hi:=ok.2.2.2.2.hi
    have l6:=ok.2.2.2.1
    have nm:=jdw lo (by omega)
    have nl:=jkd (l:=l) (by omega)
    refine ⟨fun w hw=>?_,?_,by simp⟩
    · simp only [List.mem_cons,List.not_mem_nil,or_false] at hw
      rcases hw with rfl | rfl | rfl | rfl | rfl | rfl | rfl | rfl
      · exact zT (by decide)
      · exact zT (by decide)
      · exact jdB (by omega) (by omega)
      · exact zT (by decide)
      · exact a1
      · exact zT (by decide)
      · exact jdB lo (by omega)
      · exact zT (by decide)
    · simp [j0]; omega
theorem jfL {ws:List (List Nat)} (h:∀ w ∈ ws,∀ c ∈ w,okc c):∀ c ∈ j0 [32] ws,c ≠ 40 /\ c ≠ 41 /\ c ≠ 59 /\ c < 128:=fun c hc=>by
  rcases z7 hc with ⟨w,hw,hcw⟩ | hc
  · have:=h w hw c hcw
    unfold okc at this; omega
  · rw [List.mem_singleton.mp hc]; omega
theorem jjs {ws:List (List Nat)} (h:∀ w ∈ ws,∀ c ∈ w,okc c) (h0:ws ≠ []):Txt.split (tx (j0 [32] ws)) (tx [32]) = ws.map tx :=
  jiZ h0 fun w hw hc=>by have:=h w hw 32 hc; unfold okc at this; omega
theorem jcV {xs:List (List Nat)} {ts:List Tr} (h:All2 (fun y t=>y.length + 2 <= 86 * jW t) xs ts):(j0 [59,32] xs).length <= 86 * jR ts:=by
  have key:∀ (ts:List Tr) (xs:List (List Nat)),All2 (fun y t=>y.length + 2 <= 86 * jW t) xs ts->xs ≠ []->(j0 [59,32] xs).length + 2 <= 86 * jR ts:=by
    intro ts
    induction ts with
    | nil=>intro xs h h0; exact absurd (List.length_eq_zero_iff.mp h.1) h0
    | cons t ts ih =>
      intro xs h h0
      cases xs with
      | nil=>exact absurd rfl h0
      | cons x r =>
        have a:=h.2 0 x t rfl rfl
        have tl:All2 (fun y t=>y.length + 2 <= 86 * jW t) r ts:=⟨Nat.succ.inj h.1,fun i y u e1 e2=>h.2 (i + 1) y u e1 e2⟩
        show _ <= 86 * (jW t + jR ts)
        cases r with
        | nil=>show x.length + 2 <= _; omega
        | cons y r =>
          have b:=ih _ tl (by simp)
          show (x ++ [59,32] ++ j0 [59,32] (y :: r)).length + 2 <= _
          rw [List.length_append,List.length_append]
          simp only [List.length_cons,List.length_nil] at b ⊢
          omega
  cases xs with
  | nil=>exact Nat.zero_le _
  | cons x r=>have:=key ts _ h (by simp); omega
theorem yc {ns:List (List Nat)} {kd:List Nat->Nat->Prop} (hn:∀ n ∈ ns,jbc n):∀ (d:Nat) (t:Tr) (x:List Nat),Yk ns kd d t x->Piece x /\ (∀ c ∈ x,c < 128) /\ x.length + 2 <= 86 * jW t
  | 0,_,_,h=>h.elim
  | d + 1,.leaf f,x,h=>by
    obtain ⟨ok,ws,hw,rfl⟩:=h
    obtain ⟨a,b,_⟩:=jja hn ok hw
    have s:=jfL a
    refine ⟨jf8 _ 0 fun c hc=>⟨(s c hc).1,(s c hc).2.1,(s c hc).2.2.1⟩,fun c hc=>(s c hc).2.2.2,?_⟩
    show _ <= 86 * 1
    omega
  | d + 1,.node any ts,x,h=>by
    obtain ⟨xs,hx,rfl⟩:=h
    have ih:∀ y ∈ xs,∃ t,Yk ns kd d t y:=fun y hy=>by
      obtain ⟨i,hi,rfl⟩:=List.getElem_of_mem hy
      exact ⟨_,hx.2 i _ _ (List.getElem?_eq_getElem hi) (List.getElem?_eq_getElem (by rw [<- hx.1]; exact hi))⟩
    have pc:∀ y ∈ xs,Piece y:=fun y hy=>by
      obtain ⟨t,ht⟩:=ih y hy
      exact (yc hn d t y ht).1
    have hh:∀ w,quiet w (Zk any) = some (w + 1):=fun w=>by cases any <;> simp [Zk,quiet]
    refine ⟨?_,fun c hc=>?_,?_⟩
    · show quiet 0 (Zk any ++ j0 [59,32] xs ++ [41]) = some 0
      rw [YW,YW,hh]
      show ((quiet 1 (j0 [59,32] xs)).bind _) = _
      rw [jf9 xs pc]; rfl
    · rcases List.mem_append.mp hc with hc | hc
      · rcases List.mem_append.mp hc with hc | hc
        · have:∀ (b:Bool),∀ c ∈ Zk b,c < 128:=by decide
          exact this any c hc
        · rcases z7 hc with ⟨p,hp,hcp⟩ | hc
          · obtain ⟨t,ht⟩:=ih p hp
            exact (yc hn d t p ht).2.1 c hcp
          · simp only [List.mem_cons,List.not_mem_nil,or_false] at hc; omega
      · rw [List.mem_singleton.mp hc]; omega
    · have:=jcV (xs:=xs) (ts:=ts) ⟨hx.1,fun i y t e1 e2=>(yc hn d t y (hx.2 i y t e1 e2)).2.2⟩
      rw [List.length_append,List.length_append,jct]
      show _ <= 86 * (1 + jR ts)
      simp only [List.length_cons,List.length_nil]
      omega
theorem jjS {ns:List (List Nat)} {kd:List Nat->Nat->Prop} (hn:∀ n ∈ ns,jbc n) {d:Nat} {t:Tr} {x:List Nat} (h:Yk ns kd d t x) (few:jW t <= 24):x.length <= 2000:=by
  cases d with
  | zero=>exact h.elim
  | succ d =>
    cases t with
    | leaf f =>
      have:=(yc hn _ _ _ h).2.2
      have e:jW (.leaf f) = 1:=rfl
      rw [e] at this; omega
    | node any ts =>
      obtain ⟨xs,hx,rfl⟩:=h
      have few:1 + jR ts <= 24:=few
      have:=jcV (xs:=xs) (ts:=ts) ⟨hx.1,fun i y t e1 e2=>(yc hn d t y (hx.2 i y t e1 e2)).2.2⟩
      rw [List.length_append,List.length_append,jct]
      simp only [List.length_cons,List.length_nil]
      omega
theorem jeE:∀ b < 64,once 0 (things b) = true /\ bun 0 (things b) = b /\ (1 <= b->things b ≠ []):=by decide +kernel
section
variable {ns:List (List Nat)} {kd:List Nat->Nat->Prop}
theorem jca {b:Nat} (h1:1 <= b) (h2:b <= 63) (hm:ns.length <= 6) (hs:Sub b ns.length):∃ pl,ql (ns.map tx) b = tx pl /\ jaR ns kd b pl:=by
  obtain ⟨a1,a2,a3⟩:=jeE b (by omega)
  have hk:∀ j ∈ things b,j < ns.length:=Z0 ns.length (by omega) b (by omega) hs
  refine ⟨_,?_,.inl ⟨things b,a3 h1,yU b,hk,a1,a2,rfl⟩⟩
  unfold ql
  rw [jfN,<- je9,List.map_map]
  congr 1
  refine List.map_congr_left fun j hj=>?_
  show (ns.map tx).getD j Str.empty = tx (ns.getD j [])
  rw [List.getD_eq_getElem?_getD,List.getElem?_map,List.getElem?_eq_getElem (hk j hj),List.getD_eq_getElem?_getD,List.getElem?_eq_getElem (hk j hj)]; rfl
theorem jjo {f:Form} (ok:qP f) (hm:ns.length <= 6) (hs:Sub (qL f) ns.length):∃ ws,je7 ns kd f ws /\ jfD (ns.map tx) f = tx (j0 [32] ws):=by
  cases f with
  | none=>exact ⟨_,rfl,rfl⟩
  | only b m =>
    obtain ⟨pl,e,hp⟩:=jca (kd:=kd) ok.1 ok.2.1 hm hs
    refine ⟨_,⟨pl,hp,rfl⟩,?_⟩
    show ql (ns.map tx) b ++ Str.ofString " for " ++ Str.ofString (toString m) = _
    rw [e,jcu,QV,Jt,Jt]
    congr 1
    simp [j0]
  | some k l m =>
    obtain ⟨pl,e,hp⟩:=jca (kd:=kd) ok.1 ok.2.1 hm hs
    refine ⟨_,⟨pl,hp,rfl⟩,?_⟩
    show Str.ofString (toString ((l:Nat):Int)) ++ Str.ofString " of " ++ ql (ns.map tx) k ++ Str.ofString " for " ++ Str.ofString (toString m) = _
    rw [e,jcu,jhQ,QV,QV,Jt,Jt,Jt,Jt]
    congr 1
    simp [j0]
  | most k l m =>
    obtain ⟨pl,e,hp⟩:=jca (kd:=kd) ok.1 ok.2.1 hm hs
    refine ⟨_,⟨pl,hp,rfl⟩,?_⟩
    show Str.ofString "up to " ++ Str.ofString (toString ((l:Nat):Int)) ++ Str.ofString " of " ++ ql (ns.map tx) k ++ Str.ofString " for " ++ Str.ofString (toString m) ++ Str.ofString " each" = _
    rw [e,jcu,jhQ,lit_up,jiG,QV,QV,Jt,Jt,Jt,Jt,Jt,Jt]
    congr 1
    simp [j0]
theorem jeA {α β:Type} {R:α->β->Prop}:∀ (ys:List β),(∀ y ∈ ys,∃ x,R x y)->∃ xs,All2 R xs ys
  | [],_=>⟨[],All2.nil⟩
  | y :: ys,h=>by
    obtain ⟨x,hx⟩:=h y (List.mem_cons_self ..)
    obtain ⟨xs,hxs⟩:=jeA ys fun z hz=>h z (List.mem_cons_of_mem _ hz)
    exact ⟨[x] ++ xs,(All2.one hx).append hxs⟩
theorem text_canon (hm:ns.length <= 6):∀ (d:Nat) (t:Tr),j9 t <= d->okT t->Sub (Jb t) ns.length->∃ x,Yk ns kd d t x /\ qM (ns.map tx) t = tx x
  | 0,t,h,_,_=>absurd (jd0 t) (by omega)
  | d + 1,.leaf f,_,ok,hs=>by
    obtain ⟨ws,h1,h2⟩:=jjo (kd:=kd) (jb1.mp ok) hm hs
    exact ⟨_,⟨jb1.mp ok,ws,h1,rfl⟩,by rw [ZG]; exact h2⟩
  | d + 1,.node any ts,h,ok,hs=>by
    have h:1 + j7 ts <= d + 1:=h
    have hs:Sub (Jg ts) ns.length:=hs
    have okl:=za (yD.mp ok)
    obtain ⟨xs,hx⟩:=jeA (R:=fun y t=>Yk ns kd d t y /\ qM (ns.map tx) t = tx y) ts fun t ht=>by
      have:=yW ht
      exact text_canon hm d t (by omega) (okl t ht) (hs.mem t ht)
    refine ⟨_,⟨xs,hx.imp fun _ _ _ z=>z.1,rfl⟩,?_⟩
    have e:ts.map (qM (ns.map tx)) = xs.map tx:=by
      refine List.ext_getElem (by rw [List.length_map,List.length_map,hx.1]) fun i h1 h2=>?_
      rw [List.length_map] at h1 h2
      rw [List.getElem_map,List.getElem_map]
      exact (hx.2 i _ _ (List.getElem?_eq_getElem h2) (List.getElem?_eq_getElem h1)).2
    rw [ZJ,e,jfO,je9,jka,jhg,Jt,Jt]
end
theorem ji0 (any:Bool) (x:List Nat):Txt.startswith (tx (Zk any ++ x ++ [41])) (tx wAny) = any /\ Txt.startswith (tx (Zk any ++ x ++ [41])) (tx wOne) = !any:=by
  rw [z9,z9]
  cases any <;> simp [Zk]
theorem ji1 {x:List Nat} (h:∀ c ∈ x,c ≠ 40):Txt.startswith (tx x) (tx wAny) = false /\ Txt.startswith (tx x) (tx wOne) = false:=by
  have key:∀ w:List Nat,40 ∈ w->Txt.startswith (tx x) (tx w) = false:=fun w hw=>by
    rw [z9,Bool.eq_false_iff]
    intro z
    have z:=beq_iff_eq.mp z
    rw [<- z] at hw
    exact h 40 (List.mem_of_mem_take hw) rfl
  exact ⟨key _ (by decide),key _ (by decide)⟩
theorem jif {ns:List (List Nat)} {js:List Nat} (hn:∀ n ∈ ns,jbc n) (h0:js ≠ []) (hj:∀ j ∈ js,j < ns.length):Txt.startswith (tx (j0 [43] (js.map fun j=>ns.getD j []))) (tx [61]) = false:=by
  rw [z9,Bool.eq_false_iff]
  intro z
  have z:=beq_iff_eq.mp z
  have hm:61 ∈ j0 [43] (js.map fun j=>ns.getD j []):=List.mem_of_mem_take (by rw [z]; exact List.mem_cons_self ..)
  rcases z7 hm with ⟨p,hp,hc⟩ | hc
  · obtain ⟨j,hjm,rfl⟩:=List.mem_map.mp hp
    have:=(hn _ (getD_mem (hj j hjm))).2.2 61 hc
    omega
  · exact absurd (List.mem_singleton.mp hc) (by decide)
theorem jiU {ns:List (List Nat)} {js:List Nat} (hn:∀ n ∈ ns,jbc n) (h0:js ≠ []) (hj:∀ j ∈ js,j < ns.length):Txt.split (tx (j0 [43] (js.map fun j=>ns.getD j []))) (tx [43]) = (js.map fun j=>ns.getD j []).map tx :=
  jiZ (fun z=>h0 (List.map_eq_nil_iff.mp z)) fun p hp hc=>by
    obtain ⟨j,hjm,rfl⟩:=List.mem_map.mp hp
    have:=(hn _ (getD_mem (hj j hjm))).2.2 43 hc
    omega
end L2
set_option Elab.async false
set_option linter.all false
set_option maxRecDepth 100000
set_option maxHeartbeats 4000000
namespace My
open PySem PySem.Spec PyProof.Rows L2 GM
theorem lst0 {T:Type} {P:List T->Prop} {us:List T} (h:us.length = 0) (f:P []):P us:=by cases us with | nil=>exact f | cons a us=>cases h
theorem lst1 {T:Type} {P:List T->Prop} {us:List T} (h:us.length = 1) (f:∀ a,P [a]):P us:=by cases us with | nil=>cases h | cons a us=>exact lst0 (P:=fun l=>P (a :: l)) (Nat.succ.inj h) (f a)
theorem lst2 {T:Type} {P:List T->Prop} {us:List T} (h:us.length = 2) (f:∀ a b,P [a,b]):P us:=by cases us with | nil=>cases h | cons a us=>exact lst1 (P:=fun l=>P (a :: l)) (Nat.succ.inj h) (f a)
theorem lst3 {T:Type} {P:List T->Prop} {us:List T} (h:us.length = 3) (f:∀ a b c,P [a,b,c]):P us:=by cases us with | nil=>cases h | cons a us=>exact lst2 (P:=fun l=>P (a :: l)) (Nat.succ.inj h) (f a)
theorem lst4 {T:Type} {P:List T->Prop} {us:List T} (h:us.length = 4) (f:∀ a b c d,P [a,b,c,d]):P us:=by cases us with | nil=>cases h | cons a us=>exact lst3 (P:=fun l=>P (a :: l)) (Nat.succ.inj h) (f a)
theorem bnd1 {K:PySem.W.Frag} {x qual:Str} {st:Stmt} {f:Addr} {fd:FuncData} {p0:Str} (F:Fun K x qual st f fd) (h:∀ (kV doc pm:Value) (an:Option Addr) (cdv ct:Value) (a:Value),bindArgs (PySem.W.fnOf x qual (qu st) (JV st) (jw st) .none kV doc pm an cdv ct) ⟨[a],[]⟩ = pure ([p0].zip [a])):Binds K fd [p0] [] :=
  F.binds fun kV doc pm an cdv ct us hl=>lst1 (P:=fun us=>bindArgs (PySem.W.fnOf x qual (qu st) (JV st) (jw st) .none kV doc pm an cdv ct) ⟨us,[]⟩ = pure ([p0].zip us)) hl (h kV doc pm an cdv ct)
theorem bnd2 {K:PySem.W.Frag} {x qual:Str} {st:Stmt} {f:Addr} {fd:FuncData} {p0 p1:Str} (F:Fun K x qual st f fd) (h:∀ (kV doc pm:Value) (an:Option Addr) (cdv ct:Value) (a b:Value),bindArgs (PySem.W.fnOf x qual (qu st) (JV st) (jw st) .none kV doc pm an cdv ct) ⟨[a,b],[]⟩ = pure ([p0,p1].zip [a,b])):Binds K fd [p0,p1] [] :=
  F.binds fun kV doc pm an cdv ct us hl=>lst2 (P:=fun us=>bindArgs (PySem.W.fnOf x qual (qu st) (JV st) (jw st) .none kV doc pm an cdv ct) ⟨us,[]⟩ = pure ([p0,p1].zip us)) hl (h kV doc pm an cdv ct)
theorem bnd3 {K:PySem.W.Frag} {x qual:Str} {st:Stmt} {f:Addr} {fd:FuncData} {p0 p1 p2:Str} (F:Fun K x qual st f fd) (h:∀ (kV doc pm:Value) (an:Option Addr) (cdv ct:Value) (a b c:Value),bindArgs (PySem.W.fnOf x qual (qu st) (JV st) (jw st) .none kV doc pm an cdv ct) ⟨[a,b,c],[]⟩ = pure ([p0,p1,p2].zip [a,b,c])):Binds K fd [p0,p1,p2] [] :=
  F.binds fun kV doc pm an cdv ct us hl=>lst3 (P:=fun us=>bindArgs (PySem.W.fnOf x qual (qu st) (JV st) (jw st) .none kV doc pm an cdv ct) ⟨us,[]⟩ = pure ([p0,p1,p2].zip us)) hl (h kV doc pm an cdv ct)
theorem bnd4 {K:PySem.W.Frag} {x qual:Str} {st:Stmt} {f:Addr} {fd:FuncData} {p0 p1 p2 p3:Str} (F:Fun K x qual st f fd) (h:∀ (kV doc pm:Value) (an:Option Addr) (cdv ct:Value) (a b c d:Value),bindArgs (PySem.W.fnOf x qual (qu st) (JV st) (jw st) .none kV doc pm an cdv ct) ⟨[a,b,c,d],[]⟩ = pure ([p0,p1,p2,p3].zip [a,b,c,d])):Binds K fd [p0,p1,p2,p3] [] :=
  F.binds fun kV doc pm an cdv ct us hl=>lst4 (P:=fun us=>bindArgs (PySem.W.fnOf x qual (qu st) (JV st) (jw st) .none kV doc pm an cdv ct) ⟨us,[]⟩ = pure ([p0,p1,p2,p3].zip us)) hl (h kV doc pm an cdv ct)
noncomputable def top (i:Nat):Stmt:=PySem.Challenge.pw_gavelhall_k34_read_bids.main.body.getD i (.Pass ⟨0,0,0,0⟩)
noncomputable abbrev ja5:Stmt:=top 8
noncomputable abbrev jaa:Stmt:=top 9
noncomputable abbrev Z9:Stmt:=top 11
noncomputable abbrev zq:Stmt:=top 12
noncomputable abbrev jch:Stmt:=top 13
noncomputable abbrev jek:Stmt:=top 14
noncomputable abbrev zW:Stmt:=top 15
noncomputable abbrev Y0:Stmt:=top 24
noncomputable abbrev Yy:Stmt:=top 25
noncomputable abbrev YZ:Stmt:=top 26
noncomputable abbrev Zx:Stmt:=top 27
noncomputable abbrev Q0:Stmt:=top 28
noncomputable abbrev Q4:Stmt:=top 29
noncomputable abbrev qx:Stmt:=top 30
noncomputable abbrev YD:Stmt:=top 31
noncomputable abbrev Yx:Stmt:=top 32
noncomputable abbrev Yz:Stmt:=top 33
noncomputable abbrev yL:Stmt:=top 34
noncomputable abbrev Q3:Stmt:=top 35
noncomputable abbrev ja6:Stmt:=top 37
noncomputable abbrev jab:Stmt:=top 38
noncomputable abbrev zU:Stmt:=top 39
noncomputable abbrev yE:Stmt:=top 40
noncomputable abbrev jdc:Stmt:=top 41
noncomputable abbrev yO:Stmt:=top 42
noncomputable abbrev zV:Stmt:=top 43
noncomputable abbrev YC:Stmt:=top 44
noncomputable abbrev zK:Stmt:=top 45
noncomputable abbrev YB:Stmt:=top 46
noncomputable abbrev ZW:Stmt:=top 48
noncomputable abbrev jga:Stmt:=top 51
noncomputable abbrev jge:Stmt:=top 52
noncomputable abbrev jcy:Stmt:=top 53
noncomputable abbrev jcx:Stmt:=top 54
noncomputable abbrev jda:Stmt:=top 55
noncomputable abbrev jgd:Stmt:=top 56
noncomputable abbrev jcf:Stmt:=top 57
noncomputable abbrev jcz:Stmt:=top 58
noncomputable abbrev jcg:Stmt:=top 59
noncomputable abbrev jgb:Stmt:=top 60
noncomputable abbrev jdH:Stmt:=top 61
noncomputable abbrev jei:Stmt:=top 62
noncomputable abbrev jdb:Stmt:=top 63
noncomputable abbrev YX:Stmt:=top 64
noncomputable abbrev jaz:Stmt:=top 65
noncomputable abbrev jay:Stmt:=top 66
noncomputable abbrev ja4:Stmt:=top 67
noncomputable abbrev QX:Stmt:=top 68
noncomputable abbrev zf:Stmt:=top 69
noncomputable abbrev jej:Stmt:=top 70
noncomputable abbrev ja3:Stmt:=top 71
noncomputable abbrev jgc:Stmt:=top 72
noncomputable abbrev Yp:Stmt:=top 73
noncomputable abbrev jcO:Stmt:=top 74
noncomputable abbrev Yr:Stmt:=(Jo (top 17)).getD 0 (.Pass ⟨0,0,0,0⟩)
noncomputable abbrev zg:Stmt:=(Jo (top 17)).getD 1 (.Pass ⟨0,0,0,0⟩)
noncomputable abbrev zj:Stmt:=(Jo (top 17)).getD 2 (.Pass ⟨0,0,0,0⟩)
noncomputable abbrev Yq:Stmt:=(Jo (top 17)).getD 3 (.Pass ⟨0,0,0,0⟩)
noncomputable abbrev zm:Stmt:=(Jo (top 17)).getD 4 (.Pass ⟨0,0,0,0⟩)
noncomputable abbrev Ys:Stmt:=(Jo (top 18)).getD 0 (.Pass ⟨0,0,0,0⟩)
noncomputable abbrev Qf:Stmt:=(Jo (top 18)).getD 1 (.Pass ⟨0,0,0,0⟩)
noncomputable abbrev yJ:Stmt:=(Jo (top 18)).getD 2 (.Pass ⟨0,0,0,0⟩)
noncomputable abbrev Yt:Stmt:=(Jo (top 18)).getD 3 (.Pass ⟨0,0,0,0⟩)
noncomputable abbrev yr:Stmt:=(Jo (top 19)).getD 0 (.Pass ⟨0,0,0,0⟩)
noncomputable abbrev qH:Stmt:=(Jo (top 19)).getD 1 (.Pass ⟨0,0,0,0⟩)
noncomputable abbrev Qx:Stmt:=(Jo (top 19)).getD 2 (.Pass ⟨0,0,0,0⟩)
noncomputable abbrev yq:Stmt:=(Jo (top 19)).getD 3 (.Pass ⟨0,0,0,0⟩)
noncomputable abbrev Yv:Stmt:=(Jo (top 20)).getD 0 (.Pass ⟨0,0,0,0⟩)
noncomputable abbrev Qg:Stmt:=(Jo (top 20)).getD 1 (.Pass ⟨0,0,0,0⟩)
noncomputable abbrev yK:Stmt:=(Jo (top 20)).getD 2 (.Pass ⟨0,0,0,0⟩)
noncomputable abbrev Yw:Stmt:=(Jo (top 20)).getD 3 (.Pass ⟨0,0,0,0⟩)
noncomputable abbrev QZ:Stmt:=(Jo (top 21)).getD 0 (.Pass ⟨0,0,0,0⟩)
noncomputable abbrev Qu:Stmt:=(Jo (top 21)).getD 1 (.Pass ⟨0,0,0,0⟩)
noncomputable abbrev Qw:Stmt:=(Jo (top 21)).getD 2 (.Pass ⟨0,0,0,0⟩)
noncomputable abbrev qZ:Stmt:=(Jo (top 21)).getD 3 (.Pass ⟨0,0,0,0⟩)
noncomputable abbrev yo:Stmt:=(Jo (top 22)).getD 0 (.Pass ⟨0,0,0,0⟩)
noncomputable abbrev yH:Stmt:=(Jo (top 22)).getD 1 (.Pass ⟨0,0,0,0⟩)
noncomputable abbrev yp:Stmt:=(Jo (top 23)).getD 0 (.Pass ⟨0,0,0,0⟩)
noncomputable abbrev yI:Stmt:=(Jo (top 23)).getD 1 (.Pass ⟨0,0,0,0⟩)
noncomputable abbrev yN:Stmt:=(Jo (top 49)).getD 0 (.Pass ⟨0,0,0,0⟩)
noncomputable abbrev jgf:Stmt:=(Jo (top 49)).getD 1 (.Pass ⟨0,0,0,0⟩)
noncomputable abbrev zJ:Stmt:=(Jo (top 49)).getD 2 (.Pass ⟨0,0,0,0⟩)
noncomputable abbrev yt:Stmt:=(Jo (top 49)).getD 3 (.Pass ⟨0,0,0,0⟩)
noncomputable abbrev Yu:Stmt:=(Jo (top 49)).getD 4 (.Pass ⟨0,0,0,0⟩)
theorem jgP:jL ["thing"] ["thing"] (jw ja5):=⟨rfl,rfl,rfl,by decide +kernel,rfl,by decide +kernel,by decide +kernel⟩
theorem jgo:jL ["thing", "least", "most"] ["thing", "least", "most"] (jw jaa):=⟨rfl,rfl,rfl,by decide +kernel,rfl,by decide +kernel,by decide +kernel⟩
theorem YF:jL ["numbers", "bundle", "number"] ["numbers"] (jw Z9):=⟨rfl,rfl,rfl,by decide +kernel,rfl,by decide +kernel,by decide +kernel⟩
theorem jgq:jL ["bundle"] ["bundle"] (jw zq):=⟨rfl,rfl,rfl,by decide +kernel,rfl,by decide +kernel,by decide +kernel⟩
theorem jh8:jL ["bundle"] ["bundle"] (jw jch):=⟨rfl,rfl,rfl,by decide +kernel,rfl,by decide +kernel,by decide +kernel⟩
theorem jjL:jL ["one", "other"] ["one", "other"] (jw jek):=⟨rfl,rfl,rfl,by decide +kernel,rfl,by decide +kernel,by decide +kernel⟩
theorem zr:jL ["bundle", "parts", "number"] ["bundle"] (jw zW):=⟨rfl,rfl,rfl,by decide +kernel,rfl,by decide +kernel,by decide +kernel⟩
theorem jdJ:jL ["bundle"] ["bundle"] (jw Y0):=⟨rfl,rfl,rfl,by decide +kernel,rfl,by decide +kernel,by decide +kernel⟩
theorem jdi:jL ["number"] ["number"] (jw Yy):=⟨rfl,rfl,rfl,by decide +kernel,rfl,by decide +kernel,by decide +kernel⟩
theorem jdI:jL ["amount"] ["amount"] (jw YZ):=⟨rfl,rfl,rfl,by decide +kernel,rfl,by decide +kernel,by decide +kernel⟩
theorem jbu:jL ["bids", "bid"] ["bids"] (jw Zx):=⟨rfl,rfl,rfl,by decide +kernel,rfl,by decide +kernel,by decide +kernel⟩
theorem jeY:jL ["bids"] ["bids"] (jw Q0):=⟨rfl,rfl,rfl,by decide +kernel,rfl,by decide +kernel,by decide +kernel⟩
theorem je4:jL ["bids"] ["bids"] (jw Q4):=⟨rfl,rfl,rfl,by decide +kernel,rfl,by decide +kernel,by decide +kernel⟩
theorem ja7:jL ["many"] ["many"] (jw qx):=⟨rfl,rfl,rfl,by decide +kernel,rfl,by decide +kernel,by decide +kernel⟩
theorem je3:jL ["one", "other"] ["one", "other"] (jw YD):=⟨rfl,rfl,rfl,by decide +kernel,rfl,by decide +kernel,by decide +kernel⟩
theorem jeX:jL ["one", "other", "bundle"] ["one", "other", "bundle"] (jw Yx):=⟨rfl,rfl,rfl,by decide +kernel,rfl,by decide +kernel,by decide +kernel⟩
theorem jeZ:jL ["one", "other"] ["one", "other"] (jw Yz):=⟨rfl,rfl,rfl,by decide +kernel,rfl,by decide +kernel,by decide +kernel⟩
theorem jes:jL ["bundle", "names"] ["bundle", "names"] (jw yL):=⟨rfl,rfl,rfl,by decide +kernel,rfl,by decide +kernel,by decide +kernel⟩
theorem je1:jL ["bids", "names"] ["bids", "names"] (jw Q3):=⟨rfl,rfl,rfl,by decide +kernel,rfl,by decide +kernel,by decide +kernel⟩
theorem jgQ:jL ["text", "stock"] ["text", "stock"] (jw ja6):=⟨rfl,rfl,rfl,by decide +kernel,rfl,by decide +kernel,by decide +kernel⟩
theorem jgp:jL ["bid", "stock"] ["bid", "stock"] (jw jab):=⟨rfl,rfl,rfl,by decide +kernel,rfl,by decide +kernel,by decide +kernel⟩
theorem jcP:jL ["text", "stock", "level"] ["text", "stock", "level"] (jw zU):=⟨rfl,rfl,rfl,by decide +kernel,rfl,by decide +kernel,by decide +kernel⟩
theorem jgn:jL ["inner", "stock", "level"] ["inner", "stock", "level"] (jw yE):=⟨rfl,rfl,rfl,by decide +kernel,rfl,by decide +kernel,by decide +kernel⟩
theorem qK:jL ["inner", "pieces", "begin", "within", "place", "sign"] ["inner"] (jw jdc):=⟨rfl,rfl,rfl,by decide +kernel,rfl,by decide +kernel,by decide +kernel⟩
theorem jcH:jL ["words", "stock"] ["words", "stock"] (jw yO):=⟨rfl,rfl,rfl,by decide +kernel,rfl,by decide +kernel,by decide +kernel⟩
theorem jgO:jL ["words", "form"] ["words", "form"] (jw zV):=⟨rfl,rfl,rfl,by decide +kernel,rfl,by decide +kernel,by decide +kernel⟩
theorem je2:jL ["place", "stock"] ["place", "stock"] (jw YC):=⟨rfl,rfl,rfl,by decide +kernel,rfl,by decide +kernel,by decide +kernel⟩
theorem jer:jL ["word"] ["word"] (jw zK):=⟨rfl,rfl,rfl,by decide +kernel,rfl,by decide +kernel,by decide +kernel⟩
theorem je0:jL ["word"] ["word"] (jw YB):=⟨rfl,rfl,rfl,by decide +kernel,rfl,by decide +kernel,by decide +kernel⟩
theorem jh7:jL ["thing"] ["thing"] (jw ZW):=⟨rfl,rfl,rfl,by decide +kernel,rfl,by decide +kernel,by decide +kernel⟩
theorem jkX:jL ["_law_script", "_law_k"] ["_law_script", "_law_k"] (jw jga):=⟨rfl,rfl,rfl,by decide +kernel,rfl,by decide +kernel,by decide +kernel⟩
theorem Y4:jL ["_law_cell_here", "_law_size_here", "_law_letters", "_law_word_here", "_law_k", "_law_at"] ["_law_cell_here", "_law_size_here"] (jw jge):=⟨rfl,rfl,rfl,by decide +kernel,rfl,by decide +kernel,by decide +kernel⟩
theorem J2:jL ["_law_script", "_law_many", "_law_way", "_law_cell_here", "_law_base", "_law_found", "_law_some", "_law_size_here", "_law_at", "_law_k", "_law_letter"] ["_law_script", "_law_many"] (jw jcy):=⟨rfl,rfl,rfl,by decide +kernel,rfl,by decide +kernel,by decide +kernel⟩
theorem jgi:jL ["_law_script", "_law_names_here", "_law_pool"] ["_law_script", "_law_names_here"] (jw jcx):=⟨rfl,rfl,rfl,by decide +kernel,rfl,by decide +kernel,by decide +kernel⟩
theorem jeG:jL ["_law_cell_here", "_law_way"] ["_law_cell_here"] (jw jda):=⟨rfl,rfl,rfl,by decide +kernel,rfl,by decide +kernel,by decide +kernel⟩
theorem jho:jL ["_law_cell_here", "_law_other", "_law_last", "_law_word_here"] ["_law_cell_here", "_law_other", "_law_last"] (jw jgd):=⟨rfl,rfl,rfl,by decide +kernel,rfl,by decide +kernel,by decide +kernel⟩
theorem J8:jL ["_law_forms", "_law_cell_here", "_law_number", "_law_found", "_law_row", "_law_k", "_law_way"] ["_law_forms", "_law_cell_here"] (jw jcf):=⟨rfl,rfl,rfl,by decide +kernel,rfl,by decide +kernel,by decide +kernel⟩
theorem jjJ:jL ["_law_bundle", "_law_names_here"] ["_law_bundle", "_law_names_here"] (jw jcz):=⟨rfl,rfl,rfl,by decide +kernel,rfl,by decide +kernel,by decide +kernel⟩
theorem jel:jL ["_law_form_here", "_law_names_here", "_law_place_here"] ["_law_form_here", "_law_names_here"] (jw jcg):=⟨rfl,rfl,rfl,by decide +kernel,rfl,by decide +kernel,by decide +kernel⟩
theorem jaA:jL ["_law_script", "_law_last", "_law_cell_here", "_law_forms", "_law_k"] ["_law_script", "_law_last"] (jw jgb):=⟨rfl,rfl,rfl,by decide +kernel,rfl,by decide +kernel,by decide +kernel⟩
theorem jkY:jL ["_law_bundle"] ["_law_bundle"] (jw jdH):=⟨rfl,rfl,rfl,by decide +kernel,rfl,by decide +kernel,by decide +kernel⟩
theorem jgh:jL ["_law_form_here", "_law_bundle", "_law_there"] ["_law_form_here", "_law_bundle"] (jw jei):=⟨rfl,rfl,rfl,by decide +kernel,rfl,by decide +kernel,by decide +kernel⟩
theorem Yc:jL ["_law_one", "_law_other", "_law_found", "_law_bundle", "_law_best", "_law_part"] ["_law_one", "_law_other"] (jw jdb):=⟨rfl,rfl,rfl,by decide +kernel,rfl,by decide +kernel,by decide +kernel⟩
theorem Q5:jL ["_law_form_here", "_law_things", "_law_found", "_law_part", "_law_table_here"] ["_law_form_here", "_law_things"] (jw YX):=⟨rfl,rfl,rfl,by decide +kernel,rfl,by decide +kernel,by decide +kernel⟩
theorem jgj:jL ["_law_form_here"] ["_law_form_here"] (jw jaz):=⟨rfl,rfl,rfl,by decide +kernel,rfl,by decide +kernel,by decide +kernel⟩
theorem jgg:jL ["_law_form_here"] ["_law_form_here"] (jw jay):=⟨rfl,rfl,rfl,by decide +kernel,rfl,by decide +kernel,by decide +kernel⟩
theorem zB:jL ["_law_form_here", "_law_found", "_law_part"] ["_law_form_here"] (jw ja4):=⟨rfl,rfl,rfl,by decide +kernel,rfl,by decide +kernel,by decide +kernel⟩
theorem J1:jL ["_law_bundle", "_law_names_here", "_law_kinds_here", "_law_cell_here", "_law_kind", "_law_same", "_law_row", "_law_at"] ["_law_bundle", "_law_names_here", "_law_kinds_here", "_law_cell_here"] (jw QX):=⟨rfl,rfl,rfl,by decide +kernel,rfl,by decide +kernel,by decide +kernel⟩
theorem qW:jL ["_law_form_here", "_law_names_here", "_law_kinds_here", "_law_cell_here", "_law_parts", "_law_k", "_law_number", "_law_place_here"] ["_law_form_here", "_law_names_here", "_law_kinds_here", "_law_cell_here"] (jw zf):=⟨rfl,rfl,rfl,by decide +kernel,rfl,by decide +kernel,by decide +kernel⟩
theorem jjK:jL ["_law_found"] ["_law_found"] (jw jej):=⟨rfl,rfl,rfl,by decide +kernel,rfl,by decide +kernel,by decide +kernel⟩
theorem jgN:jL ["_law_bid", "_law_form_here"] ["_law_bid", "_law_form_here"] (jw ja3):=⟨rfl,rfl,rfl,by decide +kernel,rfl,by decide +kernel,by decide +kernel⟩
theorem jaB:jL ["_law_bid", "_law_form_here", "_law_names_here", "_law_told", "_law_found", "_law_due", "_law_things"] ["_law_bid", "_law_form_here", "_law_names_here"] (jw jgc):=⟨rfl,rfl,rfl,by decide +kernel,rfl,by decide +kernel,by decide +kernel⟩
theorem qN:jL ["_law_form_here", "_law_kinds_here", "_law_cell_here", "_law_parts", "_law_k", "_law_number", "_law_kind", "_law_bundle"] ["_law_form_here", "_law_kinds_here", "_law_cell_here"] (jw Yp):=⟨rfl,rfl,rfl,by decide +kernel,rfl,by decide +kernel,by decide +kernel⟩
theorem ja8:jL ["_law_script", "_law_names_here", "_law_kinds_here", "_law_stock", "_law_form_here", "_law_text_here", "_law_bid", "_law_other", "_law_again"] ["_law_script"] (jw jcO):=⟨rfl,rfl,rfl,by decide +kernel,rfl,by decide +kernel,by decide +kernel⟩
theorem jeW:jL ["self", "many"] ["self", "many"] (jw Yr):=⟨rfl,rfl,rfl,by decide +kernel,rfl,by decide +kernel,by decide +kernel⟩
theorem jgk:jL ["self"] ["self"] (jw zg):=⟨rfl,rfl,rfl,by decide +kernel,rfl,by decide +kernel,by decide +kernel⟩
theorem jgl:jL ["self"] ["self"] (jw zj):=⟨rfl,rfl,rfl,by decide +kernel,rfl,by decide +kernel,by decide +kernel⟩
theorem jeV:jL ["self"] ["self"] (jw Yq):=⟨rfl,rfl,rfl,by decide +kernel,rfl,by decide +kernel,by decide +kernel⟩
theorem jgm:jL ["self", "names"] ["self", "names"] (jw zm):=⟨rfl,rfl,rfl,by decide +kernel,rfl,by decide +kernel,by decide +kernel⟩
theorem jdd:jL ["self", "bundle", "amount"] ["self", "bundle", "amount"] (jw Ys):=⟨rfl,rfl,rfl,by decide +kernel,rfl,by decide +kernel,by decide +kernel⟩
theorem jen:jL ["self", "many"] ["self", "many"] (jw Qf):=⟨rfl,rfl,rfl,by decide +kernel,rfl,by decide +kernel,by decide +kernel⟩
theorem jem:jL ["self"] ["self"] (jw yJ):=⟨rfl,rfl,rfl,by decide +kernel,rfl,by decide +kernel,by decide +kernel⟩
theorem zL:jL ["self", "names", "place", "amount"] ["self", "names"] (jw Yt):=⟨rfl,rfl,rfl,by decide +kernel,rfl,by decide +kernel,by decide +kernel⟩
theorem jci:jL ["self", "kind", "least", "amount"] ["self", "kind", "least", "amount"] (jw yr):=⟨rfl,rfl,rfl,by decide +kernel,rfl,by decide +kernel,by decide +kernel⟩
theorem jdf:jL ["self", "many"] ["self", "many"] (jw qH):=⟨rfl,rfl,rfl,by decide +kernel,rfl,by decide +kernel,by decide +kernel⟩
theorem jde:jL ["self"] ["self"] (jw Qx):=⟨rfl,rfl,rfl,by decide +kernel,rfl,by decide +kernel,by decide +kernel⟩
theorem Qy:jL ["self", "names", "place", "least", "amount"] ["self", "names"] (jw yq):=⟨rfl,rfl,rfl,by decide +kernel,rfl,by decide +kernel,by decide +kernel⟩
theorem jdh:jL ["self", "kind", "most", "each"] ["self", "kind", "most", "each"] (jw Yv):=⟨rfl,rfl,rfl,by decide +kernel,rfl,by decide +kernel,by decide +kernel⟩
theorem jeq:jL ["self", "many"] ["self", "many"] (jw Qg):=⟨rfl,rfl,rfl,by decide +kernel,rfl,by decide +kernel,by decide +kernel⟩
theorem jep:jL ["self"] ["self"] (jw yK):=⟨rfl,rfl,rfl,by decide +kernel,rfl,by decide +kernel,by decide +kernel⟩
theorem yM:jL ["self", "names", "place", "most", "each"] ["self", "names"] (jw Yw):=⟨rfl,rfl,rfl,by decide +kernel,rfl,by decide +kernel,by decide +kernel⟩
theorem jbF:jL ["self", "bids"] ["self", "bids"] (jw QZ):=⟨rfl,rfl,rfl,by decide +kernel,rfl,by decide +kernel,by decide +kernel⟩
theorem Zy:jL ["self"] ["self"] (jw Qu):=⟨rfl,rfl,rfl,by decide +kernel,rfl,by decide +kernel,by decide +kernel⟩
theorem Zz:jL ["self"] ["self"] (jw Qw):=⟨rfl,rfl,rfl,by decide +kernel,rfl,by decide +kernel,by decide +kernel⟩
theorem J4:jL ["self", "bundle", "bid"] ["self"] (jw qZ):=⟨rfl,rfl,rfl,by decide +kernel,rfl,by decide +kernel,by decide +kernel⟩
theorem qI:jL ["self", "many", "best", "bid"] ["self", "many"] (jw yo):=⟨rfl,rfl,rfl,by decide +kernel,rfl,by decide +kernel,by decide +kernel⟩
theorem Y5:jL ["self", "names", "inner"] ["self", "names"] (jw yH):=⟨rfl,rfl,rfl,by decide +kernel,rfl,by decide +kernel,by decide +kernel⟩
theorem qJ:jL ["self", "many", "best", "bid"] ["self", "many"] (jw yp):=⟨rfl,rfl,rfl,by decide +kernel,rfl,by decide +kernel,by decide +kernel⟩
theorem Y6:jL ["self", "names", "inner"] ["self", "names"] (jw yI):=⟨rfl,rfl,rfl,by decide +kernel,rfl,by decide +kernel,by decide +kernel⟩
theorem J6:jL ["self", "rows", "number", "row", "name", "kind"] ["self", "rows"] (jw yN):=⟨rfl,rfl,rfl,by decide +kernel,rfl,by decide +kernel,by decide +kernel⟩
theorem jeo:jL ["self"] ["self"] (jw zJ):=⟨rfl,rfl,rfl,by decide +kernel,rfl,by decide +kernel,by decide +kernel⟩
theorem jcj:jL ["self", "name"] ["self", "name"] (jw yt):=⟨rfl,rfl,rfl,by decide +kernel,rfl,by decide +kernel,by decide +kernel⟩
theorem jdg:jL ["self", "kind"] ["self", "kind"] (jw Yu):=⟨rfl,rfl,rfl,by decide +kernel,rfl,by decide +kernel,by decide +kernel⟩
noncomputable abbrev nv (k:Nat):V:=.int (k:Int)
noncomputable def ZF (_K:PySem.W.Frag):Sp:=fun vs H Q _=>∃ a b:Nat,vs = [.int a,.int b] /\ Q (.bl (decide (a &&& b = b))) H
noncomputable def YG (_K:PySem.W.Frag):Sp:=fun vs H Q _=>∃ b:Nat,vs = [.int b] /\ b < 64 /\ ∀ l H',Same H H'->H l = none->H' l = some (.lst ((things b).map nv))->Q (.ref l) H'
noncomputable def jcS (K:PySem.W.Frag):Sp:=fun vs H Q _=>∃ v n,vs = [v] /\ jfm K H v n /\ Q (.bl (decide (n = Nm.int))) H
noncomputable def Q8 (K:PySem.W.Frag):Sp:=fun vs H Q _=>∃ v lo hi,vs = [v,.int lo,.int hi] /\ ((∃ n,jfm K H v n /\ n ≠ .int /\ Q (.bl false) H) ∨ (∃ i,v = .int i /\ Q (.bl (decide (lo <= i) && decide (i <= hi))) H))
noncomputable def QB (_K:PySem.W.Frag):Sp:=fun vs H Q _=>∃ i:Int,vs = [.int i] /\ 1 <= i /\ i <= 63 /\ Q .non H
noncomputable def yS (_K:PySem.W.Frag):Sp:=fun vs H Q _=>∃ i:Int,vs = [.int i] /\ 1 <= i /\ i <= 6 /\ Q .non H
noncomputable def Qz (_K:PySem.W.Frag):Sp:=fun vs H Q _=>∃ i:Int,vs = [.int i] /\ 0 <= i /\ i <= 10 ^ 9 /\ Q .non H
theorem pow6 {n:Nat} (h:n <= 6):2 ^ n <= 64 /\ 0 < 2 ^ n:=⟨(Nat.pow_le_pow_right (n:=2) (by decide) h:2 ^ n <= 2 ^ 6),Nat.two_pow_pos _⟩
theorem rng6 {n:Nat} (h:n <= 6):-(2 ^ 62) <= ((2 ^ n:Nat):Int) /\ ((2 ^ n:Nat):Int) < 2 ^ 62:=by
  have h1:=(pow6 h).1
  have h2:((2 ^ n:Nat):Int) <= 64:=by exact_mod_cast h1
  exact ⟨Int.le_trans (by decide) (Int.natCast_nonneg (2 ^ n)),by omega⟩
noncomputable def yV (ns:List Int) (k:Nat):Int:=if k < ns.length then ns.getD k 0 % 10 ^ 60 else if ns = [] then 7919 * (k:Int) + 5 else (ns.getD (k % ns.length) 0 % 1000003 + 613 * (k:Int)) * (48271 + 2 * (k:Int)) % 2147483647
theorem jhL (ns:List Int) (k:Nat):0 <= yV ns k:=by
  unfold yV
  split
  · exact Int.emod_nonneg _ (by decide)
  · split
    · omega
    · exact Int.emod_nonneg _ (by decide)
noncomputable def jaC (K:PySem.W.Frag):Sp:=fun vs H Q _=>∃ (a:Addr) (ns:List Int) (k:Nat),vs = [.ref a,.int k] /\ SqL K H a (ns.map V.int) /\ k <= 1000 /\ ∀ H',Same H H'->Q (.int (yV ns k)) H'
noncomputable def qj (c:Int):Int:=if c % 6 = 0 then 0 else if c % 6 = 1 then 10 ^ 9 else if c % 6 < 4 then 1 + c / 6 % 12 else c / 6 % (10 ^ 9 + 1)
theorem jeL (c:Int):0 <= qj c:=by
  unfold qj
  split
  · omega
  · split
    · decide
    · split
      · omega
      · exact Int.emod_nonneg _ (by decide)
theorem jil (c:Int):qj c <= 10 ^ 9:=by
  unfold qj
  split
  · decide
  · split
    · exact Int.le_refl _
    · split
      · omega
      · have:=Int.emod_lt_of_pos (c / 6) (show (0:Int) < 10 ^ 9 + 1 by decide)
        omega
noncomputable def jeI (_K:PySem.W.Frag):Sp:=fun vs H Q _=>∃ c,vs = [.int c] /\ Q (.int (qj c)) H
theorem put1 (f:Str) (y:V):(putF f y []).length < 1000:=by
  have h:=zy f y []
  rw [List.length_nil] at h; omega
theorem put2 (f g:Str) (y z:V):(putF g z (putF f y [])).length < 1000:=by
  have h:=zy f y []
  have h2:=zy g z (putF f y [])
  rw [List.length_nil] at h; omega
noncomputable abbrev jfF (b:Nat) (m:Int):List (Str × V):=[("bundle",nv b),("amount",.int m)]
noncomputable abbrev jfG (k l:Nat) (m:Int):List (Str × V):=[("kind",nv k),("least",nv l),("amount",.int m)]
noncomputable abbrev jfE (k c:Nat) (m:Int):List (Str × V):=[("kind",nv k),("most",nv c),("each",.int m)]
theorem jgW {x k:Nat} (h:k <= 63):x &&& k < 64:=Nat.lt_of_le_of_lt Nat.and_le_right (by omega)
theorem Js {nos:List Str} {f:Str} (i:Nat) (h:nos[i]? = some f):f ∈ nos:=List.mem_of_getElem? h
noncomputable def yP (_K:PySem.W.Frag) (c:Addr):Sp:=fun vs H Q _=>∃ (a dx:Addr) (b:Nat) (m:Int),vs = [.ref a,nv b,.int m] /\ 1 <= b /\ b <= 63 /\ jfh m /\ H a = some (.ins c dx []) /\ Q .non (upd H a (.ins c dx (jfF b m)))
noncomputable def Q6 (_K:PySem.W.Frag) (c:Addr):Sp:=fun vs H Q _=>∃ (a dx:Addr) (k l:Nat) (m:Int),vs = [.ref a,nv k,nv l,.int m] /\ 1 <= k /\ k <= 63 /\ 1 <= l /\ l <= 6 /\ jfh m /\ H a = some (.ins c dx []) /\ Q .non (upd H a (.ins c dx (jfG k l m)))
noncomputable def yR (_K:PySem.W.Frag) (c:Addr):Sp:=fun vs H Q _=>∃ (a dx:Addr) (k l:Nat) (m:Int),vs = [.ref a,nv k,nv l,.int m] /\ 1 <= k /\ k <= 63 /\ 1 <= l /\ l <= 6 /\ jfh m /\ H a = some (.ins c dx []) /\ Q .non (upd H a (.ins c dx (jfE k l m)))
noncomputable def IsBid (ju jh jb jg:Addr) (H:Hp) (a:Addr):Form->Prop
  | .none=>∃ dx,H a = some (.ins ju dx [])
  | .only b m=>∃ dx,H a = some (.ins jh dx (jfF b m))
  | .some k l m=>∃ dx,H a = some (.ins jb dx (jfG k l m))
  | .most k c m=>∃ dx,H a = some (.ins jg dx (jfE k c m))
noncomputable def word:Form->Str
  | .none => "none"
  | .only _ _ => "only"
  | .some _ _ _ => "some"
  | .most _ _ _ => "most"
noncomputable def Fits:Form->Nat->Nat->Int->Prop
  | .none,_,_,_=>True
  | .only b m,k,_,z=>b = k /\ m = z
  | .some b c m,k,l,z=>b = k /\ c = l /\ m = z
  | .most b c m,k,l,z=>b = k /\ c = l /\ m = z
noncomputable def jdU (H:Hp) (p:Addr) (f:Form):Prop:=∃ (k l:Nat) (z:Int),H p = some (.tup [.str (word f),nv k,nv l,.int z]) /\ k <= 63 /\ Fits f k l z
theorem jdU.same {H H':Hp} {p:Addr} {f:Form} (S:Same H H') (h:jdU H p f):jdU H' p f:=let ⟨k,l,z,e,r⟩:=h; ⟨k,l,z,S _ _ e,r⟩
noncomputable abbrev jiA (l:Addr):List (Str × V):=[("bids",.ref l)]
noncomputable def JR (any:Bool):Str:=if any = true then "any" else "one"
noncomputable def IsTr (ju jh jb jg jd je:Addr) (A:Addr->Prop) (H:Hp):Nat->Addr->Tr->Prop
  | 0,_,_=>False
  | _ + 1,a,.leaf f=>qP f /\ IsBid ju jh jb jg H a f
  | d + 1,a,.node any ts=>∃ (dx l:Addr) (bs:List Addr),H a = some (.ins (if any = true then jd else je) dx (jiA l)) /\ A l /\ H l = some (.lst (bs.map V.ref)) /\ All2 (IsTr ju jh jb jg jd je A H d) bs ts
noncomputable def FT (A:Addr->Prop) (H:Hp):Nat->Addr->Tr->Prop
  | 0,_,_=>False
  | _ + 1,p,.leaf f=>qP f /\ jdU H p f
  | d + 1,p,.node any ts=>∃ (l:Addr) (ps:List Addr),H p = some (.tup [.str (JR any),.ref l]) /\ A l /\ H l = some (.lst (ps.map V.ref)) /\ All2 (FT A H d) ps ts
section
variable {c1 c2 c3 c4 c5 c6:Addr} {A B:Addr->Prop} {H H':Hp}
theorem IsTr.move (hI:∀ a C dx fs,H a = some (.ins C dx fs)->H' a = some (.ins C dx fs)) (hL:∀ l zs,A l->H l = some (.lst zs)->B l /\ H' l = some (.lst zs)) :
    ∀ (d:Nat) {a:Addr} {t:Tr},IsTr c1 c2 c3 c4 c5 c6 A H d a t->IsTr c1 c2 c3 c4 c5 c6 B H' d a t
  | 0,_,_,h=>h
  | _ + 1,a,.leaf f,h=>⟨h.1,by cases f <;> obtain ⟨dx,e⟩:=h.2 <;> exact ⟨dx,hI _ _ _ _ e⟩⟩
  | d + 1,a,.node any ts,h=>by
    obtain ⟨dx,l,bs,e1,e2,e3,e4⟩:=h
    exact ⟨dx,l,bs,hI _ _ _ _ e1,(hL l _ e2 e3).1,(hL l _ e2 e3).2,e4.imp fun x y _ z=>IsTr.move hI hL d z⟩
theorem IsTr.same {d:Nat} {a:Addr} {t:Tr} (S:Same H H') (h:IsTr c1 c2 c3 c4 c5 c6 A H d a t):IsTr c1 c2 c3 c4 c5 c6 A H' d a t:=IsTr.move (fun a C dx fs e=>S _ _ e) (fun l zs hA e=>⟨hA,S _ _ e⟩) d h
theorem IsTr.put {d:Nat} {a m:Addr} {t:Tr} {zs:List V} {o:HO} (h:IsTr c1 c2 c3 c4 c5 c6 A H d a t) (hm:H m = some (.lst zs)) (hA:¬ A m):IsTr c1 c2 c3 c4 c5 c6 A (upd H m o) d a t :=
  IsTr.move (fun a C dx fs e=>by rw [jO (fun q=>by rw [q,hm] at e; cases e)]; exact e) (fun l zs hl e=>⟨hl,by rw [jO (fun q=>by subst q; exact hA hl)]; exact e⟩) d h
theorem IsTr.imp {d:Nat} {a:Addr} {t:Tr} (h:IsTr c1 c2 c3 c4 c5 c6 A H d a t) (f:∀ l zs,A l->H l = some (.lst zs)->B l):IsTr c1 c2 c3 c4 c5 c6 B H d a t:=IsTr.move (fun a C dx fs e=>e) (fun l zs hA e=>⟨f l zs hA e,e⟩) d h
theorem IsTr.to:∀ (d e:Nat) {a:Addr} {t:Tr},IsTr c1 c2 c3 c4 c5 c6 A H d a t->j9 t <= e->IsTr c1 c2 c3 c4 c5 c6 A H e a t
  | 0,_,_,_,h,_=>h.elim
  | d + 1,0,a,t,h,le=>by have:=jd0 t; omega
  | d + 1,e + 1,a,.leaf f,h,le=>h
  | d + 1,e + 1,a,.node any ts,h,le=>by
    obtain ⟨dx,l,bs,e1,e2,e3,e4⟩:=h
    have le':1 + j7 ts <= e + 1:=le
    exact ⟨dx,l,bs,e1,e2,e3,e4.imp fun x y hy z=>IsTr.to d e z (by have:=yW hy; omega)⟩
theorem FT.move (hI:∀ a xs,H a = some (.tup xs)->H' a = some (.tup xs)) (hL:∀ l zs,A l->H l = some (.lst zs)->B l /\ H' l = some (.lst zs)) :
    ∀ (d:Nat) {a:Addr} {t:Tr},FT A H d a t->FT B H' d a t
  | 0,_,_,h=>h
  | _ + 1,a,.leaf f,h=>⟨h.1,by obtain ⟨k,l,z,e,r⟩:=h.2; exact ⟨k,l,z,hI _ _ e,r⟩⟩
  | d + 1,a,.node any ts,h=>by
    obtain ⟨l,bs,e1,e2,e3,e4⟩:=h
    exact ⟨l,bs,hI _ _ e1,(hL l _ e2 e3).1,(hL l _ e2 e3).2,e4.imp fun x y _ z=>FT.move hI hL d z⟩
theorem FT.same {d:Nat} {a:Addr} {t:Tr} (S:Same H H') (h:FT A H d a t):FT A H' d a t:=FT.move (fun a xs e=>S _ _ e) (fun l zs hA e=>⟨hA,S _ _ e⟩) d h
theorem FT.put {d:Nat} {a m:Addr} {t:Tr} {zs:List V} {o:HO} (h:FT A H d a t) (hm:H m = some (.lst zs)) (hA:¬ A m):FT A (upd H m o) d a t :=
  FT.move (fun a xs e=>by rw [jO (fun q=>by rw [q,hm] at e; cases e)]; exact e) (fun l zs hl e=>⟨hl,by rw [jO (fun q=>by subst q; exact hA hl)]; exact e⟩) d h
theorem FT.imp {d:Nat} {a:Addr} {t:Tr} (h:FT A H d a t) (f:∀ l zs,A l->H l = some (.lst zs)->B l):FT B H d a t:=FT.move (fun a xs e=>e) (fun l zs hA e=>⟨f l zs hA e,e⟩) d h
theorem FT.to:∀ (d e:Nat) {a:Addr} {t:Tr},FT A H d a t->j9 t <= e->FT A H e a t
  | 0,_,_,_,h,_=>h.elim
  | d + 1,0,a,t,h,le=>by have:=jd0 t; omega
  | d + 1,e + 1,a,.leaf f,h,le=>h
  | d + 1,e + 1,a,.node any ts,h,le=>by
    obtain ⟨l,bs,e1,e2,e3,e4⟩:=h
    have le':1 + j7 ts <= e + 1:=le
    exact ⟨l,bs,e1,e2,e3,e4.imp fun x y hy z=>FT.to d e z (by have:=yW hy; omega)⟩
end
noncomputable def sp1:Sp:=fun vs H Q _=>∃ a:Addr,vs = [.ref a] /\ Q (.int 1) H
noncomputable def jeH (val:Tr->Nat) (ju jh jb jg jc jd je jf:Addr) (d:Nat):Sp:=fun vs H Q _=>∃ (a:Addr) (any:Bool) (ts:List Tr) (A:Addr->Prop),vs = [.ref a] /\ IsTr ju jh jb jg jd je A H d a (.node any ts) /\ jR ts <= 100 /\ ∀ H',Same H H'->Q (nv (val (.node any ts))) H'
noncomputable def jet (val:List Tr->Nat) (ju jh jb jg jc jd je jf:Addr) (d:Nat):Sp:=fun vs H Q _=>∃ (l:Addr) (bs:List Addr) (ts:List Tr) (A:Addr->Prop),vs = [.ref l] /\ H l = some (.lst (bs.map V.ref)) /\ All2 (IsTr ju jh jb jg jd je A H d) bs ts /\ jR ts <= 100 /\ ∀ H',Same H H'->Q (nv (1 + val ts)) H'
noncomputable def T1 (val:Tr->Nat) (ju jh jb jg jc jd je jf:Addr) (d:Nat):Addr->Sp->Prop:=fun C sp=>((C = ju ∨ C = jh ∨ C = jb ∨ C = jg) /\ sp = sp1) ∨ ((C = jd ∨ C = je) /\ sp = jeH val ju jh jb jg jc jd je jf d)
noncomputable def T_depth (_K:PySem.W.Frag) (ju jh jb jg jc jd je jf:Addr):Addr->Sp->Prop:=T1 j9 ju jh jb jg jc jd je jf 5
noncomputable def T_tally (_K:PySem.W.Frag) (ju jh jb jg jc jd je jf:Addr):Addr->Sp->Prop:=T1 jW ju jh jb jg jc jd je jf 5
noncomputable def jgx (_K:PySem.W.Frag) (_c:Addr):Sp:=sp1
noncomputable def jgy (_K:PySem.W.Frag) (_c:Addr):Sp:=sp1
noncomputable def je5 (_K:PySem.W.Frag) (ju jh jb jg jc jd je jf:Addr):Sp:=jet j7 ju jh jb jg jc jd je jf 4
noncomputable def je6 (_K:PySem.W.Frag) (ju jh jb jg jc jd je jf:Addr):Sp:=jet jR ju jh jb jg jc jd je jf 4
noncomputable def jbB (_K:PySem.W.Frag) (ju jh jb jg jc jd je jf:Addr):Sp:=fun vs H Q _=>∃ (l:Addr) (bs:List Addr) (ts:List Tr) (A:Addr->Prop) (d:Nat),vs = [.ref l] /\ H l = some (.lst (bs.map V.ref)) /\ All2 (IsTr ju jh jb jg jd je A H d) bs ts /\ j7 ts <= 3 /\ jR ts <= 23 /\ ∀ H',Same H H'->Q .non H'
noncomputable def Jq (_K:PySem.W.Frag) (c ju jh jb jg jc jd je jf:Addr):Sp:=fun vs H Q _=>∃ (a dx l:Addr) (bs:List Addr) (ts:List Tr) (A:Addr->Prop) (d:Nat),vs = [.ref a,.ref l] /\ H a = some (.ins c dx []) /\ (c = jd ∨ c = je) /\ H l = some (.lst (bs.map V.ref)) /\ All2 (IsTr ju jh jb jg jd je A H d) bs ts /\ j7 ts <= 3 /\ jR ts <= 23 /\ ∀ H1 lb,Same H H1->H1 lb = none->Q .non (upd (upd H1 lb (.lst (bs.map V.ref))) a (.ins c dx (jiA lb)))
noncomputable def zY (_K:PySem.W.Frag):Sp:=fun vs H Q _=>∃ b:Nat,vs = [.int b] /\ b < 64 /\ ∀ H',Same H H'->Q (nv (things b).length) H'
noncomputable def JN (_K:PySem.W.Frag):Sp:=fun vs H Q _=>∃ n:Nat,vs = [nv n] /\ n <= 6 /\ ∀ l H',Same H H'->H l = none->H' l = some (.lst (((List.range (2 ^ n)).map fun _=>(0:Int)).map V.int))->Q (.ref l) H'
noncomputable def jgw (K:PySem.W.Frag):Sp:=fun vs H Q _=>∃ v n,vs = [v] /\ jfm K H v n /\ Q (.bl (decide (n = Nm.int))) H
noncomputable def Tells (f:Form) (n:Nat) (H:Hp) (Q:VK):Prop:=∀ l H',Same H H'->H l = Option.none->H' l = Option.some (.lst ((jfg f n).map V.int))->Q (.ref l) H'
noncomputable def jbx (_K:PySem.W.Frag) (c:Addr):Sp:=fun vs H Q _=>∃ (a dx:Addr) (n:Nat),vs = [.ref a,nv n] /\ n <= 6 /\ H a = some (.ins c dx []) /\ Tells .none n H Q
noncomputable def jaE (_K:PySem.W.Frag) (c:Addr):Sp:=fun vs H Q _=>∃ (a dx:Addr) (n b:Nat) (m:Int),vs = [.ref a,nv n] /\ n <= 6 /\ b <= 63 /\ H a = some (.ins c dx (jfF b m)) /\ Tells (.only b m) n H Q
noncomputable def ZD (_K:PySem.W.Frag) (c:Addr):Sp:=fun vs H Q _=>∃ (a dx:Addr) (n k l:Nat) (m:Int),vs = [.ref a,nv n] /\ n <= 6 /\ k <= 63 /\ H a = some (.ins c dx (jfG k l m)) /\ Tells (.some k l m) n H Q
noncomputable def jaG (_K:PySem.W.Frag) (c:Addr):Sp:=fun vs H Q _=>∃ (a dx:Addr) (n k l:Nat) (m:Int),vs = [.ref a,nv n] /\ n <= 6 /\ k <= 63 /\ H a = some (.ins c dx (jfE k l m)) /\ Tells (.most k l m) n H Q
noncomputable def jht (_K:PySem.W.Frag):Sp:=fun vs H Q _=>∃ b:Nat,vs = [nv b] /\ b < 64 /\ ∀ H',Same H H'->Q (nv (things b).length) H'
noncomputable def jdj (_K:PySem.W.Frag):Sp:=fun vs H Q _=>∃ (p:Addr) (f:Form) (x:Nat),vs = [.ref p,nv x] /\ qP f /\ jdU H p f /\ x < 64 /\ ∀ H',Same H H'->Q (.int (yf f x)) H'
noncomputable def yG (ks:List Nat):List Nat:=ks.foldl (fun ps k=>ps ++ ps.map (· ||| 2 ^ k)) [0]
noncomputable def partsOf (b:Nat):List Nat:=yG (things b)
theorem jh0 (ks:List Nat) (k:Nat):yG (ks ++ [k]) = yG ks ++ (yG ks).map (· ||| 2 ^ k):=by
  unfold yG; rw [List.foldl_append]; rfl
theorem jiT (ks:List Nat):(yG ks).length = 2 ^ ks.length:=by
  unfold yG
  have key:∀ (ks ps:List Nat),(ks.foldl (fun ps k=>ps ++ ps.map (· ||| 2 ^ k)) ps).length = ps.length * 2 ^ ks.length:=by
    intro ks
    induction ks with
    | nil=>intro ps; simp
    | cons k ks ih =>
      intro ps
      rw [List.foldl_cons,ih,List.length_append,List.length_map,List.length_cons,Nat.pow_succ,<- Nat.two_mul,Nat.mul_comm 2,Nat.mul_assoc,Nat.mul_comm 2]
  rw [key]; simp
noncomputable def jcT (_K:PySem.W.Frag):Sp:=fun vs H Q _=>∃ b:Nat,vs = [.int b] /\ b < 64 /\ ∀ l H',Same H H'->H l = none->H' l = some (.lst ((partsOf b).map nv))->Q (.ref l) H'
noncomputable def jcn (K:PySem.W.Frag):Sp:=fun vs H Q _=>∃ (p:Addr) (ks:List Nat),vs = [.ref p] /\ SqL K H p (ks.map nv) /\ once 0 ks = true /\ Q (nv (bun 0 ks)) H
noncomputable def jdK (_K:PySem.W.Frag):Sp:=fun vs H Q _=>∃ (l:Addr) (ps:List Addr) (ts:List Tr) (A:Addr->Prop) (d:Nat) (c:Int),vs = [.ref l,.int c] /\ H l = some (.lst (ps.map V.ref)) /\ All2 (FT A H d) ps ts /\ ts.length <= 100 /\ ∀ l2 H' qs us,Same H H'->H' l2 = some (.lst (qs.map V.ref))->All2 (FT (fun _=>True) H' (d + 1)) qs us->j7 us <= j7 ts + 1->us.length <= ts.length->jR us <= jR ts + ts.length->(∃ x,Jg us ||| x = Jg ts)->Q (.ref l2) H'
section
variable {P:Program} {w:World} {K:PySem.W.Frag} {mg:Str->Option Value} {base:Heap}
variable {ju jh jb jg jc jd je jf:Addr}
theorem jjE {f:Addr} {fd:FuncData} (F:Fun K "holds" "holds" jek f fd) (jH:mg "holds" = some (.ref f)):jK P w K mg base 1 "holds" ["one", "other"] [] (ZF K):=by
  refine F.jX jH (bnd2 F fun _ _ _ _ _ _ _ _=>rfl) jjL (fun vs H Q E h=>?_) (fun cdv A outer s H vs Q E hr h=>?_)
  · obtain ⟨a,b,rfl,_⟩:=h; rfl
  obtain ⟨a,b,rfl,q⟩:=h
  refine ⟨_,(R.jr (R.jJ (R.zb Jv (R.jF jaZ (R.pv 0) (R.pv 1)) (R.pv 1) (j5 _)))),?_⟩
  refine ⟨_,rfl,_,rfl,a,b,rfl,rfl,_,rfl,rfl,?_⟩
  rw [Zm]; exact q
theorem jfY {f:Addr} {fd:FuncData} (F:Fun K "things_in" "things_in" zq f fd) (jH:mg "things_in" = some (.ref f)) (jQ:mg "range" = none)
    (qz:jK P w K mg base 1 "holds" ["one", "other"] [] (ZF K)):jK P w K mg base 2 "things_in" ["bundle"] [] (YG K):=by
  refine F.jX jH (bnd1 F fun _ _ _ _ _ _ _=>rfl) jgq (fun vs H Q E h=>?_) (fun cdv A outer s H vs Q E hr h=>?_)
  · obtain ⟨b,rfl,_⟩:=h; rfl
  obtain ⟨b,rfl,hb,q⟩:=h
  refine ⟨_,(R.jr (R.jJ (R.Jj (jw zq) ["bundle"] ["number"] ["bundle"] [0] rfl rfl rfl ⟨s.heap.objs.size + 1,rfl⟩ rfl rfl (by decide +kernel) (R.Jh rfl jQ (R.pa_c (R.jh1 (R.pv 0)) R.ji)) (fun C s2 H2 fp=>(R.jV (i:=0) (show List.Nodup (["number", "bundle"]:List Str) from by decide +kernel) rfl (Or.inl rfl))) (fun C s2 H2 fp=>(R.jc9 (R.JD (R.jz qz hr (by first | decide | omega) rfl (R.pa_c (R.pv 1) (R.pa_c (R.jF Qt R.jj (R.pv 0)) R.ji)))))) (fun C s2 H2 fp=>(R.pv 0))))),?_⟩
  have b6:=bits64 hb
  refine ⟨_,rfl,_,rfl,_,rfl,by omega,by omega,fun l hl=>?_⟩
  rw [Int.toNat_natCast]
  refine Jl (fun k=>decide (b &&& 2 ^ k = 2 ^ k)) nv (by omega) hl ?_ ?_ ?_
  · intro k H1 hk s1 C hC
    rw [Int.zero_add]
    exact ⟨_,rfl,_,rfl,k,rfl,rfl,by omega,b,2 ^ k,rfl,_,rfl,hC _ (Same.refl _)⟩
  · intro k H1 hk _ s1 C hC
    rw [Int.zero_add]
    exact ⟨_,rfl,hC _ (Same.refl _)⟩
  · intro H1 s1 e1
    rw [jio,ji6 b hb] at e1
    exact q l H1 s1 hl e1
theorem jcC:∀ n:Nm,(isN n .int = true->(!isN n .bl) = decide (n = .int)) /\ (¬ isN n .int = true->false = decide (n = .int)):=by intro n; cases n <;> decide
theorem jgK {f:Addr} {fd:FuncData} (F:Fun K "is_whole" "is_whole" ja5 f fd) (jH:mg "is_whole" = some (.ref f)) (jZ:mg "isinstance" = none) (jat:mg "int" = none) (jd5:mg "bool" = none):jK P w K mg base 1 "is_whole" ["thing"] [] (jcS K):=by
  refine F.jX jH (bnd1 F fun _ _ _ _ _ _ _=>rfl) jgP (fun vs H Q E h=>?_) (fun cdv A outer s H vs Q E hr h=>?_)
  · obtain ⟨v,n,rfl,_⟩:=h; rfl
  obtain ⟨v,n,rfl,hk,q⟩:=h
  refine ⟨_,(R.jr (R.jJ (R.jeg (R.ja1 .int rfl jZ rfl jat (R.pv 0)) (R.jb9 (R.jf3 (R.ja1 .bl rfl jZ rfl jd5 (R.pv 0))))))),?_⟩
  refine ⟨_,rfl,v,n,rfl,hk,_,rfl,?_⟩
  refine ite2 (fun c=>?_) (fun c=>?_)
  · refine ⟨_,rfl,v,n,rfl,hk,_,rfl,?_⟩
    rw [(jcC n).1 c]; exact q
  · show Q (.bl false) H
    rw [(jcC n).2 c]; exact q
theorem jfW {f:Addr} {fd:FuncData} (F:Fun K "is_within" "is_within" jaa f fd) (jH:mg "is_within" = some (.ref f))
    (jaO:jK P w K mg base 1 "is_whole" ["thing"] [] (jcS K)):jK P w K mg base 2 "is_within" ["thing", "least", "most"] [] (Q8 K):=by
  refine F.jX jH (bnd3 F fun _ _ _ _ _ _ _ _ _=>rfl) jgo (fun vs H Q E h=>?_) (fun cdv A outer s H vs Q E hr h=>?_)
  · obtain ⟨v,lo,hi,rfl,_⟩:=h; rfl
  obtain ⟨v,lo,hi,rfl,h⟩:=h
  refine ⟨_,(R.jr (R.jJ (R.jeg (R.jz jaO hr (by first | decide | omega) rfl (R.pa_c (R.pv 0) R.ji)) (R.jb9 (R.jb8 jhl jhl (R.pv 1) (R.pv 0) (R.pv 2)))))),?_⟩
  rcases h with ⟨n,hk,hn,q⟩ | ⟨i,rfl,q⟩
  · refine ⟨_,rfl,v,n,rfl,hk,_,rfl,?_⟩
    rw [decide_eq_false hn]
    exact iteF q
  · refine ⟨_,rfl,_,.int,rfl,TyOf.int _,_,rfl,iteT ?_⟩
    refine ⟨_,rfl,_,rfl,_,_,rfl,rfl,_,rfl,?_⟩
    refine ite2 (fun c=>?_) (fun c=>?_)
    · refine ⟨_,rfl,_,_,rfl,rfl,?_⟩
      rw [c,Bool.true_and] at q; exact q
    · rw [Bool.eq_false_iff.mpr c,Bool.false_and] at q; exact q
theorem within {lo i hi:Int} (h1:lo <= i) (h2:i <= hi):(decide (lo <= i) && decide (i <= hi)) = true:=by rw [decide_eq_true h1,decide_eq_true h2]; rfl
theorem jdA {f:Addr} {fd:FuncData} (F:Fun K "check_bundle" "check_bundle" Y0 f fd) (jH:mg "check_bundle" = some (.ref f))
    (Ju:jK P w K mg base 2 "is_within" ["thing", "least", "most"] [] (Q8 K)):jK P w K mg base 3 "check_bundle" ["bundle"] [] (QB K):=by
  refine F.jX jH (bnd1 F fun _ _ _ _ _ _ _=>rfl) jdJ (fun vs H Q E h=>?_) (fun cdv A outer s H vs Q E hr h=>?_)
  · obtain ⟨i,rfl,_⟩:=h; rfl
  obtain ⟨i,rfl,h1,h2,q⟩:=h
  refine ⟨_,(R.jr (R.j8 (R.qy (R.JD (R.jz Ju hr (by first | decide | omega) rfl (R.pa_c (R.pv 0) (R.pa_c R.jj (R.pa_c R.jj R.ji)))))) (R.jr R.JC) R.jM)),?_⟩
  refine ⟨_,rfl,_,1,63,rfl,.inr ⟨_,rfl,_,rfl,?_⟩⟩
  rw [within h1 h2]
  exact iteF q
theorem jc7 {f:Addr} {fd:FuncData} (F:Fun K "check_so_many" "check_so_many" Yy f fd) (jH:mg "check_so_many" = some (.ref f))
    (Ju:jK P w K mg base 2 "is_within" ["thing", "least", "most"] [] (Q8 K)):jK P w K mg base 3 "check_so_many" ["number"] [] (yS K):=by
  refine F.jX jH (bnd1 F fun _ _ _ _ _ _ _=>rfl) jdi (fun vs H Q E h=>?_) (fun cdv A outer s H vs Q E hr h=>?_)
  · obtain ⟨i,rfl,_⟩:=h; rfl
  obtain ⟨i,rfl,h1,h2,q⟩:=h
  refine ⟨_,(R.jr (R.j8 (R.qy (R.JD (R.jz Ju hr (by first | decide | omega) rfl (R.pa_c (R.pv 0) (R.pa_c R.jj (R.pa_c R.jj R.ji)))))) (R.jr R.JC) R.jM)),?_⟩
  refine ⟨_,rfl,_,1,6,rfl,.inr ⟨_,rfl,_,rfl,?_⟩⟩
  rw [within h1 h2]
  exact iteF q
theorem jdz {f:Addr} {fd:FuncData} (F:Fun K "check_amount" "check_amount" YZ f fd) (jH:mg "check_amount" = some (.ref f))
    (Ju:jK P w K mg base 2 "is_within" ["thing", "least", "most"] [] (Q8 K)):jK P w K mg base 3 "check_amount" ["amount"] [] (Qz K):=by
  refine F.jX jH (bnd1 F fun _ _ _ _ _ _ _=>rfl) jdI (fun vs H Q E h=>?_) (fun cdv A outer s H vs Q E hr h=>?_)
  · obtain ⟨i,rfl,_⟩:=h; rfl
  obtain ⟨i,rfl,h1,h2,q⟩:=h
  refine ⟨_,(R.jr (R.j8 (R.qy (R.JD (R.jz Ju hr (by first | decide | omega) rfl (R.pa_c (R.pv 0) (R.pa_c R.jj (R.pa_c (R.jF jhZ R.jj R.jj) R.ji)))))) (R.jr R.JC) R.jM)),?_⟩
  refine ⟨_,rfl,_,_,rfl,rfl,⟨by decide,by decide,by decide⟩,_,0,10 ^ 9,rfl,.inr ⟨_,rfl,_,rfl,?_⟩⟩
  rw [within h1 h2]
  exact iteF q
theorem jc2 {f:Addr} {fd:FuncData} (F:Fun K "__init__" "Only.__init__" Ys f fd)
    (Jx:jK P w K mg base 3 "check_bundle" ["bundle"] [] (QB K))
    (Jw:jK P w K mg base 3 "check_amount" ["amount"] [] (Qz K))
    (jN:Own K mg "Bid" ju [])
    (jE:Own K mg "Only" jh ["bundle", "amount"])
    (jt:Own K mg "SoMany" jb ["kind", "least", "amount"])
    (jD:Own K mg "UpTo" jg ["kind", "most", "each"])
    (jx:Own K mg "Several" jc ["bids"])
    (jA:Own K mg "AnyOf" jd ["bids"])
    (jB:Own K mg "OneOf" je ["bids"])
    (jy:Own K mg "Stock" jf ["numbers", "kinds"]):FnOk P w K mg base CX0 4 f fd ["self", "bundle", "amount"] (yP K jh):=by
  refine F.okQ jdd (fun vs H Q E h=>?_) (fun cdv A outer s H vs Q E hr h=>?_)
  · obtain ⟨a,dx,b,m,rfl,_⟩:=h; rfl
  obtain ⟨a,dx,b,m,rfl,b1,b2,hm,e,q⟩:=h
  refine ⟨_,(R.jk (R.JW (R.jz Jx hr (by first | decide | omega) rfl (R.pa_c (R.pv 1) R.ji)))
    (R.jk (R.JW (R.jz Jw hr (by first | decide | omega) rfl (R.pa_c (R.pv 2) R.ji)))
    (R.jk (R.YT (R.pv 0) (R.pv 1))
    (R.jr (R.YT (R.pv 0) (R.pv 2)))))),?_⟩
  refine ⟨_,rfl,(b:Int),rfl,by omega,by omega,?_⟩
  refine ⟨_,rfl,m,rfl,hm.lo,hm.hi,?_⟩
  refine ⟨_,rfl,_,rfl,a,jh,dx,[],rfl,e,jE.cls,jE.no _ (Js 0 rfl),by decide,?_⟩
  refine ⟨_,rfl,_,rfl,a,jh,dx,_,rfl,jq,jE.cls,jE.no _ (Js 1 rfl),put1 _ _,?_⟩
  rw [jdO]
  exact q
theorem jb5 {f:Addr} {fd:FuncData} (F:Fun K "__init__" "SoMany.__init__" yr f fd)
    (Jx:jK P w K mg base 3 "check_bundle" ["bundle"] [] (QB K))
    (JX:jK P w K mg base 3 "check_so_many" ["number"] [] (yS K))
    (Jw:jK P w K mg base 3 "check_amount" ["amount"] [] (Qz K))
    (jN:Own K mg "Bid" ju [])
    (jE:Own K mg "Only" jh ["bundle", "amount"])
    (jt:Own K mg "SoMany" jb ["kind", "least", "amount"])
    (jD:Own K mg "UpTo" jg ["kind", "most", "each"])
    (jx:Own K mg "Several" jc ["bids"])
    (jA:Own K mg "AnyOf" jd ["bids"])
    (jB:Own K mg "OneOf" je ["bids"])
    (jy:Own K mg "Stock" jf ["numbers", "kinds"]):FnOk P w K mg base CX0 4 f fd ["self", "kind", "least", "amount"] (Q6 K jb):=by
  refine F.okQ jci (fun vs H Q E h=>?_) (fun cdv A outer s H vs Q E hr h=>?_)
  · obtain ⟨a,dx,k,l,m,rfl,_⟩:=h; rfl
  obtain ⟨a,dx,k,l,m,rfl,k1,k2,l1,l2,hm,e,q⟩:=h
  refine ⟨_,(R.jk (R.JW (R.jz Jx hr (by first | decide | omega) rfl (R.pa_c (R.pv 1) R.ji)))
    (R.jk (R.JW (R.jz JX hr (by first | decide | omega) rfl (R.pa_c (R.pv 2) R.ji)))
    (R.jk (R.JW (R.jz Jw hr (by first | decide | omega) rfl (R.pa_c (R.pv 3) R.ji)))
    (R.jk (R.YT (R.pv 0) (R.pv 1))
    (R.jk (R.YT (R.pv 0) (R.pv 2))
    (R.jr (R.YT (R.pv 0) (R.pv 3)))))))),?_⟩
  refine ⟨_,rfl,(k:Int),rfl,by omega,by omega,?_⟩
  refine ⟨_,rfl,(l:Int),rfl,by omega,by omega,?_⟩
  refine ⟨_,rfl,m,rfl,hm.lo,hm.hi,?_⟩
  refine ⟨_,rfl,_,rfl,a,jb,dx,[],rfl,e,jt.cls,jt.no _ (Js 0 rfl),by decide,?_⟩
  refine ⟨_,rfl,_,rfl,a,jb,dx,_,rfl,jq,jt.cls,jt.no _ (Js 1 rfl),put1 _ _,?_⟩
  refine ⟨_,rfl,_,rfl,a,jb,dx,_,rfl,jq,jt.cls,jt.no _ (Js 2 rfl),put2 _ _ _ _,?_⟩
  rw [jdO,jdO]
  exact q
theorem jc6 {f:Addr} {fd:FuncData} (F:Fun K "__init__" "UpTo.__init__" Yv f fd)
    (Jx:jK P w K mg base 3 "check_bundle" ["bundle"] [] (QB K))
    (JX:jK P w K mg base 3 "check_so_many" ["number"] [] (yS K))
    (Jw:jK P w K mg base 3 "check_amount" ["amount"] [] (Qz K))
    (jN:Own K mg "Bid" ju [])
    (jE:Own K mg "Only" jh ["bundle", "amount"])
    (jt:Own K mg "SoMany" jb ["kind", "least", "amount"])
    (jD:Own K mg "UpTo" jg ["kind", "most", "each"])
    (jx:Own K mg "Several" jc ["bids"])
    (jA:Own K mg "AnyOf" jd ["bids"])
    (jB:Own K mg "OneOf" je ["bids"])
    (jy:Own K mg "Stock" jf ["numbers", "kinds"]):FnOk P w K mg base CX0 4 f fd ["self", "kind", "most", "each"] (yR K jg):=by
  refine F.okQ jdh (fun vs H Q E h=>?_) (fun cdv A outer s H vs Q E hr h=>?_)
  · obtain ⟨a,dx,k,l,m,rfl,_⟩:=h; rfl
  obtain ⟨a,dx,k,l,m,rfl,k1,k2,l1,l2,hm,e,q⟩:=h
  refine ⟨_,(R.jk (R.JW (R.jz Jx hr (by first | decide | omega) rfl (R.pa_c (R.pv 1) R.ji)))
    (R.jk (R.JW (R.jz JX hr (by first | decide | omega) rfl (R.pa_c (R.pv 2) R.ji)))
    (R.jk (R.JW (R.jz Jw hr (by first | decide | omega) rfl (R.pa_c (R.pv 3) R.ji)))
    (R.jk (R.YT (R.pv 0) (R.pv 1))
    (R.jk (R.YT (R.pv 0) (R.pv 2))
    (R.jr (R.YT (R.pv 0) (R.pv 3)))))))),?_⟩
  refine ⟨_,rfl,(k:Int),rfl,by omega,by omega,?_⟩
  refine ⟨_,rfl,(l:Int),rfl,by omega,by omega,?_⟩
  refine ⟨_,rfl,m,rfl,hm.lo,hm.hi,?_⟩
  refine ⟨_,rfl,_,rfl,a,jg,dx,[],rfl,e,jD.cls,jD.no _ (Js 0 rfl),by decide,?_⟩
  refine ⟨_,rfl,_,rfl,a,jg,dx,_,rfl,jq,jD.cls,jD.no _ (Js 1 rfl),put1 _ _,?_⟩
  refine ⟨_,rfl,_,rfl,a,jg,dx,_,rfl,jq,jD.cls,jD.no _ (Js 2 rfl),put2 _ _ _ _,?_⟩
  rw [jdO,jdO]
  exact q
theorem jkM {f:Addr} {fd:FuncData} (F:Fun K "_law_cell" "_law_cell" jga f fd) (jH:mg "_law_cell" = some (.ref f)) (Je:mg "len" = none):jK P w K mg base 1 "_law_cell" ["_law_script", "_law_k"] [] (jaC K):=by
  refine F.jX jH (bnd2 F fun _ _ _ _ _ _ _ _=>rfl) jkX (fun vs H Q E h=>?_) (fun cdv A outer s H vs Q E hr h=>?_)
  · obtain ⟨a,ns,k,rfl,_⟩:=h; rfl
  obtain ⟨a,ns,k,rfl,hS,hk,q⟩:=h
  have hl:(ns.map V.int).length = ns.length:=List.length_map _
  refine ⟨_,(R.jk (R.j8 (R.jP op_lt (R.pv 1) (R.Jz Ja rfl Je PySem.boot_len (R.pa_c (R.pv 0) R.ji)) (j5 _)) (R.jr (R.jJ (R.jF Jm (R.jY (R.ixL K) (R.pv 0) (R.pv 1) (fun _ _=>rfl)) (R.jF jhZ R.jj R.jj)))) R.jM)
    (R.jk (R.j8 (R.jP (op_eqI hr.jjY) (R.pv 0) (R.JK R.ji) (j5 _)) (R.jr (R.jJ (R.jF JB (R.jF qG R.jj (R.pv 1)) R.jj))) R.jM)
    (R.jr (R.jJ (R.jF Jm (R.jF qG (R.jF JB (R.jF Jm (R.jY (R.ixL K) (R.pv 0) (R.jF (opE Jm) (R.pv 1) (R.Jz Ja rfl Je PySem.boot_len (R.pa_c (R.pv 0) R.ji))) (fun _ _=>rfl)) R.jj) (R.jF qG R.jj (R.pv 1))) (R.jF JB R.jj (R.jF qG R.jj (R.pv 1)))) R.jj))))),?_⟩
  refine ⟨_,rfl,_,rfl,a,_,rfl,.inl hS,_,_,rfl,rfl,_,rfl,?_⟩
  refine ite2 (fun c=>?_) (fun c=>?_)
  · have c':(k:Int) < (((ns.map V.int).length:Nat):Int):=of_decide_eq_true c
    have c2:k < ns.length:=by omega
    have q':Q (.int (ns.getD k 0 % 10 ^ 60)) H:=by
      have z:=q H (Same.refl _)
      unfold yV at z; rw [if_pos c2] at z; exact z
    refine ⟨_,rfl,_,rfl,a,_,_,V.int (ns.getD k 0),rfl,rfl,hS,jdW (by rw [List.getElem?_map,List.getElem?_eq_getElem c2,List.getD_eq_getElem?_getD,List.getElem?_eq_getElem c2]; rfl),?_⟩
    refine ⟨_,_,rfl,rfl,⟨by decide,by decide,by decide⟩,_,_,rfl,rfl,?_,q'⟩
    show (0:Int) < 10 ^ 60
    decide
  · have c':¬ (k:Int) < (((ns.map V.int).length:Nat):Int):=of_decide_eq_false (Bool.eq_false_iff.mpr c)
    have c2:¬ k < ns.length:=by omega
    refine ⟨_,rfl,(by show 0 <= sizeLine; decide),fun p hp=>?_⟩
    have s1:=jC hp (.lst [])
    have hS1:=s1.seq hS
    refine ⟨a,p,ns,[],rfl,rfl,hS1,SqL.of jq,_,rfl,?_⟩
    have q':=q _ s1
    unfold yV at q'
    rw [if_neg c2] at q'
    by_cases e:ns = []
    · rw [if_pos e] at q'
      show (if (decide (ns = []):Bool) = true then _ else _)
      rw [decide_eq_true e]
      exact iteT ⟨_,rfl,_,_,rfl,rfl,Zo (by decide),_,_,rfl,rfl,q'⟩
    · rw [if_neg e] at q'
      show (if (decide (ns = []):Bool) = true then _ else _)
      rw [decide_eq_false e]
      refine iteF ?_
      have hpos:0 < ns.length:=List.length_pos_iff.mpr e
      have hlt:k % ns.length < ns.length:=Nat.mod_lt _ hpos
      refine ⟨_,rfl,_,rfl,_,rfl,a,_,rfl,.inl hS1,_,_,nv (k % ns.length),rfl,rfl,(by show (0:Int) < _; omega),?_,a,_,_,V.int (ns.getD (k % ns.length) 0),rfl,rfl,hS1,jdW (by rw [List.getElem?_map,List.getElem?_eq_getElem hlt,List.getD_eq_getElem?_getD,List.getElem?_eq_getElem hlt]; rfl),?_⟩
      · show V.int ((k:Int) % (((ns.map V.int).length:Nat):Int)) = V.int ((k % ns.length:Nat):Int)
        rw [hl]; rfl
      refine ⟨_,_,rfl,rfl,(by show (0:Int) < 1000003; decide),_,rfl,_,_,rfl,rfl,Zo (by decide),_,_,rfl,rfl,_,rfl,_,_,rfl,rfl,Zo (by decide),_,_,rfl,rfl,_,_,rfl,rfl,JP (by omega),_,_,rfl,rfl,(by show (0:Int) < 2147483647; decide),q'⟩
theorem jiN {f:Addr} {fd:FuncData} (F:Fun K "_law_amount" "_law_amount" jda f fd) (jH:mg "_law_amount" = some (.ref f)):jK P w K mg base 1 "_law_amount" ["_law_cell_here"] [] (jeI K):=by
  refine F.jX jH (bnd1 F fun _ _ _ _ _ _ _=>rfl) jeG (fun vs H Q E h=>?_) (fun cdv A outer s H vs Q E hr h=>?_)
  · obtain ⟨c,rfl,_⟩:=h; rfl
  obtain ⟨c,rfl,q⟩:=h
  refine ⟨_,(R.jk (R.jT (i:=1) jeG.nd rfl (Or.inl rfl) (R.jF Jm (R.pv 0) R.jj))
    (R.jk (R.j8 (R.jP Jv (R.pv 1) R.jj (j5 _)) (R.jr (R.jJ R.jj)) R.jM)
    (R.jk (R.j8 (R.jP Jv (R.pv 1) R.jj (j5 _)) (R.jr (R.jJ (R.jF jhZ R.jj R.jj))) R.jM)
    (R.jk (R.j8 (R.jP op_lt (R.pv 1) R.jj (j5 _)) (R.jr (R.jJ (R.jF JB R.jj (R.jF Jm (R.jF Qs (R.pv 0) R.jj) R.jj)))) R.jM)
    (R.jr (R.jJ (R.jF Jm (R.jF Qs (R.pv 0) R.jj) (R.jF JB (R.jF jhZ R.jj R.jj) R.jj)))))))),?_⟩
  refine ⟨_,rfl,_,_,rfl,rfl,(by show (0:Int) < 6; decide),?_⟩
  unfold qj at q
  refine ⟨_,rfl,rfl,_,rfl,?_⟩
  refine ite2 (fun e=>?_) (fun e=>?_)
  · have e':c % 6 = 0:=V.int.inj (of_decide_eq_true e)
    rw [if_pos e'] at q; exact q
  have e':¬ c % 6 = 0:=fun z=>e (decide_eq_true (congrArg V.int z))
  rw [if_neg e'] at q
  refine ⟨_,rfl,rfl,_,rfl,?_⟩
  refine ite2 (fun d=>?_) (fun d=>?_)
  · have d':c % 6 = 1:=V.int.inj (of_decide_eq_true d)
    rw [if_pos d'] at q
    exact ⟨_,_,rfl,rfl,⟨by decide,by decide,by decide⟩,q⟩
  have d':¬ c % 6 = 1:=fun z=>d (decide_eq_true (congrArg V.int z))
  rw [if_neg d'] at q
  refine ⟨_,rfl,_,_,rfl,rfl,_,rfl,?_⟩
  refine ite2 (fun g=>?_) (fun g=>?_)
  · have g':c % 6 < 4:=of_decide_eq_true g
    rw [if_pos g'] at q
    exact ⟨_,rfl,_,_,rfl,rfl,⟨by decide,by decide⟩,_,_,rfl,rfl,(by show (0:Int) < 12; decide),_,_,rfl,rfl,q⟩
  · have g':¬ c % 6 < 4:=of_decide_eq_false (Bool.eq_false_iff.mpr g)
    rw [if_neg g'] at q
    refine ⟨_,rfl,_,_,rfl,rfl,⟨by decide,by decide⟩,?_⟩
    exact ⟨_,_,rfl,rfl,⟨by decide,by decide,by decide⟩,_,_,rfl,rfl,_,_,rfl,rfl,(by show (0:Int) < 10 ^ 9 + 1; decide),q⟩
theorem Ym (c:Int) (m:Nat) (hm:0 < m):∃ b:Nat,c % (m:Int) = (b:Int) /\ b < m:=by
  have a1:=Int.emod_nonneg c (show (m:Int) ≠ 0 by omega)
  have a2:=Int.emod_lt_of_pos c (show (0:Int) < (m:Int) by omega)
  exact ⟨(c % (m:Int)).toNat,by omega,by omega⟩
theorem jb2 {f:Addr} {fd:FuncData} (F:Fun K "depth" "Bid.depth" zg f fd)
    (jN:Own K mg "Bid" ju [])
    (jE:Own K mg "Only" jh ["bundle", "amount"])
    (jt:Own K mg "SoMany" jb ["kind", "least", "amount"])
    (jD:Own K mg "UpTo" jg ["kind", "most", "each"])
    (jx:Own K mg "Several" jc ["bids"])
    (jA:Own K mg "AnyOf" jd ["bids"])
    (jB:Own K mg "OneOf" je ["bids"])
    (jy:Own K mg "Stock" jf ["numbers", "kinds"]):FnOk P w K mg base CX0 1 f fd ["self"] (jgx K ju):=by
  refine F.okQ jgk (fun vs H Q E h=>?_) (fun cdv A outer s H vs Q E hr h=>?_)
  · obtain ⟨a,rfl,_⟩:=h; rfl
  obtain ⟨a,rfl,q⟩:=h
  refine ⟨_,(R.jr (R.jJ R.jj)),?_⟩
  exact q
theorem jb3 {f:Addr} {fd:FuncData} (F:Fun K "tally" "Bid.tally" zj f fd)
    (jN:Own K mg "Bid" ju [])
    (jE:Own K mg "Only" jh ["bundle", "amount"])
    (jt:Own K mg "SoMany" jb ["kind", "least", "amount"])
    (jD:Own K mg "UpTo" jg ["kind", "most", "each"])
    (jx:Own K mg "Several" jc ["bids"])
    (jA:Own K mg "AnyOf" jd ["bids"])
    (jB:Own K mg "OneOf" je ["bids"])
    (jy:Own K mg "Stock" jf ["numbers", "kinds"]):FnOk P w K mg base CX0 1 f fd ["self"] (jgy K ju):=by
  refine F.okQ jgl (fun vs H Q E h=>?_) (fun cdv A outer s H vs Q E hr h=>?_)
  · obtain ⟨a,rfl,_⟩:=h; rfl
  obtain ⟨a,rfl,q⟩:=h
  refine ⟨_,(R.jr (R.jJ R.jj)),?_⟩
  exact q
theorem jgX (K:PySem.W.Frag) {ju jh jb jg jc jd je jf:Addr} {A:Addr->Prop} {H:Hp} {d:Nat} {b:Addr} {t:Tr} (hb:IsTr ju jh jb jg jd je A H d b t) (few:jW t <= 100) :
    ∃ (C dx:Addr) (fs:List (Str × V)) (sp:Sp),H b = some (.ins C dx fs) /\ fs.lookup ("depth" : Str) = none /\ T1 j9 ju jh jb jg jc jd je jf d C sp /\ ∀ Q:VK,(∀ H',Same H H'->Q (nv (j9 t)) H')->sp [.ref b] H Q E0:=by
  cases d with
  | zero=>exact hb.elim
  | succ d =>
    cases t with
    | leaf f =>
      obtain ⟨_,hb⟩:=hb
      cases f <;> obtain ⟨dx,e⟩:=hb
      · exact ⟨_,dx,_,_,e,rfl,.inl ⟨.inl rfl,rfl⟩,fun Q q=>⟨b,rfl,q H (Same.refl H)⟩⟩
      · exact ⟨_,dx,_,_,e,rfl,.inl ⟨.inr (.inl rfl),rfl⟩,fun Q q=>⟨b,rfl,q H (Same.refl H)⟩⟩
      · exact ⟨_,dx,_,_,e,rfl,.inl ⟨.inr (.inr (.inl rfl)),rfl⟩,fun Q q=>⟨b,rfl,q H (Same.refl H)⟩⟩
      · exact ⟨_,dx,_,_,e,rfl,.inl ⟨.inr (.inr (.inr rfl)),rfl⟩,fun Q q=>⟨b,rfl,q H (Same.refl H)⟩⟩
    | node any ts =>
      have hb':=hb
      obtain ⟨dx,l,bs,e1,e2,e3,e4⟩:=hb
      have few2:jR ts <= 100:=by have:1 + jR ts <= 100:=few; omega
      refine ⟨_,dx,_,_,e1,rfl,.inr ⟨?_,rfl⟩,fun Q q=>⟨b,any,ts,A,rfl,hb',few2,q⟩⟩
      cases any
      · exact .inr rfl
      · exact .inl rfl
theorem jgY (K:PySem.W.Frag) {ju jh jb jg jc jd je jf:Addr} {A:Addr->Prop} {H:Hp} {d:Nat} {b:Addr} {t:Tr} (hb:IsTr ju jh jb jg jd je A H d b t) (few:jW t <= 100) :
    ∃ (C dx:Addr) (fs:List (Str × V)) (sp:Sp),H b = some (.ins C dx fs) /\ fs.lookup ("tally" : Str) = none /\ T1 jW ju jh jb jg jc jd je jf d C sp /\ ∀ Q:VK,(∀ H',Same H H'->Q (nv (jW t)) H')->sp [.ref b] H Q E0:=by
  cases d with
  | zero=>exact hb.elim
  | succ d =>
    cases t with
    | leaf f =>
      obtain ⟨_,hb⟩:=hb
      cases f <;> obtain ⟨dx,e⟩:=hb
      · exact ⟨_,dx,_,_,e,rfl,.inl ⟨.inl rfl,rfl⟩,fun Q q=>⟨b,rfl,q H (Same.refl H)⟩⟩
      · exact ⟨_,dx,_,_,e,rfl,.inl ⟨.inr (.inl rfl),rfl⟩,fun Q q=>⟨b,rfl,q H (Same.refl H)⟩⟩
      · exact ⟨_,dx,_,_,e,rfl,.inl ⟨.inr (.inr (.inl rfl)),rfl⟩,fun Q q=>⟨b,rfl,q H (Same.refl H)⟩⟩
      · exact ⟨_,dx,_,_,e,rfl,.inl ⟨.inr (.inr (.inr rfl)),rfl⟩,fun Q q=>⟨b,rfl,q H (Same.refl H)⟩⟩
    | node any ts =>
      have hb':=hb
      obtain ⟨dx,l,bs,e1,e2,e3,e4⟩:=hb
      have few2:jR ts <= 100:=by have:1 + jR ts <= 100:=few; omega
      refine ⟨_,dx,_,_,e1,rfl,.inr ⟨?_,rfl⟩,fun Q q=>⟨b,any,ts,A,rfl,hb',few2,q⟩⟩
      cases any
      · exact .inr rfl
      · exact .inl rfl
theorem jfy {ts:List Tr} {m:Int} (hm:jfl (ts.map fun t=>((j9 t:Nat):Int)) m):m = ((j7 ts:Nat):Int):=by
  rw [jjj]
  exact jhz (fun z hz=>by obtain ⟨t,_,rfl⟩:=List.mem_map.mp hz; exact Int.natCast_nonneg _) hm
theorem own2
    (jN:Own K mg "Bid" ju [])
    (jE:Own K mg "Only" jh ["bundle", "amount"])
    (jt:Own K mg "SoMany" jb ["kind", "least", "amount"])
    (jD:Own K mg "UpTo" jg ["kind", "most", "each"])
    (jx:Own K mg "Several" jc ["bids"])
    (jA:Own K mg "AnyOf" jd ["bids"])
    (jB:Own K mg "OneOf" je ["bids"])
    (jy:Own K mg "Stock" jf ["numbers", "kinds"]) (any:Bool):Cls K (if any = true then jd else je) /\ jaQ K (if any = true then jd else je) "bids" := by
  cases any
  · exact ⟨jB.cls,jB.no _ (Js 0 rfl)⟩
  · exact ⟨jA.cls,jA.no _ (Js 0 rfl)⟩
theorem jbr (d:Nat) {f:Addr} {fd:FuncData} (F:Fun K "depth_over" "depth_over" Q0 f fd) (jH:mg "depth_over" = some (.ref f)) (QQ:mg "max" = none)
    (jN:Own K mg "Bid" ju [])
    (jE:Own K mg "Only" jh ["bundle", "amount"])
    (jt:Own K mg "SoMany" jb ["kind", "least", "amount"])
    (jD:Own K mg "UpTo" jg ["kind", "most", "each"])
    (jx:Own K mg "Several" jc ["bids"])
    (jA:Own K mg "AnyOf" jd ["bids"])
    (jB:Own K mg "OneOf" je ["bids"])
    (jy:Own K mg "Stock" jf ["numbers", "kinds"])
    (jbL:∀ C sp,T1 j9 ju jh jb jg jc jd je jf d C sp->∃ ps,J3 P w K mg base (2 * d + 1) C "depth" ps sp):jK P w K mg base (2 * d + 2) "depth_over" ["bids"] [] (jet j7 ju jh jb jg jc jd je jf d):=by
  refine F.jX jH (bnd1 F fun _ _ _ _ _ _ _=>rfl) jeY (fun vs H Q E h=>?_) (fun cdv A outer s H vs Q E hr h=>?_)
  · obtain ⟨l,bs,ts,A,rfl,_⟩:=h; rfl
  obtain ⟨l,bs,ts,A,rfl,hl,hB,few,q⟩:=h
  have tl:=Ql ts
  refine ⟨_,(R.jr (R.jJ (R.jF (opE0 JB) R.jj (R.jfd K rfl rfl QQ (R.Jj (jw Q0) ["bids"] ["bid"] [] [] rfl rfl rfl ⟨s.heap.objs.size + 1,rfl⟩ rfl rfl (by decide +kernel) (R.JL (R.pv 0)) (fun C s2 H2 fp=>(R.jV (i:=0) (show List.Nodup (["bid"]:List Str) from by decide +kernel) rfl (Or.inl rfl))) (fun C s2 H2 fp=>R.JM) (fun C s2 H2 fp=>(R.ym (R.pv 0) jbL hr (by first | decide | omega)))) R.jj)))),?_⟩
  refine ⟨_,rfl,l,rfl,⟨_,SqL.of hl⟩,fun l2 h2=>?_⟩
  refine yh (xs:=bs.map V.ref) (fun k H'=>Same H H' /\ H' l2 = some (.lst (((ts.take k).map fun t=>((j9 t:Nat):Int)).map V.int))) ⟨jC h2 _,jq⟩ (fun k H' _ ⟨s,_⟩=>SqL.of (s _ _ hl)) ?_ ?_
  · rintro k v H1 hv ⟨s1,e1⟩ K1 K0 k1 k0
    obtain ⟨b,t,rfl,hb,ht,ib⟩:=hB.at hv
    have mt:=qD (List.mem_of_getElem? ht)
    obtain ⟨C,dx,ff,sp,g1,g2,g3,g4⟩:=jgX K (jc:=jc) (ib.same s1) (by omega)
    refine ⟨_,rfl,b,C,dx,ff,sp,rfl,g1,g2,g3,g4 _ fun H3 s3=>k1 _ _ _ (s3 _ _ e1) ?_ ⟨(s1.trans s3).upd h2 _,?_⟩⟩
    · rw [List.length_map,List.length_map,List.length_take]; exact Ji (by omega)
    · rw [jq,List.take_succ,ht,List.map_append,List.map_append]; rfl
  · rintro H1 ⟨s1,e1⟩
    rw [List.length_map,hB.1,List.take_length] at e1
    refine ⟨l2,_,0,rfl,rfl,SqL.of e1,fun e0=>⟨_,_,nv (1 + j7 ts),rfl,rfl,?_,q H1 s1⟩,fun m hm=>⟨_,_,nv (1 + j7 ts),rfl,rfl,?_,q H1 s1⟩⟩
    · have:ts = []:=List.map_eq_nil_iff.mp e0
      subst this; rfl
    · rw [jfy hm]; show V.int (1 + ((j7 ts:Nat):Int)) = V.int ((1 + j7 ts:Nat):Int)
      congr 1
theorem jc3 (d:Nat) {f:Addr} {fd:FuncData} (F:Fun K "depth" "Several.depth" Qu f fd) (QH:jK P w K mg base (2 * d + 2) "depth_over" ["bids"] [] (jet j7 ju jh jb jg jc jd je jf d))
    (jN:Own K mg "Bid" ju [])
    (jE:Own K mg "Only" jh ["bundle", "amount"])
    (jt:Own K mg "SoMany" jb ["kind", "least", "amount"])
    (jD:Own K mg "UpTo" jg ["kind", "most", "each"])
    (jx:Own K mg "Several" jc ["bids"])
    (jA:Own K mg "AnyOf" jd ["bids"])
    (jB:Own K mg "OneOf" je ["bids"])
    (jy:Own K mg "Stock" jf ["numbers", "kinds"]) :
    FnOk P w K mg base CX0 (2 * d + 3) f fd ["self"] (jeH j9 ju jh jb jg jc jd je jf (d + 1)):=by
  refine F.okQ Zy (fun vs H Q E h=>?_) (fun cdv A outer s H vs Q E hr h=>?_)
  · obtain ⟨a,any,ts,A,rfl,_⟩:=h; rfl
  obtain ⟨a,any,ts,A,rfl,hT,few,q⟩:=h
  obtain ⟨dx,l,bs,e1,e2,e3,e4⟩:=hT
  obtain ⟨hc,hn⟩:=own2 jN jE jt jD jx jA jB jy any
  refine ⟨_,(R.jr (R.jJ (R.jz QH hr (by first | decide | omega) rfl (R.pa_c (R.Jp K (R.pv 0)) R.ji)))),?_⟩
  exact ⟨_,rfl,a,_,dx,_,.ref l,rfl,e1,hc,hn,rfl,l,bs,ts,A,rfl,e3,e4,few,q⟩
theorem jg5 {fB fS fO:Addr} {dB dS dO:FuncData} (FB:Fun K "depth" "Bid.depth" zg fB dB) (FS:Fun K "depth" "Several.depth" Qu fS dS) (FO:Fun K "depth_over" "depth_over" Q0 fO dO) (gO:mg "depth_over" = some (.ref fO)) (QQ:mg "max" = none)
    (jN:Own K mg "Bid" ju [])
    (jE:Own K mg "Only" jh ["bundle", "amount"])
    (jt:Own K mg "SoMany" jb ["kind", "least", "amount"])
    (jD:Own K mg "UpTo" jg ["kind", "most", "each"])
    (jx:Own K mg "Several" jc ["bids"])
    (jA:Own K mg "AnyOf" jd ["bids"])
    (jB:Own K mg "OneOf" je ["bids"])
    (jy:Own K mg "Stock" jf ["numbers", "kinds"])
    (M1:Meth K ju "depth" fB) (M2:Meth K jh "depth" fB) (M3:Meth K jb "depth" fB) (M4:Meth K jg "depth" fB) (M5:Meth K jd "depth" fS) (M6:Meth K je "depth" fS) :
    ∀ d,∀ C sp,T1 j9 ju jh jb jg jc jd je jf d C sp->∃ ps,J3 P w K mg base (2 * d + 1) C "depth" ps sp:=by
  have leaf:=jb2 (P:=P) (w:=w) (base:=base) (mg:=mg) FB jN jE jt jD jx jA jB jy
  have bB:Binds K dB ["self"] []:=bnd1 FB fun _ _ _ _ _ _ _=>rfl
  have bS:Binds K dS ["self"] []:=bnd1 FS fun _ _ _ _ _ _ _=>rfl
  have put:∀ d,FnOk P w K mg base CX0 (2 * d + 1) fS dS ["self"] (jeH j9 ju jh jb jg jc jd je jf d)->∀ C sp,T1 j9 ju jh jb jg jc jd je jf d C sp->∃ ps,J3 P w K mg base (2 * d + 1) C "depth" ps sp:=by
    intro d hS C sp hT
    have lf:FnOk P w K mg base CX0 (2 * d + 1) fB dB ["self"] sp1:=leaf.mono (by omega)
    rcases hT with ⟨hC,rfl⟩ | ⟨hC,rfl⟩
    · rcases hC with rfl | rfl | rfl | rfl
      · exact ⟨_,fB,dB,lf,bB,M1,jN.cls⟩
      · exact ⟨_,fB,dB,lf,bB,M2,jE.cls⟩
      · exact ⟨_,fB,dB,lf,bB,M3,jt.cls⟩
      · exact ⟨_,fB,dB,lf,bB,M4,jD.cls⟩
    · rcases hC with rfl | rfl
      · exact ⟨_,fS,dS,hS,bS,M5,jA.cls⟩
      · exact ⟨_,fS,dS,hS,bS,M6,jB.cls⟩
  intro d
  induction d with
  | zero =>
    refine put 0 (FS.okQ Zy (fun vs H Q E h=>?_) (fun cdv A outer s H vs Q E hr h=>?_))
    · obtain ⟨a,any,ts,A,rfl,_⟩:=h; rfl
    · obtain ⟨a,any,ts,A,rfl,hT,_⟩:=h; exact hT.elim
  | succ d ih=>exact put (d + 1) (jc3 d FS (jbr d FO gO QQ jN jE jt jD jx jA jB jy ih) jN jE jt jD jx jA jB jy)
theorem jbt (d:Nat) {f:Addr} {fd:FuncData} (F:Fun K "tally_over" "tally_over" Q4 f fd) (jH:mg "tally_over" = some (.ref f)) (QR:mg "sum" = none)
    (jN:Own K mg "Bid" ju [])
    (jE:Own K mg "Only" jh ["bundle", "amount"])
    (jt:Own K mg "SoMany" jb ["kind", "least", "amount"])
    (jD:Own K mg "UpTo" jg ["kind", "most", "each"])
    (jx:Own K mg "Several" jc ["bids"])
    (jA:Own K mg "AnyOf" jd ["bids"])
    (jB:Own K mg "OneOf" je ["bids"])
    (jy:Own K mg "Stock" jf ["numbers", "kinds"])
    (jbM:∀ C sp,T1 jW ju jh jb jg jc jd je jf d C sp->∃ ps,J3 P w K mg base (2 * d + 1) C "tally" ps sp):jK P w K mg base (2 * d + 2) "tally_over" ["bids"] [] (jet jR ju jh jb jg jc jd je jf d):=by
  refine F.jX jH (bnd1 F fun _ _ _ _ _ _ _=>rfl) je4 (fun vs H Q E h=>?_) (fun cdv A outer s H vs Q E hr h=>?_)
  · obtain ⟨l,bs,ts,A,rfl,_⟩:=h; rfl
  obtain ⟨l,bs,ts,A,rfl,hl,hB,few,q⟩:=h
  have tl:=Ql ts
  refine ⟨_,(R.jr (R.jJ (R.jF (opE0 JB) R.jj (R.Jz (jai rfl) rfl QR (boot_sum) (R.pa_c (R.Jj (jw Q4) ["bids"] ["bid"] [] [] rfl rfl rfl ⟨s.heap.objs.size + 1,rfl⟩ rfl rfl (by decide +kernel) (R.JL (R.pv 0)) (fun C s2 H2 fp=>(R.jV (i:=0) (show List.Nodup (["bid"]:List Str) from by decide +kernel) rfl (Or.inl rfl))) (fun C s2 H2 fp=>R.JM) (fun C s2 H2 fp=>(R.ym (R.pv 0) jbM hr (by first | decide | omega)))) R.ji))))),?_⟩
  refine ⟨_,rfl,l,rfl,⟨_,SqL.of hl⟩,fun l2 h2=>?_⟩
  refine yh (xs:=bs.map V.ref) (fun k H'=>Same H H' /\ H' l2 = some (.lst (((ts.take k).map fun t=>((jW t:Nat):Int)).map V.int))) ⟨jC h2 _,jq⟩ (fun k H' _ ⟨s,_⟩=>SqL.of (s _ _ hl)) ?_ ?_
  · rintro k v H1 hv ⟨s1,e1⟩ K1 K0 k1 k0
    obtain ⟨b,t,rfl,hb,ht,ib⟩:=hB.at hv
    have mt:=qD (List.mem_of_getElem? ht)
    obtain ⟨C,dx,ff,sp,g1,g2,g3,g4⟩:=jgY K (jc:=jc) (ib.same s1) (by omega)
    refine ⟨_,rfl,b,C,dx,ff,sp,rfl,g1,g2,g3,g4 _ fun H3 s3=>k1 _ _ _ (s3 _ _ e1) ?_ ⟨(s1.trans s3).upd h2 _,?_⟩⟩
    · rw [List.length_map,List.length_map,List.length_take]; exact Ji (by omega)
    · rw [jq,List.take_succ,ht,List.map_append,List.map_append]; rfl
  · rintro H1 ⟨s1,e1⟩
    rw [List.length_map,hB.1,List.take_length] at e1
    refine ⟨l2,_,rfl,SqL.of e1,_,_,nv (1 + jR ts),rfl,rfl,?_,q H1 s1⟩
    rw [<- jdl]; show V.int (1 + ((jR ts:Nat):Int)) = V.int ((1 + jR ts:Nat):Int)
    congr 1
theorem jc4 (d:Nat) {f:Addr} {fd:FuncData} (F:Fun K "tally" "Several.tally" Qw f fd) (QM:jK P w K mg base (2 * d + 2) "tally_over" ["bids"] [] (jet jR ju jh jb jg jc jd je jf d))
    (jN:Own K mg "Bid" ju [])
    (jE:Own K mg "Only" jh ["bundle", "amount"])
    (jt:Own K mg "SoMany" jb ["kind", "least", "amount"])
    (jD:Own K mg "UpTo" jg ["kind", "most", "each"])
    (jx:Own K mg "Several" jc ["bids"])
    (jA:Own K mg "AnyOf" jd ["bids"])
    (jB:Own K mg "OneOf" je ["bids"])
    (jy:Own K mg "Stock" jf ["numbers", "kinds"]) :
    FnOk P w K mg base CX0 (2 * d + 3) f fd ["self"] (jeH jW ju jh jb jg jc jd je jf (d + 1)):=by
  refine F.okQ Zz (fun vs H Q E h=>?_) (fun cdv A outer s H vs Q E hr h=>?_)
  · obtain ⟨a,any,ts,A,rfl,_⟩:=h; rfl
  obtain ⟨a,any,ts,A,rfl,hT,few,q⟩:=h
  obtain ⟨dx,l,bs,e1,e2,e3,e4⟩:=hT
  obtain ⟨hc,hn⟩:=own2 jN jE jt jD jx jA jB jy any
  refine ⟨_,(R.jr (R.jJ (R.jz QM hr (by first | decide | omega) rfl (R.pa_c (R.Jp K (R.pv 0)) R.ji)))),?_⟩
  exact ⟨_,rfl,a,_,dx,_,.ref l,rfl,e1,hc,hn,rfl,l,bs,ts,A,rfl,e3,e4,few,q⟩
theorem jg6 {fB fS fO:Addr} {dB dS dO:FuncData} (FB:Fun K "tally" "Bid.tally" zj fB dB) (FS:Fun K "tally" "Several.tally" Qw fS dS) (FO:Fun K "tally_over" "tally_over" Q4 fO dO) (gO:mg "tally_over" = some (.ref fO)) (QR:mg "sum" = none)
    (jN:Own K mg "Bid" ju [])
    (jE:Own K mg "Only" jh ["bundle", "amount"])
    (jt:Own K mg "SoMany" jb ["kind", "least", "amount"])
    (jD:Own K mg "UpTo" jg ["kind", "most", "each"])
    (jx:Own K mg "Several" jc ["bids"])
    (jA:Own K mg "AnyOf" jd ["bids"])
    (jB:Own K mg "OneOf" je ["bids"])
    (jy:Own K mg "Stock" jf ["numbers", "kinds"])
    (M1:Meth K ju "tally" fB) (M2:Meth K jh "tally" fB) (M3:Meth K jb "tally" fB) (M4:Meth K jg "tally" fB) (M5:Meth K jd "tally" fS) (M6:Meth K je "tally" fS) :
    ∀ d,∀ C sp,T1 jW ju jh jb jg jc jd je jf d C sp->∃ ps,J3 P w K mg base (2 * d + 1) C "tally" ps sp:=by
  have leaf:=jb3 (P:=P) (w:=w) (base:=base) (mg:=mg) FB jN jE jt jD jx jA jB jy
  have bB:Binds K dB ["self"] []:=bnd1 FB fun _ _ _ _ _ _ _=>rfl
  have bS:Binds K dS ["self"] []:=bnd1 FS fun _ _ _ _ _ _ _=>rfl
  have put:∀ d,FnOk P w K mg base CX0 (2 * d + 1) fS dS ["self"] (jeH jW ju jh jb jg jc jd je jf d)->∀ C sp,T1 jW ju jh jb jg jc jd je jf d C sp->∃ ps,J3 P w K mg base (2 * d + 1) C "tally" ps sp:=by
    intro d hS C sp hT
    have lf:FnOk P w K mg base CX0 (2 * d + 1) fB dB ["self"] sp1:=leaf.mono (by omega)
    rcases hT with ⟨hC,rfl⟩ | ⟨hC,rfl⟩
    · rcases hC with rfl | rfl | rfl | rfl
      · exact ⟨_,fB,dB,lf,bB,M1,jN.cls⟩
      · exact ⟨_,fB,dB,lf,bB,M2,jE.cls⟩
      · exact ⟨_,fB,dB,lf,bB,M3,jt.cls⟩
      · exact ⟨_,fB,dB,lf,bB,M4,jD.cls⟩
    · rcases hC with rfl | rfl
      · exact ⟨_,fS,dS,hS,bS,M5,jA.cls⟩
      · exact ⟨_,fS,dS,hS,bS,M6,jB.cls⟩
  intro d
  induction d with
  | zero =>
    refine put 0 (FS.okQ Zz (fun vs H Q E h=>?_) (fun cdv A outer s H vs Q E hr h=>?_))
    · obtain ⟨a,any,ts,A,rfl,_⟩:=h; rfl
    · obtain ⟨a,any,ts,A,rfl,hT,_⟩:=h; exact hT.elim
  | succ d ih=>exact put (d + 1) (jc4 d FS (jbt d FO gO QR jN jE jt jD jx jA jB jy ih) jN jE jt jD jx jA jB jy)
theorem jeQ {f:Addr} {fd:FuncData} (F:Fun K "check_bids" "check_bids" Zx f fd) (jH:mg "check_bids" = some (.ref f)) (jZ:mg "isinstance" = none) (Qm:mg "list" = none)
    (QH:jK P w K mg base 10 "depth_over" ["bids"] [] (je5 K ju jh jb jg jc jd je jf))
    (QM:jK P w K mg base 10 "tally_over" ["bids"] [] (je6 K ju jh jb jg jc jd je jf))
    (jN:Own K mg "Bid" ju [])
    (jE:Own K mg "Only" jh ["bundle", "amount"])
    (jt:Own K mg "SoMany" jb ["kind", "least", "amount"])
    (jD:Own K mg "UpTo" jg ["kind", "most", "each"])
    (jx:Own K mg "Several" jc ["bids"])
    (jA:Own K mg "AnyOf" jd ["bids"])
    (jB:Own K mg "OneOf" je ["bids"])
    (jy:Own K mg "Stock" jf ["numbers", "kinds"])
    (yZ:PySem.W.kitOne K (.ref ju) (.ref ju) = some true)
    (yj:PySem.W.kitOne K (.ref jh) (.ref ju) = some true)
    (qT:PySem.W.kitOne K (.ref jb) (.ref ju) = some true)
    (yl:PySem.W.kitOne K (.ref jg) (.ref ju) = some true)
    (yF:PySem.W.kitOne K (.ref jc) (.ref ju) = some true)
    (Qj:PySem.W.kitOne K (.ref jd) (.ref ju) = some true)
    (Qk:PySem.W.kitOne K (.ref je) (.ref ju) = some true)
    (Y9:PySem.W.kitOne K (.ref jf) (.ref ju) = some false):jK P w K mg base 11 "check_bids" ["bids"] [] (jbB K ju jh jb jg jc jd je jf):=by
  have isB:∀ {H:Hp} {b:Addr} {d:Nat} {A:Addr->Prop} {t:Tr},IsTr ju jh jb jg jd je A H d b t->∃ t,TyOf K H (.ref b) t /\ PySem.W.kitOne K t (.ref ju) = some true:=fun {H b d A t} hb=>by
    cases d with
    | zero=>exact hb.elim
    | succ d =>
      cases t with
      | leaf f =>
        obtain ⟨_,hb⟩:=hb
        cases f <;> obtain ⟨dx,e⟩:=hb
        · exact ⟨_,jN.ty e,yZ⟩
        · exact ⟨_,jE.ty e,yj⟩
        · exact ⟨_,jt.ty e,qT⟩
        · exact ⟨_,jD.ty e,yl⟩
      | node any ts =>
        obtain ⟨dx,l,bs,e,_⟩:=hb
        cases any
        · exact ⟨_,jB.ty e,Qk⟩
        · exact ⟨_,jA.ty e,Qj⟩
  refine F.jX jH (bnd1 F fun _ _ _ _ _ _ _=>rfl) jbu (fun vs H Q E h=>?_) (fun cdv A outer s H vs Q E hr h=>?_)
  · obtain ⟨l,bs,ts,A,d,rfl,_⟩:=h; rfl
  obtain ⟨l,bs,ts,A,d,rfl,hl,hB,hd,hy,q⟩:=h
  refine ⟨_,(R.jk (R.j8 (R.qy (R.JD (R.ja1 .lst rfl jZ rfl Qm (R.pv 0)))) (R.jr R.JC) R.jM)
    (R.jk (R.qt PassesOwn.never rfl (R.JL (R.pv 0)) (R.jV (i:=1) jbu.nd rfl (Or.inl rfl)) (R.jr (R.j8 (R.qy (R.JD (R.Zt rfl jZ rfl jN.at_ (R.pv 1)))) (R.jr R.JC) R.jM)))
    (R.jk (R.j8 (R.jP jfZ (R.jz QH hr (by first | decide | omega) rfl (R.pa_c (R.pv 0) R.ji)) R.jj (j5 _)) (R.jr R.JC) R.jM)
    (R.jr (R.j8 (R.jP jfZ (R.jz QM hr (by first | decide | omega) rfl (R.pa_c (R.pv 0) R.ji)) R.jj (j5 _)) (R.jr R.JC) R.jM))))),?_⟩
  refine ⟨_,rfl,_,.lst,rfl,TyOf.lst hl,_,rfl,iteF ?_⟩
  refine ⟨_,rfl,l,rfl,⟨_,SqL.of hl⟩,?_⟩
  refine yC (xs:=bs.map V.ref) (fun i σ H'=>H' = H /\ ∃ y,σ = [some (.ref l),y]) ?_ ?_ ?_ ?_
  · exact ⟨rfl,_,rfl⟩
  · rintro i σ H' _ ⟨rfl,_⟩; exact SqL.of hl
  · rintro i v σ H' hv ⟨rfl,y,rfl⟩
    obtain ⟨b,t,rfl,hb,ht,ib⟩:=hB.at hv
    obtain ⟨t,ht,hk⟩:=isB ib
    exact ⟨_,rfl,_,t,true,rfl,ht,hk,_,rfl,iteF ⟨rfl,_,rfl⟩⟩
  · rintro σ H' ⟨rfl,y,rfl⟩
    have hB4:All2 (IsTr ju jh jb jg jd je A H' 4) bs ts:=hB.imp fun x y hy z=>IsTr.to d 4 z (by have:=yW hy; omega)
    refine ⟨_,rfl,l,bs,ts,A,rfl,hl,hB4,by omega,fun H1 s1=>⟨_,_,rfl,rfl,_,rfl,?_⟩⟩
    rw [decide_eq_false (show ¬ (4:Int) < ((1 + j7 ts:Nat):Int) by omega)]
    refine iteF ?_
    refine ⟨_,rfl,l,bs,ts,A,rfl,s1 _ _ hl,hB4.imp fun x y _ z=>z.same s1,by omega,fun H2 s2=>⟨_,_,rfl,rfl,_,rfl,?_⟩⟩
    rw [decide_eq_false (show ¬ (24:Int) < ((1 + jR ts:Nat):Int) by omega)]
    exact iteF (q _ (s1.trans s2))
theorem jbE (c:Addr) {f:Addr} {fd:FuncData} (F:Fun K "__init__" "Several.__init__" QZ f fd) (Qm:mg "list" = none)
    (Ze:jK P w K mg base 11 "check_bids" ["bids"] [] (jbB K ju jh jb jg jc jd je jf))
    (jN:Own K mg "Bid" ju [])
    (jE:Own K mg "Only" jh ["bundle", "amount"])
    (jt:Own K mg "SoMany" jb ["kind", "least", "amount"])
    (jD:Own K mg "UpTo" jg ["kind", "most", "each"])
    (jx:Own K mg "Several" jc ["bids"])
    (jA:Own K mg "AnyOf" jd ["bids"])
    (jB:Own K mg "OneOf" je ["bids"])
    (jy:Own K mg "Stock" jf ["numbers", "kinds"]):FnOk P w K mg base CX0 12 f fd ["self", "bids"] (Jq K c ju jh jb jg jc jd je jf):=by
  refine F.okQ jbF (fun vs H Q E h=>?_) (fun cdv A outer s H vs Q E hr h=>?_)
  · obtain ⟨a,dx,l,bs,ts,A,d,rfl,_⟩:=h; rfl
  obtain ⟨a,dx,l,bs,ts,A,d,rfl,ha,hc,hl,hB,hd,hy,q⟩:=h
  refine ⟨_,(R.jk (R.JW (R.jz Ze hr (by first | decide | omega) rfl (R.pa_c (R.pv 1) R.ji)))
    (R.jr (R.YT (R.pv 0) (R.Qn jdp rfl Qm (boot_list) (R.pa_c (R.pv 1) R.ji))))),?_⟩
  obtain ⟨o1,o2⟩:Cls K c /\ jaQ K c "bids" := by
    rcases hc with rfl | rfl
    · exact ⟨jA.cls,jA.no _ (Js 0 rfl)⟩
    · exact ⟨jB.cls,jB.no _ (Js 0 rfl)⟩
  refine ⟨_,rfl,l,bs,ts,A,d,rfl,hl,hB,hd,hy,fun H1 s1=>?_⟩
  refine ⟨_,rfl,l,_,rfl,.inl (SqL.of (s1 _ _ hl)),fun lb hb=>?_⟩
  have hab:a ≠ lb:=jU (s1 _ _ ha) hb
  exact ⟨_,rfl,a,c,dx,[],rfl,by rw [jO hab]; exact s1 _ _ ha,o1,o2,by decide,q H1 lb s1 hb⟩
theorem jd6 {H:Hp} {x dx:Addr} {o u:HO} (nx:H x = none) (nd:H dx = none):Same H (upd (upd (upd H dx (.own x)) x o) x u):=(((Same.refl H).upd nd _).upd nx _).upd nx _
theorem jkc {ju jh jb jg jc jd je:Addr} {A:Addr->Prop} {H H1:Hp} {x dx lb c:Addr} {bs:List Addr} {ts:List Tr} {d:Nat} {any:Bool} (nx:H x = none) (nd:H dx = none) (s1:Same (upd (upd H dx (.own x)) x (.ins c dx [])) H1) (hb:H1 lb = none) (hB:All2 (IsTr ju jh jb jg jd je A H d) bs ts) (hc:c = if any = true then jd else je) :
    Same H (upd (upd H1 lb (.lst (bs.map V.ref))) x (.ins c dx (jiA lb))) /\ H lb = none /\ IsTr ju jh jb jg jd je (fun l=>A l ∨ l = lb) (upd (upd H1 lb (.lst (bs.map V.ref))) x (.ins c dx (jiA lb))) (d + 1) x (.node any ts):=by
  have sH:Same H H1:=(((Same.refl H).upd nd _).upd nx _).trans s1
  have hlb:=sH.free hb
  have S:Same H (upd (upd H1 lb (.lst (bs.map V.ref))) x (.ins c dx (jiA lb))):=(sH.upd hlb _).upd nx _
  have ne:lb ≠ x:=fun z=>by
    have e:=s1 _ _ (jq (H:=upd H dx (.own x)) (a:=x) (o:=.ins c dx []))
    rw [<- z,hb] at e; cases e
  subst hc
  exact ⟨S,hlb,dx,lb,bs,jq,.inr rfl,by rw [jO ne]; exact jq,hB.imp fun y t _ z=>(z.same S).imp fun l zs h _=>.inl h⟩
theorem jhW {f:Addr} {fd:FuncData} (F:Fun K "size_of" "size_of" jch f fd) (jH:mg "size_of" = some (.ref f)) (Je:mg "len" = none)
    (JS:jK P w K mg base 2 "things_in" ["bundle"] [] (YG K)):jK P w K mg base 3 "size_of" ["bundle"] [] (zY K):=by
  refine F.jX jH (bnd1 F fun _ _ _ _ _ _ _=>rfl) jh8 (fun vs H Q E h=>?_) (fun cdv A outer s H vs Q E hr h=>?_)
  · obtain ⟨b,rfl,_⟩:=h; rfl
  obtain ⟨b,rfl,hb,q⟩:=h
  refine ⟨_,(R.jr (R.jJ (R.Jz Ja rfl Je PySem.boot_len (R.pa_c (R.jz JS hr (by first | decide | omega) rfl (R.pa_c (R.pv 0) R.ji)) R.ji)))),?_⟩
  refine ⟨_,rfl,b,rfl,hb,fun l H1 s1 _ e1=>⟨l,_,rfl,.inl (SqL.of e1),?_⟩⟩
  rw [List.length_map]
  exact q _ s1
theorem jgL {f:Addr} {fd:FuncData} (F:Fun K "parts_of" "parts_of" zW f fd) (jH:mg "parts_of" = some (.ref f))
    (JS:jK P w K mg base 2 "things_in" ["bundle"] [] (YG K)):jK P w K mg base 3 "parts_of" ["bundle"] [] (jcT K):=by
  refine F.jX jH (bnd1 F fun _ _ _ _ _ _ _=>rfl) zr (fun vs H Q E h=>?_) (fun cdv A outer s H vs Q E hr h=>?_)
  · obtain ⟨b,rfl,_⟩:=h; rfl
  obtain ⟨b,rfl,hb,q⟩:=h
  refine ⟨_,(R.jk (R.jT (i:=1) zr.nd rfl (Or.inl rfl) (R.JK (R.pa_c R.jj R.ji)))
    (R.jk (R.qt PassesOwn.never rfl (R.JL (R.jz JS hr (by first | decide | omega) rfl (R.pa_c (R.pv 0) R.ji))) (R.jV (i:=2) zr.nd rfl (Or.inr rfl)) (R.jr (R.jT (i:=1) zr.nd rfl (Or.inl rfl) (R.jF jjF (R.pv 1) (R.Jj (jw zW) ["bundle", "parts", "number"] ["part"] ["number"] [2] rfl rfl rfl ⟨s.heap.objs.size + 1,rfl⟩ rfl rfl (by decide +kernel) (R.JL (R.pv 1)) (fun C s2 H2 fp=>(R.jV (i:=0) (show List.Nodup (["part", "number"]:List Str) from by decide +kernel) rfl (Or.inl rfl))) (fun C s2 H2 fp=>R.JM) (fun C s2 H2 fp=>(R.jF jee (R.pv 0) (R.jF Qt R.jj (R.pv 1)))))))))
    (R.jr (R.jJ (R.pv 1))))),?_⟩
  refine ⟨(by show 1 <= sizeLine; decide),fun l0 hl0=>?_⟩
  have s0:=jC hl0 (.lst [V.int 0])
  refine ⟨_,rfl,b,rfl,hb,fun lt H1 s1 hlt e1=>⟨lt,rfl,⟨_,SqL.of e1⟩,?_⟩⟩
  have h6:=yU b
  refine yC (xs:=(things b).map nv) (fun i σ H'=>Same H1 H' /\ Same H H' /\ ∃ l x,H l = none /\ H' l = some (.lst ((yG ((things b).take i)).map nv)) /\ σ = [some (.int b),some (.ref l),x]) ?_ ?_ ?_ ?_
  · exact ⟨Same.refl _,s0.trans s1,l0,none,hl0,s1 _ _ jq,rfl⟩
  · rintro i σ H' _ ⟨s',_⟩
    exact SqL.of (s' _ _ e1)
  · rintro i x σ H' hx ⟨s',sH,l,x0,hl,el,rfl⟩
    rw [List.getElem?_map] at hx
    obtain ⟨k,hk,rfl⟩:=Option.map_eq_some_iff.mp hx
    have hi:i < (things b).length:=(List.getElem?_eq_some_iff.mp hk).1
    have k6:k < 6:=(jjT.mp (List.mem_of_getElem? hk)).1
    have hlen:(yG ((things b).take i)).length <= 32:=by
      rw [jiT,List.length_take,Nat.min_eq_left (by omega)]
      exact Nat.pow_le_pow_right (by decide) (by omega:i <= 5)
    refine ⟨_,rfl,_,rfl,l,rfl,⟨_,SqL.of el⟩,fun l2 h2=>?_⟩
    refine zR nv (yG ((things b).take i)) (fun _=>true) (fun p=>nv (p ||| 2 ^ k)) (SqL.of el) (by omega) h2 ?_ ?_ ?_
    · intro x hx H2 s2 C hC; exact hC _ (Same.refl _)
    · intro x hx _ H2 s2 C hC
      exact ⟨_,rfl,_,rfl,k,rfl,rfl,by omega,x,2 ^ k,rfl,rfl,hC _ (Same.refl _)⟩
    · intro H2 s2 e2
      rw [List.filter_eq_self.mpr (fun _ _=>rfl)] at e2
      refine ⟨l,l2,_,_,rfl,rfl,s2 _ _ el,e2,?_,fun p hp=>?_⟩
      · rw [List.length_map,List.length_map]; exact Nat.le_of_lt (Ji (by omega))
      have s3:=jC hp (.lst ((yG ((things b).take i)).map nv ++ (yG ((things b).take i)).map fun p=>nv (p ||| 2 ^ k)))
      refine ⟨(s'.trans s2).trans s3,(sH.trans s2).trans s3,p,some (nv k),(sH.trans s2).free hp,?_,rfl⟩
      rw [jq,List.take_succ,hk,show (some k).toList = [k] from rfl,jh0,List.map_append,List.map_map]; rfl
  · rintro σ H' ⟨s',sH,l,x,hl,el,rfl⟩
    rw [List.length_map,List.take_length] at el
    exact ⟨_,rfl,q l H' sH hl el⟩
theorem jaY {f:Addr} {fd:FuncData} (F:Fun K "worths_of_nothing" "worths_of_nothing" qx f fd) (jH:mg "worths_of_nothing" = some (.ref f)) (jQ:mg "range" = none):jK P w K mg base 1 "worths_of_nothing" ["many"] [] (JN K):=by
  refine F.jX jH (bnd1 F fun _ _ _ _ _ _ _=>rfl) ja7 (fun vs H Q E h=>?_) (fun cdv A outer s H vs Q E hr h=>?_)
  · obtain ⟨n,rfl,_⟩:=h; rfl
  obtain ⟨n,rfl,hn,q⟩:=h
  refine ⟨_,(R.jr (R.jJ (R.Jj (jw qx) ["many"] ["bundle"] [] [] rfl rfl rfl ⟨s.heap.objs.size + 1,rfl⟩ rfl rfl (by decide +kernel) (R.Jh rfl jQ (R.pa_c (R.jF Qt R.jj (R.pv 0)) R.ji)) (fun C s2 H2 fp=>(R.jV (i:=0) (show List.Nodup (["bundle"]:List Str) from by decide +kernel) rfl (Or.inl rfl))) (fun C s2 H2 fp=>R.JM) (fun C s2 H2 fp=>R.jj)))),?_⟩
  have f:=(pow6 hn).1
  refine ⟨_,rfl,n,rfl,rfl,by omega,_,rfl,(rng6 hn).1,(rng6 hn).2,fun l hl=>?_⟩
  rw [Int.toNat_natCast]
  refine Jl (n:=2 ^ n) (fun _=>true) (fun _=>V.int 0) (by omega) hl ?_ ?_ ?_
  · intro k H1 hk s1 C hC; exact hC _ (Same.refl _)
  · intro k H1 hk _ s1 C hC; exact hC _ (Same.refl _)
  · intro H1 s1 e1
    refine q l H1 s1 hl ?_
    rw [e1,List.filter_eq_self.mpr (fun _ _=>rfl),List.map_map]; rfl
theorem jbo {f:Addr} {fd:FuncData} (F:Fun K "worths" "Bid.worths" Yr f fd)
    (j6:jK P w K mg base 1 "worths_of_nothing" ["many"] [] (JN K))
    (jN:Own K mg "Bid" ju [])
    (jE:Own K mg "Only" jh ["bundle", "amount"])
    (jt:Own K mg "SoMany" jb ["kind", "least", "amount"])
    (jD:Own K mg "UpTo" jg ["kind", "most", "each"])
    (jx:Own K mg "Several" jc ["bids"])
    (jA:Own K mg "AnyOf" jd ["bids"])
    (jB:Own K mg "OneOf" je ["bids"])
    (jy:Own K mg "Stock" jf ["numbers", "kinds"]):FnOk P w K mg base CX0 2 f fd ["self", "many"] (jbx K ju):=by
  refine F.okQ jeW (fun vs H Q E h=>?_) (fun cdv A outer s H vs Q E hr h=>?_)
  · obtain ⟨a,dx,n,rfl,_⟩:=h; rfl
  obtain ⟨a,dx,n,rfl,hn,e,q⟩:=h
  refine ⟨_,(R.jr (R.jJ (R.jz j6 hr (by first | decide | omega) rfl (R.pa_c (R.pv 1) R.ji)))),?_⟩
  exact ⟨_,rfl,n,rfl,hn,fun l H' s' hl e'=>q l H' s' hl e'⟩
theorem jav {f:Addr} {fd:FuncData} (F:Fun K "worths" "Only.worths" Qf f fd) (jQ:mg "range" = none)
    (qz:jK P w K mg base 1 "holds" ["one", "other"] [] (ZF K))
    (jN:Own K mg "Bid" ju [])
    (jE:Own K mg "Only" jh ["bundle", "amount"])
    (jt:Own K mg "SoMany" jb ["kind", "least", "amount"])
    (jD:Own K mg "UpTo" jg ["kind", "most", "each"])
    (jx:Own K mg "Several" jc ["bids"])
    (jA:Own K mg "AnyOf" jd ["bids"])
    (jB:Own K mg "OneOf" je ["bids"])
    (jy:Own K mg "Stock" jf ["numbers", "kinds"]):FnOk P w K mg base CX0 2 f fd ["self", "many"] (jaE K jh):=by
  refine F.okQ jen (fun vs H Q E h=>?_) (fun cdv A outer s H vs Q E hr h=>?_)
  · obtain ⟨a,dx,n,b,m,rfl,_⟩:=h; rfl
  obtain ⟨a,dx,n,b,m,rfl,hn,hb,e,q⟩:=h
  refine ⟨_,(R.jr (R.jJ (R.Jj (jw Qf) ["self", "many"] ["bundle"] ["self"] [0] rfl rfl rfl ⟨s.heap.objs.size + 1,rfl⟩ rfl rfl (by decide +kernel) (R.Jh rfl jQ (R.pa_c (R.jF Qt R.jj (R.pv 1)) R.ji)) (fun C s2 H2 fp=>(R.jV (i:=0) (show List.Nodup (["bundle", "self"]:List Str) from by decide +kernel) rfl (Or.inl rfl))) (fun C s2 H2 fp=>R.JM) (fun C s2 H2 fp=>(R.jdD (R.JD (R.jz qz hr (by first | decide | omega) rfl (R.pa_c (R.pv 0) (R.pa_c (R.Jp K (R.pv 1)) R.ji)))) (R.Jp K (R.pv 1)) R.jj))))),?_⟩
  have f:=(pow6 hn).1
  refine ⟨_,rfl,n,rfl,rfl,by omega,_,rfl,(rng6 hn).1,(rng6 hn).2,fun l0 hl=>?_⟩
  rw [Int.toNat_natCast]
  refine Jl (n:=2 ^ n) (fun _=>true) (fun x=>V.int (yf (.only b m) x)) (by omega) hl ?_ ?_ ?_
  · intro x H1 hx s1 C hC; exact hC _ (Same.refl _)
  · intro x H1 hx _ s1 C hC
    rw [Int.zero_add]
    have e1:=s1 _ _ e
    refine ⟨_,rfl,_,rfl,a,jh,dx,_,nv b,rfl,e1,jE.cls,jE.no _ (Js 0 rfl),rfl,x,b,rfl,_,rfl,?_⟩
    by_cases hc:x &&& b = b
    · rw [decide_eq_true hc]
      refine iteT ⟨_,rfl,a,jh,dx,_,.int m,rfl,e1,jE.cls,jE.no _ (Js 1 rfl),rfl,?_⟩
      have z:=hC _ (Same.refl H1)
      rw [show yf (.only b m) x = m from if_pos hc] at z
      exact z
    · rw [decide_eq_false hc]
      refine iteF ?_
      have z:=hC _ (Same.refl H1)
      rw [show yf (.only b m) x = 0 from if_neg hc] at z
      exact z
  · intro H1 s1 e1
    refine q l0 H1 s1 hl ?_
    rw [e1,List.filter_eq_self.mpr (fun _ _=>rfl)]
    unfold jfg
    rw [List.map_map]; rfl
theorem Zr {f:Addr} {fd:FuncData} (F:Fun K "worths" "SoMany.worths" qH f fd) (jQ:mg "range" = none)
    (qb:jK P w K mg base 3 "size_of" ["bundle"] [] (zY K))
    (jN:Own K mg "Bid" ju [])
    (jE:Own K mg "Only" jh ["bundle", "amount"])
    (jt:Own K mg "SoMany" jb ["kind", "least", "amount"])
    (jD:Own K mg "UpTo" jg ["kind", "most", "each"])
    (jx:Own K mg "Several" jc ["bids"])
    (jA:Own K mg "AnyOf" jd ["bids"])
    (jB:Own K mg "OneOf" je ["bids"])
    (jy:Own K mg "Stock" jf ["numbers", "kinds"]):FnOk P w K mg base CX0 4 f fd ["self", "many"] (ZD K jb):=by
  refine F.okQ jdf (fun vs H Q E h=>?_) (fun cdv A outer s H vs Q E hr h=>?_)
  · obtain ⟨a,dx,n,k,l,m,rfl,_⟩:=h; rfl
  obtain ⟨a,dx,n,k,l,m,rfl,hn,hk,e,q⟩:=h
  refine ⟨_,(R.jr (R.jJ (R.Jj (jw qH) ["self", "many"] ["bundle"] ["self"] [0] rfl rfl rfl ⟨s.heap.objs.size + 1,rfl⟩ rfl rfl (by decide +kernel) (R.Jh rfl jQ (R.pa_c (R.jF Qt R.jj (R.pv 1)) R.ji)) (fun C s2 H2 fp=>(R.jV (i:=0) (show List.Nodup (["bundle", "self"]:List Str) from by decide +kernel) rfl (Or.inl rfl))) (fun C s2 H2 fp=>R.JM) (fun C s2 H2 fp=>(R.jdD (R.jP op_ge (R.jz qb hr (by first | decide | omega) rfl (R.pa_c (R.jF jaZ (R.pv 0) (R.Jp K (R.pv 1))) R.ji)) (R.Jp K (R.pv 1)) (j5 _)) (R.Jp K (R.pv 1)) R.jj))))),?_⟩
  have f:=(pow6 hn).1
  refine ⟨_,rfl,n,rfl,rfl,by omega,_,rfl,(rng6 hn).1,(rng6 hn).2,fun l0 hl=>?_⟩
  rw [Int.toNat_natCast]
  refine Jl (n:=2 ^ n) (fun _=>true) (fun x=>V.int (yf (.some k l m) x)) (by omega) hl ?_ ?_ ?_
  · intro x H1 hx s1 C hC; exact hC _ (Same.refl _)
  · intro x H1 hx _ s1 C hC
    rw [Int.zero_add]
    have e1:=s1 _ _ e
    refine ⟨_,rfl,_,rfl,a,jb,dx,_,nv k,rfl,e1,jt.cls,jt.no _ (Js 0 rfl),rfl,x,k,rfl,rfl,x &&& k,rfl,jgW hk,fun H2 s2=>?_⟩
    have e2:=s2 _ _ e1
    refine ⟨_,rfl,a,jb,dx,_,nv l,rfl,e2,jt.cls,jt.no _ (Js 1 rfl),rfl,_,_,rfl,rfl,_,rfl,?_⟩
    by_cases hc:l <= (things (x &&& k)).length
    · rw [decide_eq_true (by exact_mod_cast hc)]
      refine iteT ⟨_,rfl,a,jb,dx,_,.int m,rfl,e2,jt.cls,jt.no _ (Js 2 rfl),rfl,?_⟩
      have z:=hC _ s2
      rw [show yf (.some k l m) x = m from if_pos hc] at z
      exact z
    · rw [decide_eq_false (fun z=>hc (by exact_mod_cast z))]
      refine iteF ?_
      have z:=hC _ s2
      rw [show yf (.some k l m) x = 0 from if_neg hc] at z
      exact z
  · intro H1 s1 e1
    refine q l0 H1 s1 hl ?_
    rw [e1,List.filter_eq_self.mpr (fun _ _=>rfl)]
    unfold jfg
    rw [List.map_map]; rfl
theorem jax {f:Addr} {fd:FuncData} (F:Fun K "worths" "UpTo.worths" Qg f fd) (jbl:mg "min" = none) (jQ:mg "range" = none)
    (qb:jK P w K mg base 3 "size_of" ["bundle"] [] (zY K))
    (jN:Own K mg "Bid" ju [])
    (jE:Own K mg "Only" jh ["bundle", "amount"])
    (jt:Own K mg "SoMany" jb ["kind", "least", "amount"])
    (jD:Own K mg "UpTo" jg ["kind", "most", "each"])
    (jx:Own K mg "Several" jc ["bids"])
    (jA:Own K mg "AnyOf" jd ["bids"])
    (jB:Own K mg "OneOf" je ["bids"])
    (jy:Own K mg "Stock" jf ["numbers", "kinds"]):FnOk P w K mg base CX0 4 f fd ["self", "many"] (jaG K jg):=by
  refine F.okQ jeq (fun vs H Q E h=>?_) (fun cdv A outer s H vs Q E hr h=>?_)
  · obtain ⟨a,dx,n,k,l,m,rfl,_⟩:=h; rfl
  obtain ⟨a,dx,n,k,l,m,rfl,hn,hk,e,q⟩:=h
  refine ⟨_,(R.jr (R.jJ (R.Jj (jw Qg) ["self", "many"] ["bundle"] ["self"] [0] rfl rfl rfl ⟨s.heap.objs.size + 1,rfl⟩ rfl rfl (by decide +kernel) (R.Jh rfl jQ (R.pa_c (R.jF Qt R.jj (R.pv 1)) R.ji)) (fun C s2 H2 fp=>(R.jV (i:=0) (show List.Nodup (["bundle", "self"]:List Str) from by decide +kernel) rfl (Or.inl rfl))) (fun C s2 H2 fp=>R.JM) (fun C s2 H2 fp=>(R.jF qG (R.Jp K (R.pv 1)) (R.Jz (jdY rfl) rfl jbl (boot_min) (R.pa_c (R.jz qb hr (by first | decide | omega) rfl (R.pa_c (R.jF jaZ (R.pv 0) (R.Jp K (R.pv 1))) R.ji)) (R.pa_c (R.Jp K (R.pv 1)) R.ji)))))))),?_⟩
  have f:=(pow6 hn).1
  refine ⟨_,rfl,n,rfl,rfl,by omega,_,rfl,(rng6 hn).1,(rng6 hn).2,fun l0 hl=>?_⟩
  rw [Int.toNat_natCast]
  refine Jl (n:=2 ^ n) (fun _=>true) (fun x=>V.int (yf (.most k l m) x)) (by omega) hl ?_ ?_ ?_
  · intro x H1 hx s1 C hC; exact hC _ (Same.refl _)
  · intro x H1 hx _ s1 C hC
    rw [Int.zero_add]
    have e1:=s1 _ _ e
    refine ⟨_,rfl,a,jg,dx,_,.int m,rfl,e1,jD.cls,jD.no _ (Js 2 rfl),rfl,?_⟩
    refine ⟨_,rfl,_,rfl,a,jg,dx,_,nv k,rfl,e1,jD.cls,jD.no _ (Js 0 rfl),rfl,x,k,rfl,rfl,x &&& k,rfl,jgW hk,fun H2 s2=>?_⟩
    have e2:=s2 _ _ e1
    have t6:=yU (x &&& k)
    refine ⟨_,rfl,a,jg,dx,_,nv l,rfl,e2,jD.cls,jD.no _ (Js 1 rfl),rfl,_,_,rfl,?_⟩
    refine ⟨_,_,rfl,rfl,JP ?_,?_⟩
    · split <;> omega
    have z:=hC _ s2
    have ez:yf (.most k l m) x = m * (if (l:Int) < ((things (x &&& k)).length:Int) then (l:Int) else ((things (x &&& k)).length:Int)):=by
      show m * ((if l < (things (x &&& k)).length then l else (things (x &&& k)).length:Nat):Int) = _
      congr 1
      by_cases hc:l < (things (x &&& k)).length
      · rw [if_pos hc,if_pos (by exact_mod_cast hc)]
      · rw [if_neg hc,if_neg (fun z=>hc (by exact_mod_cast z))]
    rw [ez] at z
    exact z
  · intro H1 s1 e1
    refine q l0 H1 s1 hl ?_
    rw [e1,List.filter_eq_self.mpr (fun _ _=>rfl)]
    unfold jfg
    rw [List.map_map]; rfl
theorem jjD {f:Addr} {fd:FuncData} (F:Fun K "_law_whole" "_law_whole" jej f fd) (jH:mg "_law_whole" = some (.ref f)) (jZ:mg "isinstance" = none) (jat:mg "int" = none) (jd5:mg "bool" = none):jK P w K mg base 1 "_law_whole" ["_law_found"] [] (jgw K):=by
  refine F.jX jH (bnd1 F fun _ _ _ _ _ _ _=>rfl) jjK (fun vs H Q E h=>?_) (fun cdv A outer s H vs Q E hr h=>?_)
  · obtain ⟨v,n,rfl,_⟩:=h; rfl
  obtain ⟨v,n,rfl,hk,q⟩:=h
  refine ⟨_,(R.jr (R.jJ (R.jeg (R.ja1 .int rfl jZ rfl jat (R.pv 0)) (R.jb9 (R.jf3 (R.ja1 .bl rfl jZ rfl jd5 (R.pv 0))))))),?_⟩
  refine ⟨_,rfl,v,n,rfl,hk,_,rfl,?_⟩
  refine ite2 (fun c=>?_) (fun c=>?_)
  · refine ⟨_,rfl,v,n,rfl,hk,_,rfl,?_⟩
    rw [(jcC n).1 c]; exact q
  · show Q (.bl false) H
    rw [(jcC n).2 c]; exact q
theorem getD_at {ws:List Int} {b:Nat} (h:b < ws.length):atI (ws.map V.int) (b:Int) = some (V.int (ws.getD b 0)):=by
  refine jdW ?_
  rw [List.getElem?_map,List.getElem?_eq_getElem h,List.getD_eq_getElem?_getD,List.getElem?_eq_getElem h]; rfl
theorem size_sum:∀ b < 64,([1,2,4,8,16,32].map fun x=>((b / x % 2:Nat):Int)).sum = ((things b).length:Int):=by decide +kernel
theorem ones6 {x:Nat} (hx:x ∈ [1,2,4,8,16,32]):0 < x /\ x <= 32:=by
  simp only [List.mem_cons,List.not_mem_nil,or_false] at hx
  rcases hx with e | e | e | e | e | e <;> subst e <;> decide
theorem jkQ {f:Addr} {fd:FuncData} (F:Fun K "_law_size" "_law_size" jdH f fd) (jH:mg "_law_size" = some (.ref f)) (QR:mg "sum" = none):jK P w K mg base 1 "_law_size" ["_law_bundle"] [] (jht K):=by
  refine F.jX jH (bnd1 F fun _ _ _ _ _ _ _=>rfl) jkY (fun vs H Q E h=>?_) (fun cdv A outer s H vs Q E hr h=>?_)
  · obtain ⟨b,rfl,_⟩:=h; rfl
  obtain ⟨b,rfl,hb,q⟩:=h
  refine ⟨_,(R.jr (R.jJ (R.Jz (jai rfl) rfl QR (boot_sum) (R.pa_c (R.Jj (jw jdH) ["_law_bundle"] ["_law_by"] ["_law_bundle"] [0] rfl rfl rfl ⟨s.heap.objs.size + 1,rfl⟩ rfl rfl (by decide +kernel) (R.JL (R.JK (R.pa_c R.jj (R.pa_c R.jj (R.pa_c R.jj (R.pa_c R.jj (R.pa_c R.jj (R.pa_c R.jj R.ji)))))))) (fun C s2 H2 fp=>(R.jV (i:=0) (show List.Nodup (["_law_by", "_law_bundle"]:List Str) from by decide +kernel) rfl (Or.inl rfl))) (fun C s2 H2 fp=>R.JM) (fun C s2 H2 fp=>(R.jF (opE Jm) (R.jF (opE Qs) (R.pv 1) (R.pv 0)) R.jj))) R.ji)))),?_⟩
  refine ⟨(by show 6 <= sizeLine; decide),fun l1 h1=>⟨l1,rfl,⟨_,SqL.of jq⟩,fun l2 h2=>?_⟩⟩
  refine zR nv [1,2,4,8,16,32] (fun _=>true) (fun x=>nv (b / x % 2)) (SqL.of jq) (by decide) h2 ?_ ?_ ?_
  · intro x hx H2 s2 C hC; exact hC _ (Same.refl _)
  · intro x hx _ H2 s2 C hC
    obtain ⟨x1,x2⟩:=ones6 hx
    exact ⟨_,rfl,_,rfl,_,_,nv (b / x),rfl,rfl,⟨by omega,by omega⟩,rfl,_,_,nv (b / x % 2),rfl,rfl,(by show (0:Int) < 2; decide),rfl,hC _ (Same.refl _)⟩
  · intro H2 s2 e2
    refine ⟨l2,[1,2,4,8,16,32].map fun x=>((b / x % 2:Nat):Int),rfl,SqL.of ?_,?_⟩
    · rw [e2,List.filter_eq_self.mpr (fun _ _=>rfl),List.map_map]; rfl
    · rw [size_sum b hb]
      exact q _ ((jC h1 _).trans s2)
theorem jjx {f:Addr} {fd:FuncData} (F:Fun K "_law_gives" "_law_gives" jei f fd) (jH:mg "_law_gives" = some (.ref f)) (jat:mg "int" = none) (jbl:mg "min" = none)
    (jfk:jK P w K mg base 1 "_law_size" ["_law_bundle"] [] (jht K)):jK P w K mg base 2 "_law_gives" ["_law_form_here", "_law_bundle"] [] (jdj K):=by
  refine F.jX jH (bnd2 F fun _ _ _ _ _ _ _ _=>rfl) jgh (fun vs H Q E h=>?_) (fun cdv A outer s H vs Q E hr h=>?_)
  · obtain ⟨p,f,x,rfl,_⟩:=h; rfl
  obtain ⟨p,f,x,rfl,ok,⟨k0,l0,z0,hp,h63,fit⟩,hx,q⟩:=h
  refine ⟨_,(R.jk (R.jT (i:=2) jgh.nd rfl (Or.inl rfl) (R.jz jfk hr (by first | decide | omega) rfl (R.pa_c (R.jF jaZ (R.pv 1) (R.jY qR (R.pv 0) R.jj (fun _ _=>rfl))) R.ji)))
    (R.jk (R.j8 (R.jP Jv (R.jY qR (R.pv 0) R.jj (fun _ _=>rfl)) R.jG (j5 _)) (R.jr (R.jJ (R.jF qG (R.jY qR (R.pv 0) R.jj (fun _ _=>rfl)) (R.Qn jg3 rfl jat (boot_int) (R.pa_c (R.zb Jv (R.jF jaZ (R.pv 1) (R.jY qR (R.pv 0) R.jj (fun _ _=>rfl))) (R.jY qR (R.pv 0) R.jj (fun _ _=>rfl)) (j5 _)) R.ji))))) R.jM)
    (R.jk (R.j8 (R.jP Jv (R.jY qR (R.pv 0) R.jj (fun _ _=>rfl)) R.jG (j5 _)) (R.jr (R.jJ (R.jF qG (R.jY qR (R.pv 0) R.jj (fun _ _=>rfl)) (R.Qn jg3 rfl jat (boot_int) (R.pa_c (R.zb op_ge (R.pv 2) (R.jY qR (R.pv 0) R.jj (fun _ _=>rfl)) (j5 _)) R.ji))))) R.jM)
    (R.jk (R.j8 (R.jP Jv (R.jY qR (R.pv 0) R.jj (fun _ _=>rfl)) R.jG (j5 _)) (R.jr (R.jJ (R.jF qG (R.jY qR (R.pv 0) R.jj (fun _ _=>rfl)) (R.Jz (jdY rfl) rfl jbl (boot_min) (R.pa_c (R.pv 2) (R.pa_c (R.jY qR (R.pv 0) R.jj (fun _ _=>rfl)) R.ji)))))) R.jM)
    (R.jr (R.jJ R.jj)))))),?_⟩
  cases f with
  | none =>
    refine ⟨_,rfl,_,rfl,p,_,_,_,rfl,rfl,SqT.of hp,rfl,x,k0,rfl,rfl,x &&& k0,rfl,jgW h63,fun H1 s1=>?_⟩
    have h1:=s1 _ _ hp
    refine ⟨_,rfl,p,_,_,_,rfl,rfl,SqT.of h1,rfl,rfl,_,rfl,iteF ?_⟩
    refine ⟨_,rfl,p,_,_,_,rfl,rfl,SqT.of h1,rfl,rfl,_,rfl,iteF ?_⟩
    refine ⟨_,rfl,p,_,_,_,rfl,rfl,SqT.of h1,rfl,rfl,_,rfl,iteF ?_⟩
    exact q _ s1
  | only b m =>
    obtain ⟨rfl,rfl⟩:=fit
    obtain ⟨b1,b2,hm⟩:=ok
    refine ⟨_,rfl,_,rfl,p,_,_,_,rfl,rfl,SqT.of hp,rfl,x,b,rfl,rfl,x &&& b,rfl,jgW b2,fun H1 s1=>?_⟩
    have h1:=s1 _ _ hp
    refine ⟨_,rfl,p,_,_,_,rfl,rfl,SqT.of h1,rfl,rfl,_,rfl,iteT ?_⟩
    refine ⟨_,rfl,p,_,_,_,rfl,rfl,SqT.of h1,rfl,?_⟩
    refine ⟨_,rfl,_,rfl,p,_,_,_,rfl,rfl,SqT.of h1,rfl,x,b,rfl,rfl,_,rfl,p,_,_,_,rfl,rfl,SqT.of h1,rfl,rfl,?_⟩
    rw [show decide (V.int ((x &&& b:Nat):Int) = nv b) = decide (x &&& b = b) from Zm]
    refine .inr ⟨_,rfl,_,_,rfl,rfl,JP (by split <;> decide),?_⟩
    have z:=q _ s1
    have e:yf (.only b m) x = m * (if decide (x &&& b = b) = true then 1 else 0):=by
      show (if x &&& b = b then m else 0) = _
      by_cases hc:x &&& b = b
      · rw [if_pos hc,if_pos (decide_eq_true hc),Int.mul_one]
      · rw [if_neg hc,if_neg (by rw [decide_eq_false hc]; decide),Int.mul_zero]
    rw [e] at z
    exact z
  | some k l m =>
    obtain ⟨rfl,rfl,rfl⟩:=fit
    obtain ⟨k1,k2,l1,l2,hm⟩:=ok
    refine ⟨_,rfl,_,rfl,p,_,_,_,rfl,rfl,SqT.of hp,rfl,x,k,rfl,rfl,x &&& k,rfl,jgW k2,fun H1 s1=>?_⟩
    have h1:=s1 _ _ hp
    refine ⟨_,rfl,p,_,_,_,rfl,rfl,SqT.of h1,rfl,rfl,_,rfl,iteF ?_⟩
    refine ⟨_,rfl,p,_,_,_,rfl,rfl,SqT.of h1,rfl,rfl,_,rfl,iteT ?_⟩
    refine ⟨_,rfl,p,_,_,_,rfl,rfl,SqT.of h1,rfl,?_⟩
    refine ⟨_,rfl,_,rfl,p,_,_,_,rfl,rfl,SqT.of h1,rfl,_,_,rfl,rfl,?_⟩
    refine .inr ⟨_,rfl,_,_,rfl,rfl,JP (by split <;> decide),?_⟩
    have z:=q _ s1
    have e:yf (.some k l m) x = m * (if decide ((l:Int) <= ((things (x &&& k)).length:Int)) = true then 1 else 0):=by
      show (if l <= (things (x &&& k)).length then m else 0) = _
      by_cases hc:l <= (things (x &&& k)).length
      · rw [if_pos hc,if_pos (decide_eq_true (by exact_mod_cast hc)),Int.mul_one]
      · rw [if_neg hc,if_neg (by rw [decide_eq_false (fun z=>hc (by exact_mod_cast z))]; decide),Int.mul_zero]
    rw [e] at z
    exact z
  | most k l m =>
    obtain ⟨rfl,rfl,rfl⟩:=fit
    obtain ⟨k1,k2,l1,l2,hm⟩:=ok
    have t6:=yU (x &&& k)
    refine ⟨_,rfl,_,rfl,p,_,_,_,rfl,rfl,SqT.of hp,rfl,x,k,rfl,rfl,x &&& k,rfl,jgW k2,fun H1 s1=>?_⟩
    have h1:=s1 _ _ hp
    refine ⟨_,rfl,p,_,_,_,rfl,rfl,SqT.of h1,rfl,rfl,_,rfl,iteF ?_⟩
    refine ⟨_,rfl,p,_,_,_,rfl,rfl,SqT.of h1,rfl,rfl,_,rfl,iteF ?_⟩
    refine ⟨_,rfl,p,_,_,_,rfl,rfl,SqT.of h1,rfl,rfl,_,rfl,iteT ?_⟩
    refine ⟨_,rfl,p,_,_,_,rfl,rfl,SqT.of h1,rfl,?_⟩
    refine ⟨_,rfl,_,rfl,p,_,_,_,rfl,rfl,SqT.of h1,rfl,_,_,rfl,?_⟩
    refine ⟨_,_,rfl,rfl,JP (by split <;> omega),?_⟩
    have z:=q _ s1
    have e:yf (.most k l m) x = m * (if (l:Int) < ((things (x &&& k)).length:Int) then (l:Int) else ((things (x &&& k)).length:Int)):=by
      show m * ((if l < (things (x &&& k)).length then l else (things (x &&& k)).length:Nat):Int) = _
      congr 1
      by_cases hc:l < (things (x &&& k)).length
      · rw [if_pos hc,if_pos (by exact_mod_cast hc)]
      · rw [if_neg hc,if_neg (fun z=>hc (by exact_mod_cast z))]
    rw [e] at z
    exact z
theorem in05 {k:Nat} (h:k < 6):(decide ((0:Int) <= (k:Int)) && decide ((k:Int) <= 5)) = true:=by
  rw [decide_eq_true (by omega),decide_eq_true (by omega)]; rfl
theorem jfV {f:Addr} {fd:FuncData} (F:Fun K "bundle_of" "bundle_of" Z9 f fd) (jH:mg "bundle_of" = some (.ref f))
    (qz:jK P w K mg base 1 "holds" ["one", "other"] [] (ZF K))
    (Ju:jK P w K mg base 2 "is_within" ["thing", "least", "most"] [] (Q8 K)):jK P w K mg base 3 "bundle_of" ["numbers"] [] (jcn K):=by
  refine F.jX jH (bnd1 F fun _ _ _ _ _ _ _=>rfl) YF (fun vs H Q E h=>?_) (fun cdv A outer s H vs Q E hr h=>?_)
  · obtain ⟨p,ks,rfl,_⟩:=h; rfl
  obtain ⟨p,ks,rfl,hS,hg,q⟩:=h
  refine ⟨_,(R.jk (R.jT (i:=1) YF.nd rfl (Or.inl rfl) R.jj)
    (R.jk (R.qt PassesOwn.never rfl (R.JL (R.pv 0)) (R.jV (i:=2) YF.nd rfl (Or.inl rfl)) (R.jk (R.j8 (R.qy (R.JD (R.jz Ju hr (by first | decide | omega) rfl (R.pa_c (R.pv 2) (R.pa_c R.jj (R.pa_c R.jj R.ji)))))) (R.jr R.JC) R.jM)
      (R.jk (R.j8 (R.JD (R.jz qz hr (by first | decide | omega) rfl (R.pa_c (R.pv 1) (R.pa_c (R.jF Qt R.jj (R.pv 2)) R.ji)))) (R.jr R.JC) R.jM)
      (R.jr (R.jT (i:=1) YF.nd rfl (Or.inl rfl) (R.jF jee (R.pv 1) (R.jF Qt R.jj (R.pv 2))))))))
    (R.jr (R.jJ (R.pv 1))))),?_⟩
  refine ⟨_,rfl,p,rfl,⟨_,hS⟩,?_⟩
  refine yC (xs:=ks.map nv) (fun i σ H'=>H' = H /\ once (bun 0 (ks.take i)) (ks.drop i) = true /\ ∃ x,σ = [some (.ref p),some (nv (bun 0 (ks.take i))),x]) ?_ ?_ ?_ ?_
  · exact ⟨rfl,hg,none,rfl⟩
  · rintro i σ H' _ ⟨rfl,_⟩; exact hS
  · rintro i v σ H' hv ⟨rfl,g,x,rfl⟩
    rw [List.getElem?_map] at hv
    obtain ⟨k,hk,rfl⟩:=Option.map_eq_some_iff.mp hv
    have hi:=(List.getElem?_eq_some_iff.mp hk).1
    have ed:ks.drop i = k :: ks.drop (i + 1):=by
      rw [List.drop_eq_getElem_cons hi]
      congr 1
      exact Option.some.inj ((List.getElem?_eq_getElem hi).symm.trans hk)
    have et:bun 0 (ks.take (i + 1)) = bun 0 (ks.take i) ||| 2 ^ k:=by
      unfold bun
      rw [List.take_succ,hk,List.foldl_append]; rfl
    rw [ed] at g
    simp only [once,Bool.and_eq_true,Bool.not_eq_true',decide_eq_true_eq,decide_eq_false_iff_not] at g
    obtain ⟨⟨g1,g2⟩,g3⟩:=g
    refine ⟨_,rfl,_,0,5,rfl,.inr ⟨_,rfl,_,rfl,?_⟩⟩
    rw [in05 g1]
    refine iteF ?_
    refine ⟨_,rfl,_,rfl,k,rfl,rfl,by omega,_,_,rfl,_,rfl,?_⟩
    rw [decide_eq_false g2]
    refine iteF ?_
    refine ⟨_,rfl,_,rfl,k,rfl,rfl,by omega,_,_,rfl,rfl,rfl,?_,some (nv k),?_⟩
    · rw [et]; exact g3
    · rw [et]; rfl
  · rintro σ H' ⟨rfl,g,x,rfl⟩
    rw [List.length_map,List.take_length]
    exact ⟨_,rfl,q⟩
theorem Q9:∀ a b:List Tr,Jg (a ++ b) = Jg a ||| Jg b
  | [],b=>by show Jg b = 0 ||| Jg b; rw [Nat.zero_or]
  | x :: a,b=>by show Jb x ||| Jg (a ++ b) = (Jb x ||| Jg a) ||| Jg b; rw [Q9 a b,Nat.or_assoc]
theorem ja9 (ts:List Tr) (i:Nat) (t:Tr) (h:ts[i]? = some t):Jg (ts.take (i + 1)) = Jg (ts.take i) ||| Jb t:=by
  rw [List.take_add_one,h,Q9]
  show _ ||| (Jb t ||| 0) = _
  rw [Nat.or_zero]
structure GI (H:Hp) (lf:Addr) (d:Nat) (ts:List Tr) (i:Nat) (H':Hp) (lr:Addr) (qs rs:List Addr) (us vs:List Tr):Prop where
  s:Same H H'
  nr:H lr = none
  ne:lf ≠ lr
  ef:H' lf = some (.lst (qs.map V.ref))
  er:H' lr = some (.lst (rs.map V.ref))
  fu:All2 (FT (fun x=>x ≠ lf /\ x ≠ lr) H' (d + 1)) qs us
  fv:All2 (FT (fun x=>x ≠ lf /\ x ≠ lr) H' d) rs vs
  du:j7 us <= j7 ts + 1
  dv:j7 vs <= j7 ts
  len:us.length + vs.length <= i
  tal:jR us + jR vs <= jR (ts.take i) + us.length
  spk:Jg us ||| Jg vs = Jg (ts.take i)
section
variable {H H' H'':Hp} {lf lr lr2:Addr} {d i:Nat} {ts us vs:List Tr} {qs rs:List Addr}
theorem GI.same (g:GI H lf d ts i H' lr qs rs us vs) (S:Same H' H''):GI H lf d ts i H'' lr qs rs us vs :=
  ⟨g.s.trans S,g.nr,g.ne,S _ _ g.ef,S _ _ g.er,g.fu.imp fun _ _ _ z=>z.same S,g.fv.imp fun _ _ _ z=>z.same S,g.du,g.dv,g.len,g.tal,g.spk⟩
theorem GI.row (g:GI H lf d ts i H' lr qs rs us vs) (nf:H lf = none) {A:Addr->Prop} {p:Addr} {t:Tr} (ht:ts[i]? = some t) (hp:FT A H d p t):GI H lf d ts (i + 1) (upd H' lr (.lst ((rs ++ [p]).map V.ref))) lr qs (rs ++ [p]) us (vs ++ [t]):=by
  have nA:¬ (lr ≠ lf /\ lr ≠ lr):=fun z=>z.2 rfl
  have hp':FT (fun x=>x ≠ lf /\ x ≠ lr) H' d p t:=(hp.imp fun l zs _ e=>⟨jU e nf,jU e g.nr⟩).same g.s
  have md:=yW (List.mem_of_getElem? ht)
  refine ⟨g.s.upd g.nr _,g.nr,g.ne,by rw [jO g.ne]; exact g.ef,jq,g.fu.imp fun _ _ _ z=>z.put g.er nA,(g.fv.imp fun _ _ _ z=>z.put g.er nA).snoc (hp'.put g.er nA),g.du,?_,?_,?_,?_⟩
  · rw [Qi]; show max _ (max (j9 t) 0) <= _
    have:=g.dv; omega
  · have:=g.len
    rw [List.length_append]; show us.length + (vs.length + 1) <= i + 1; omega
  · have:=g.tal
    rw [ji5 ts i t ht,qO]; show jR us + (jR vs + (jW t + 0)) <= _; omega
  · have e:=g.spk
    rw [ja9 ts i t ht,<- e,Q9]
    show _ ||| (_ ||| (Jb t ||| 0)) = _
    rw [Nat.or_zero,Nat.or_assoc]
theorem FT.step {lr:Addr} {zs zs':List V} (ef:H' lf = some (.lst zs)) (h2:upd H' lf (.lst zs') lr2 = none) {d:Nat} {p:Addr} {t:Tr} (h:FT (fun x=>x ≠ lf /\ x ≠ lr) H' d p t):FT (fun x=>x ≠ lf /\ x ≠ lr2) (upd (upd H' lf (.lst zs')) lr2 (.lst [])) d p t:=by
  have n1:lr2 ≠ lf:=fun z=>by rw [z,jq] at h2; cases h2
  have n2:H' lr2 = none:=by rw [jO n1] at h2; exact h2
  refine FT.move (fun a xs e=>?_) (fun l ys hl e=>?_) d h
  · rw [jO (jU e n2),jO (fun z=>by rw [z,ef] at e; cases e)]; exact e
  · have n3:=jU e n2
    exact ⟨⟨hl.1,n3⟩,by rw [jO n3,jO hl.1]; exact e⟩
theorem GI.push (g:GI H lf d ts i H' lr qs rs us vs) (nf:H lf = none) {p:Addr} {t:Tr} (hp:∀ {zs':List V} {lr2:Addr},upd H' lf (.lst zs') lr2 = none->FT (fun x=>x ≠ lf /\ x ≠ lr2) (upd (upd H' lf (.lst zs')) lr2 (.lst [])) (d + 1) p t) (hd:j9 t <= j7 ts + 1) (hy:jW t <= jR vs + 1) (h1:1 <= vs.length) (hk:Jb t = Jg vs)
    (h2:upd H' lf (.lst ((qs ++ [p]).map V.ref)) lr2 = none):GI H lf d ts i (upd (upd H' lf (.lst ((qs ++ [p]).map V.ref))) lr2 (.lst [])) lr2 (qs ++ [p]) [] (us ++ [t]) []:=by
  have n1:lr2 ≠ lf:=fun z=>by rw [z,jq] at h2; cases h2
  have n2:H' lr2 = none:=by rw [jO n1] at h2; exact h2
  refine ⟨(g.s.upd nf _).upd (g.s.free n2) _,g.s.free n2,Ne.symm n1,by rw [jO (Ne.symm n1)]; exact jq,jq,(g.fu.imp fun _ _ _ z=>z.step g.ef h2).snoc (hp h2),All2.nil,?_,Nat.zero_le _,?_,?_,?_⟩
  · rw [Qi]; show max _ (max (j9 t) 0) <= _
    have:=g.du; omega
  · have:=g.len
    rw [List.length_append]; show us.length + 1 + 0 <= i; omega
  · have:=g.tal
    rw [qO,List.length_append]; show jR us + (jW t + 0) + 0 <= _ + (us.length + 1); omega
  · have e:=g.spk
    rw [<- e,Q9]
    show (_ ||| (Jb t ||| 0)) ||| 0 = _
    rw [Nat.or_zero,Nat.or_zero,hk]
end
theorem FT.up {A:Addr->Prop} {H:Hp}:∀ (d:Nat) {a:Addr} {t:Tr},FT A H d a t->FT A H (d + 1) a t
  | 0,_,_,h=>h.elim
  | d + 1,a,.leaf f,h=>h
  | d + 1,a,.node any ts,h=>by
    obtain ⟨l,bs,e1,e2,e3,e4⟩:=h
    exact ⟨l,bs,e1,e2,e3,e4.imp fun x y _ z=>FT.up d z⟩
theorem jhU {f:Addr} {fd:FuncData} (F:Fun K "_law_grouped" "_law_grouped" jcf f fd) (jH:mg "_law_grouped" = some (.ref f)) (jQ:mg "range" = none) (Je:mg "len" = none) (jas:mg "divmod" = none):jK P w K mg base 1 "_law_grouped" ["_law_forms", "_law_cell_here"] [] (jdK K):=by
  refine F.jX jH (bnd2 F fun _ _ _ _ _ _ _ _=>rfl) J8 (fun vs H Q E h=>?_) (fun cdv A outer s H vs Q E hr h=>?_)
  · obtain ⟨l,ps,ts,A,d,c,rfl,_⟩:=h; rfl
  obtain ⟨l,ps,ts,A,d,c,rfl,hl,hP,few,q⟩:=h
  refine ⟨_,(R.jk (R.jT (i:=2) J8.nd rfl (Or.inl rfl) (R.jF Jm (R.jF qG (R.jF Jm (R.pv 1) R.jj) R.jj) R.jj))
    (R.jk (R.jT (i:=3) J8.nd rfl (Or.inl rfl) (R.JK R.ji))
    (R.jk (R.jT (i:=4) J8.nd rfl (Or.inl rfl) (R.JK R.ji))
    (R.jk (R.qt PassesOwn.never rfl (R.Jh rfl jQ (R.pa_c (R.Jz Ja rfl Je PySem.boot_len (R.pa_c (R.pv 0) R.ji)) R.ji)) (R.jV (i:=5) J8.nd rfl (Or.inl rfl)) (R.jk (R.JW (R.qC (R.pv 4) (R.pa_c (R.jY (R.ixL K) (R.pv 0) (R.pv 5) (fun _ _=>rfl)) R.ji)))
      (R.jk (R.jh4 (R.Jz jeC rfl jas (boot_divmod) (R.pa_c (R.pv 2) (R.pa_c R.jj R.ji))) (R.Z7 K 2 rfl (R.JQ (R.jV (i:=2) J8.nd rfl (Or.inl rfl)) (R.JQ (R.jV (i:=6) J8.nd rfl (Or.inl rfl)) R.zc))))
      (R.jr (R.j8 (R.pt (R.jcb (R.jP Jv (R.pv 6) R.jj (j5 _)) (R.ZV (R.jP Jv (R.Jz Ja rfl Je PySem.boot_len (R.pa_c (R.pv 4) R.ji)) R.jj (j5 _))))) (R.jk (R.JW (R.qC (R.pv 3) (R.pa_c (R.jY (R.ixL K) (R.pv 4) R.jj (fun _ _=>rfl)) R.ji)))
        (R.jr (R.jT (i:=4) J8.nd rfl (Or.inl rfl) (R.JK R.ji)))) (R.jr (R.j8 (R.pt (R.jcc (R.jP op_lt (R.pv 6) R.jj (j5 _)) (R.Z8 (R.jP Jv (R.pv 5) (R.jF jef (R.Jz Ja rfl Je PySem.boot_len (R.pa_c (R.pv 0) R.ji)) R.jj) (j5 _))))) (R.jk (R.JW (R.qC (R.pv 3) (R.pa_c (R.Qo (R.pa_c (R.jY (R.ixL K) (R.JK (R.pa_c R.jG (R.pa_c R.jG R.ji))) (R.jF (opE Jm) (R.pv 6) R.jj) (fun _ _=>rfl)) (R.pa_c (R.pv 4) R.ji))) R.ji)))
          (R.jr (R.jT (i:=4) J8.nd rfl (Or.inl rfl) (R.JK R.ji)))) R.jM)))))))
    (R.jr (R.jJ (R.pv 3))))))),?_⟩
  refine ⟨_,rfl,_,_,rfl,rfl,(by show (0:Int) < 1000000007; decide),_,_,rfl,rfl,JP (by decide),_,_,rfl,rfl,(by show (0:Int) < 2147483647; decide),?_⟩
  refine ⟨(by show 0 <= sizeLine; decide),fun lf hf=>⟨(by show 0 <= sizeLine; decide),fun lr hlr=>?_⟩⟩
  have s1:=jC hf (.lst [])
  have s2:=jC hlr (.lst [])
  have pl:(ps.map V.ref).length = ts.length:=by rw [List.length_map,hP.1]
  refine ⟨_,rfl,l,_,rfl,.inl (SqL.of ((s1.trans s2) _ _ hl)),_,rfl,by omega,by omega,?_⟩
  rw [Int.toNat_natCast,pl]
  refine yX (n:=ts.length) (lo:=0) (fun i σ H'=>∃ (lr:Addr) (qs rs:List Addr) (us vs:List Tr) (num:Int) (y1 y2:Option V),GI H lf d ts i H' lr qs rs us vs /\ σ = [some (.ref l),some (.int c),some (.int num),some (.ref lf),some (.ref lr),y1,y2]) ?_ ?_ ?_
  · have hfr:lf ≠ lr:=jU (jq (H:=H) (a:=lf) (o:=.lst [])) hlr
    exact ⟨lr,[],[],[],[],_,_,_,⟨s1.trans s2,s1.free hlr,hfr,s2 _ _ jq,jq,All2.nil,All2.nil,Nat.zero_le _,Nat.zero_le _,Nat.le_refl _,Nat.zero_le _,rfl⟩,rfl⟩
  · rintro i σ H1 hi ⟨lr,qs,rs,us,vs,num,y1,y2,g,rfl⟩
    rw [Int.zero_add]
    have hti:ts[i]? = some ts[i]:=List.getElem?_eq_getElem hi
    have hpi':i < ps.length:=by rw [hP.1]; exact hi
    have hpi:ps[i]? = some ps[i]:=List.getElem?_eq_getElem hpi'
    have g1:=g.row hf hti (hP.2 i _ _ hpi hti)
    have zp:(ps.map V.ref)[i]? = some (V.ref ps[i]):=by rw [List.getElem?_map,hpi]; rfl
    have lrs:rs.length = vs.length:=g.fv.1
    have lqs:qs.length = us.length:=g.fu.1
    have gl:=g.len
    refine ⟨_,rfl,.inl ⟨rfl,_,SqL.of g.er⟩,_,rfl,_,rfl,l,_,_,_,rfl,rfl,SqL.of (g.s _ _ hl),jdW zp,lr,_,_,rfl,rfl,g.er,by rw [List.length_map]; exact Ji (by omega),?_⟩
    have er:rs.map V.ref ++ [V.ref ps[i]] = (rs ++ [ps[i]]).map V.ref:=by rw [List.map_append]; rfl
    rw [er]
    generalize upd H1 lr (.lst ((rs ++ [ps[i]]).map V.ref)) = H2 at g1 ⊢
    refine ⟨_,rfl,_,_,rfl,⟨by decide,by decide⟩,fun pt hpt=>⟨pt,_,rfl,SqT.of jq,rfl,_,_,rfl,_,_,rfl,rfl,?_⟩⟩
    have g2:=g1.same (jC hpt (.tup [.int (num / 5),.int (num % 5)]))
    generalize upd H2 pt (.tup [.int (num / 5),.int (num % 5)]) = H3 at g2 ⊢
    have lv:(vs ++ [ts[i]]).length = vs.length + 1:=List.length_append
    refine ⟨_,rfl,rfl,_,rfl,?_⟩
    refine ite2 (fun cw=>?_) (fun _=>iteF ?_)
    · refine ⟨_,rfl,lr,_,rfl,.inl (SqL.of g2.er),rfl,_,rfl,?_⟩
      refine ite2 (fun c1=>?_) (fun _=>?_)
      ·
        have c1':V.int ((((rs ++ [ps[i]]).map V.ref).length:Nat):Int) = V.int 1:=of_decide_eq_true c1
        have c2:rs = []:=by
          injection c1' with c3
          rw [List.length_map,List.length_append,List.length_singleton] at c3
          exact List.length_eq_zero_iff.mp (by omega)
        have c4:vs = []:=List.length_eq_zero_iff.mp (by rw [<- lrs,c2]; rfl)
        subst c2 c4
        refine ⟨_,rfl,.inl ⟨rfl,_,SqL.of g2.ef⟩,_,rfl,lr,_,_,_,rfl,rfl,SqL.of g2.er,rfl,lf,_,_,rfl,rfl,g2.ef,by rw [List.length_map]; exact Ji (by omega),?_⟩
        have eq:qs.map V.ref ++ [V.ref ps[i]] = (qs ++ [ps[i]]).map V.ref:=by rw [List.map_append]; rfl
        rw [eq]
        refine ⟨(by show 0 <= sizeLine; decide),fun lr2 h2=>?_⟩
        have f0:=g2.fv.2 0 ps[i] ts[i] rfl rfl
        have md:=yW (List.mem_of_getElem? hti)
        exact ⟨lr2,_,[],_,[],_,_,_,g2.push hf (fun z=>(FT.up d f0).step g2.ef z) (by omega) (by show jW ts[i] <= jW ts[i] + 0 + 1; omega) (by rw [lv]; omega) (by show Jb ts[i] = Jb ts[i] ||| 0; rw [Nat.or_zero]) h2,rfl⟩
      · refine ⟨_,rfl,_,_,rfl,rfl,_,rfl,?_⟩
        refine ite2 (fun _=>iteT ?_) (fun _=>?_)
        · have dn:j7 (vs ++ [ts[i]]) <= j7 ts:=g2.dv
          refine ⟨_,rfl,.inl ⟨rfl,_,SqL.of g2.ef⟩,(by show 2 <= sizeLine; decide),fun lw hw=>?_⟩
          have g3:=g2.same (jC hw (.lst [V.str "any",V.str "one"]))
          have ew:upd H3 lw (.lst [V.str "any",V.str "one"]) lw = some (.lst [V.str "any",V.str "one"]):=jq
          generalize upd H3 lw (.lst [V.str "any",V.str "one"]) = H4 at g3 ew ⊢
          obtain ⟨w2,ew2,hw2⟩:=Ym (num % 5) 2 (by decide)
          obtain ⟨any,ea⟩:∃ any,atI [V.str "any",V.str "one"] (w2:Int) = some (.str (JR any)):=by
            rcases (by omega:w2 = 0 ∨ w2 = 1) with e | e <;> subst e
            · exact ⟨true,rfl⟩
            · exact ⟨false,rfl⟩
          refine ⟨_,rfl,_,_,nv w2,rfl,rfl,(by show (0:Int) < 2; decide),congrArg V.int ew2,lw,_,_,_,rfl,rfl,SqL.of ew,ea,_,rfl,(by show 2 <= sizeLine; decide),fun pg hpg=>?_⟩
          have g4:=g3.same (jC hpg (.tup [.str (JR any),.ref lr]))
          have epg:upd H4 pg (.tup [.str (JR any),.ref lr]) pg = some (.tup [.str (JR any),.ref lr]):=jq
          generalize upd H4 pg (.tup [.str (JR any),.ref lr]) = H5 at g4 epg ⊢
          refine ⟨lf,_,_,rfl,rfl,g4.ef,by rw [List.length_map]; exact Ji (by omega),?_⟩
          have eq:qs.map V.ref ++ [V.ref pg] = (qs ++ [pg]).map V.ref:=by rw [List.map_append]; rfl
          rw [eq]
          refine ⟨(by show 0 <= sizeLine; decide),fun lr2 h2=>?_⟩
          refine ⟨lr2,_,[],_,[],_,_,_,g4.push (t:=.node any (vs ++ [ts[i]])) hf (fun {zs' lr3} z=>?_) (by show 1 + j7 (vs ++ [ts[i]]) <= _; omega) (by show 1 + jR (vs ++ [ts[i]]) <= _; omega) (by rw [lv]; omega) rfl h2,rfl⟩
          have m1:lr3 ≠ lf:=fun y=>by rw [y,jq] at z; cases z
          have m2:H5 lr3 = none:=by rw [jO m1] at z; exact z
          exact ⟨lr,_,by rw [jO (jU epg m2),jO (fun y=>by rw [y,g4.ef] at epg; cases epg)]; exact epg,⟨Ne.symm g4.ne,jU g4.er m2⟩,by rw [jO (jU g4.er m2),jO (Ne.symm g4.ne)]; exact g4.er,g4.fv.imp fun _ _ _ y=>y.step g4.ef z⟩
        · refine ⟨_,rfl,_,rfl,l,_,rfl,.inl (SqL.of (g2.s _ _ hl)),_,_,rfl,rfl,rfl,_,rfl,?_⟩
          refine ite2 (fun _=>?_) (fun _=>?_)
          · have dn:j7 (vs ++ [ts[i]]) <= j7 ts:=g2.dv
            refine ⟨_,rfl,.inl ⟨rfl,_,SqL.of g2.ef⟩,(by show 2 <= sizeLine; decide),fun lw hw=>?_⟩
            have g3:=g2.same (jC hw (.lst [V.str "any",V.str "one"]))
            have ew:upd H3 lw (.lst [V.str "any",V.str "one"]) lw = some (.lst [V.str "any",V.str "one"]):=jq
            generalize upd H3 lw (.lst [V.str "any",V.str "one"]) = H4 at g3 ew ⊢
            obtain ⟨w2,ew2,hw2⟩:=Ym (num % 5) 2 (by decide)
            obtain ⟨any,ea⟩:∃ any,atI [V.str "any",V.str "one"] (w2:Int) = some (.str (JR any)):=by
              rcases (by omega:w2 = 0 ∨ w2 = 1) with e | e <;> subst e
              · exact ⟨true,rfl⟩
              · exact ⟨false,rfl⟩
            refine ⟨_,rfl,_,_,nv w2,rfl,rfl,(by show (0:Int) < 2; decide),congrArg V.int ew2,lw,_,_,_,rfl,rfl,SqL.of ew,ea,_,rfl,(by show 2 <= sizeLine; decide),fun pg hpg=>?_⟩
            have g4:=g3.same (jC hpg (.tup [.str (JR any),.ref lr]))
            have epg:upd H4 pg (.tup [.str (JR any),.ref lr]) pg = some (.tup [.str (JR any),.ref lr]):=jq
            generalize upd H4 pg (.tup [.str (JR any),.ref lr]) = H5 at g4 epg ⊢
            refine ⟨lf,_,_,rfl,rfl,g4.ef,by rw [List.length_map]; exact Ji (by omega),?_⟩
            have eq:qs.map V.ref ++ [V.ref pg] = (qs ++ [pg]).map V.ref:=by rw [List.map_append]; rfl
            rw [eq]
            refine ⟨(by show 0 <= sizeLine; decide),fun lr2 h2=>?_⟩
            refine ⟨lr2,_,[],_,[],_,_,_,g4.push (t:=.node any (vs ++ [ts[i]])) hf (fun {zs' lr3} z=>?_) (by show 1 + j7 (vs ++ [ts[i]]) <= _; omega) (by show 1 + jR (vs ++ [ts[i]]) <= _; omega) (by rw [lv]; omega) rfl h2,rfl⟩
            have m1:lr3 ≠ lf:=fun y=>by rw [y,jq] at z; cases z
            have m2:H5 lr3 = none:=by rw [jO m1] at z; exact z
            exact ⟨lr,_,by rw [jO (jU epg m2),jO (fun y=>by rw [y,g4.ef] at epg; cases epg)]; exact epg,⟨Ne.symm g4.ne,jU g4.er m2⟩,by rw [jO (jU g4.er m2),jO (Ne.symm g4.ne)]; exact g4.er,g4.fv.imp fun _ _ _ y=>y.step g4.ef z⟩
          · exact ⟨lr,qs,_,us,_,_,_,_,g2,rfl⟩
    · refine ⟨_,rfl,_,_,rfl,rfl,_,rfl,?_⟩
      refine ite2 (fun _=>iteT ?_) (fun _=>?_)
      · have dn:j7 (vs ++ [ts[i]]) <= j7 ts:=g2.dv
        refine ⟨_,rfl,.inl ⟨rfl,_,SqL.of g2.ef⟩,(by show 2 <= sizeLine; decide),fun lw hw=>?_⟩
        have g3:=g2.same (jC hw (.lst [V.str "any",V.str "one"]))
        have ew:upd H3 lw (.lst [V.str "any",V.str "one"]) lw = some (.lst [V.str "any",V.str "one"]):=jq
        generalize upd H3 lw (.lst [V.str "any",V.str "one"]) = H4 at g3 ew ⊢
        obtain ⟨w2,ew2,hw2⟩:=Ym (num % 5) 2 (by decide)
        obtain ⟨any,ea⟩:∃ any,atI [V.str "any",V.str "one"] (w2:Int) = some (.str (JR any)):=by
          rcases (by omega:w2 = 0 ∨ w2 = 1) with e | e <;> subst e
          · exact ⟨true,rfl⟩
          · exact ⟨false,rfl⟩
        refine ⟨_,rfl,_,_,nv w2,rfl,rfl,(by show (0:Int) < 2; decide),congrArg V.int ew2,lw,_,_,_,rfl,rfl,SqL.of ew,ea,_,rfl,(by show 2 <= sizeLine; decide),fun pg hpg=>?_⟩
        have g4:=g3.same (jC hpg (.tup [.str (JR any),.ref lr]))
        have epg:upd H4 pg (.tup [.str (JR any),.ref lr]) pg = some (.tup [.str (JR any),.ref lr]):=jq
        generalize upd H4 pg (.tup [.str (JR any),.ref lr]) = H5 at g4 epg ⊢
        refine ⟨lf,_,_,rfl,rfl,g4.ef,by rw [List.length_map]; exact Ji (by omega),?_⟩
        have eq:qs.map V.ref ++ [V.ref pg] = (qs ++ [pg]).map V.ref:=by rw [List.map_append]; rfl
        rw [eq]
        refine ⟨(by show 0 <= sizeLine; decide),fun lr2 h2=>?_⟩
        refine ⟨lr2,_,[],_,[],_,_,_,g4.push (t:=.node any (vs ++ [ts[i]])) hf (fun {zs' lr3} z=>?_) (by show 1 + j7 (vs ++ [ts[i]]) <= _; omega) (by show 1 + jR (vs ++ [ts[i]]) <= _; omega) (by rw [lv]; omega) rfl h2,rfl⟩
        have m1:lr3 ≠ lf:=fun y=>by rw [y,jq] at z; cases z
        have m2:H5 lr3 = none:=by rw [jO m1] at z; exact z
        exact ⟨lr,_,by rw [jO (jU epg m2),jO (fun y=>by rw [y,g4.ef] at epg; cases epg)]; exact epg,⟨Ne.symm g4.ne,jU g4.er m2⟩,by rw [jO (jU g4.er m2),jO (Ne.symm g4.ne)]; exact g4.er,g4.fv.imp fun _ _ _ y=>y.step g4.ef z⟩
      · refine ⟨_,rfl,_,rfl,l,_,rfl,.inl (SqL.of (g2.s _ _ hl)),_,_,rfl,rfl,rfl,_,rfl,?_⟩
        refine ite2 (fun _=>?_) (fun _=>?_)
        · have dn:j7 (vs ++ [ts[i]]) <= j7 ts:=g2.dv
          refine ⟨_,rfl,.inl ⟨rfl,_,SqL.of g2.ef⟩,(by show 2 <= sizeLine; decide),fun lw hw=>?_⟩
          have g3:=g2.same (jC hw (.lst [V.str "any",V.str "one"]))
          have ew:upd H3 lw (.lst [V.str "any",V.str "one"]) lw = some (.lst [V.str "any",V.str "one"]):=jq
          generalize upd H3 lw (.lst [V.str "any",V.str "one"]) = H4 at g3 ew ⊢
          obtain ⟨w2,ew2,hw2⟩:=Ym (num % 5) 2 (by decide)
          obtain ⟨any,ea⟩:∃ any,atI [V.str "any",V.str "one"] (w2:Int) = some (.str (JR any)):=by
            rcases (by omega:w2 = 0 ∨ w2 = 1) with e | e <;> subst e
            · exact ⟨true,rfl⟩
            · exact ⟨false,rfl⟩
          refine ⟨_,rfl,_,_,nv w2,rfl,rfl,(by show (0:Int) < 2; decide),congrArg V.int ew2,lw,_,_,_,rfl,rfl,SqL.of ew,ea,_,rfl,(by show 2 <= sizeLine; decide),fun pg hpg=>?_⟩
          have g4:=g3.same (jC hpg (.tup [.str (JR any),.ref lr]))
          have epg:upd H4 pg (.tup [.str (JR any),.ref lr]) pg = some (.tup [.str (JR any),.ref lr]):=jq
          generalize upd H4 pg (.tup [.str (JR any),.ref lr]) = H5 at g4 epg ⊢
          refine ⟨lf,_,_,rfl,rfl,g4.ef,by rw [List.length_map]; exact Ji (by omega),?_⟩
          have eq:qs.map V.ref ++ [V.ref pg] = (qs ++ [pg]).map V.ref:=by rw [List.map_append]; rfl
          rw [eq]
          refine ⟨(by show 0 <= sizeLine; decide),fun lr2 h2=>?_⟩
          refine ⟨lr2,_,[],_,[],_,_,_,g4.push (t:=.node any (vs ++ [ts[i]])) hf (fun {zs' lr3} z=>?_) (by show 1 + j7 (vs ++ [ts[i]]) <= _; omega) (by show 1 + jR (vs ++ [ts[i]]) <= _; omega) (by rw [lv]; omega) rfl h2,rfl⟩
          have m1:lr3 ≠ lf:=fun y=>by rw [y,jq] at z; cases z
          have m2:H5 lr3 = none:=by rw [jO m1] at z; exact z
          exact ⟨lr,_,by rw [jO (jU epg m2),jO (fun y=>by rw [y,g4.ef] at epg; cases epg)]; exact epg,⟨Ne.symm g4.ne,jU g4.er m2⟩,by rw [jO (jU g4.er m2),jO (Ne.symm g4.ne)]; exact g4.er,g4.fv.imp fun _ _ _ y=>y.step g4.ef z⟩
        · exact ⟨lr,qs,_,us,_,_,_,_,g2,rfl⟩
  · rintro σ H1 ⟨lr,qs,rs,us,vs,num,y1,y2,g,rfl⟩
    have gt:=g.tal
    have gl:=g.len
    rw [List.take_length] at gt
    exact ⟨_,rfl,q lf H1 qs us g.s g.ef (g.fu.imp fun _ _ _ z=>z.imp fun _ _ _ _=>trivial) g.du (by omega) (by omega) ⟨Jg vs,by have e:=g.spk; rw [List.take_length] at e; exact e⟩⟩
end
end My
set_option Elab.async false
set_option linter.all false
set_option maxRecDepth 100000
set_option maxHeartbeats 4000000
namespace My
open PySem PySem.Spec PyProof.Rows L2 GM
noncomputable def JH (l:List Nat):Bool:=(decide (1 <= l.length) && decide (l.length <= 8)) && l.all fun c=>decide (97 <= c) && decide (c <= 122)
noncomputable def asc (l:List Nat):Bool:=l.all (· < 128)
theorem jhX {l:List Nat} (h:JH l = true):asc l = true:=by
  unfold JH at h
  rw [Bool.and_eq_true] at h
  unfold asc
  rw [List.all_eq_true] at *
  intro c hc
  have z:=h.2 c hc
  simp only [Bool.and_eq_true,decide_eq_true_eq] at z ⊢
  omega
theorem jb7 {l:List Nat} (h:JH l = true):1 <= l.length /\ l.length <= 8:=by
  unfold JH at h
  simp only [Bool.and_eq_true,decide_eq_true_eq] at h
  exact h.1
theorem jhY (a b:Nat):decide ([a] < [b]) = decide (a < b):=by
  by_cases h:a < b
  · rw [decide_eq_true h,decide_eq_true]; exact List.Lex.rel h
  · rw [decide_eq_false h,decide_eq_false]
    intro z
    cases z with
    | rel z=>exact h z
    | cons z=>cases z
theorem snoc_ind {α:Type} {P:List α->Prop} (h0:P []) (h1:∀ l a,P l->P (l ++ [a])) (l:List α):P l:=by
  have z:∀ m:List α,P m.reverse:=fun m=>by
    induction m with
    | nil=>exact h0
    | cons a m ih=>rw [List.reverse_cons]; exact h1 _ _ ih
  have:=z l.reverse
  rwa [List.reverse_reverse] at this
noncomputable abbrev sv (l:List Nat):V:=.str (tx l)
noncomputable def skey (l:List Nat):Key:=Sum.inr (tx l)
theorem jgr {l m:List Nat} (h:skey l = skey m):l = m:=jgE (Sum.inr.inj h)
noncomputable def numsOf (ns:List (List Nat)):List (Key × V):=ns.zipIdx.map fun q=>(skey q.1,.int (q.2:Nat))
theorem numsOf_len (ns:List (List Nat)):(numsOf ns).length = ns.length:=by simp [numsOf]
theorem jb0 (ns:List (List Nat)) (n:List Nat):numsOf (ns ++ [n]) = numsOf ns ++ [(skey n,.int (ns.length:Nat))]:=by simp [numsOf,List.zipIdx_append]
theorem jaK {kvs:List (Key × V)} {k j:Key} {v:V} (h:valV kvs k = none):valV (kvs ++ [(k,v)]) j = if j = k then some v else valV kvs j:=by rw [<- jiV v h,ji8]
theorem jhj:∀ (ns:List (List Nat)) (n:List Nat),ns.Nodup->n ∉ ns->valV (numsOf ns) (skey n) = none:=by
  refine snoc_ind (fun n _ _=>rfl) fun ns m ih n hd hn=>?_
  · skip
    rw [List.nodup_append] at hd
    have hm:m ∉ ns:=fun z=>hd.2.2 m z m (by simp) rfl
    rw [jb0,jaK (ih m hd.1 hm)]
    have:n ≠ m:=fun z=>hn (by simp [z])
    rw [if_neg fun z=>this (jgr z)]
    exact ih n hd.1 fun z=>hn (by simp [z])
theorem nums_at:∀ (ns:List (List Nat)) (n:List Nat) (i:Nat),ns.Nodup->ns[i]? = some n->valV (numsOf ns) (skey n) = some (.int (i:Nat)):=by
  refine snoc_ind (fun n i _ h=>by simp at h) fun ns m ih n i hd hn=>?_
  · skip
    rw [List.nodup_append] at hd
    have hm:m ∉ ns:=fun z=>hd.2.2 m z m (by simp) rfl
    rw [jb0,jaK (jhj ns m hd.1 hm)]
    by_cases hi:i < ns.length
    · rw [List.getElem?_append_left hi] at hn
      have:n ≠ m:=fun z=>hm (z ▸ List.mem_of_getElem? hn)
      rw [if_neg fun z=>this (jgr z)]
      exact ih n i hd.1 hn
    · have hi2:i = ns.length:=by
        have:=(List.getElem?_eq_some_iff.mp hn).1
        simp at this; omega
      subst hi2
      simp at hn
      subst hn
      rw [if_pos rfl]
noncomputable def Qq (ks:List (List Nat)) (k:List Nat):Nat->Nat
  | 0=>0
  | i + 1=>if ks[i]? = some k then Qq ks k i ||| 2 ^ i else Qq ks k i
theorem jfP (ks:List (List Nat)) (k:List Nat):∀ i,Qq ks k i < 2 ^ i
  | 0=>Nat.one_pos
  | i + 1=>by
    have h:=jfP ks k i
    have e:2 ^ (i + 1) = 2 ^ i + 2 ^ i:=by rw [Nat.pow_succ]; omega
    unfold Qq
    split
    · exact Nat.or_lt_two_pow (by omega) (by omega)
    · omega
theorem jhh (ks:List (List Nat)) (k:List Nat) (i:Nat):Qq ks k (i + 1) = if ks[i]? = some k then Qq ks k i + 2 ^ i else Qq ks k i:=by
  show (if ks[i]? = some k then Qq ks k i ||| 2 ^ i else Qq ks k i) = _
  split
  · have z:=Nat.two_pow_add_eq_or_of_lt (jfP ks k i) 1
    rw [Nat.mul_one] at z
    rw [Nat.or_comm,<- z]; omega
  · rfl
noncomputable def jbI (kk:List (Key × V)) (ks:List (List Nat)) (i:Nat):Prop:=kk.length <= i /\ ∀ k,valV kk (skey k) = if k ∈ ks.take i then some (nv (Qq ks k i)) else none
theorem kinds0 (ks:List (List Nat)):jbI [] ks 0:=⟨Nat.le_refl _,fun k=>by simp [valV]⟩
theorem jiH {ks:List (List Nat)} {k:List Nat}:∀ {i:Nat},k ∉ ks.take i->Qq ks k i = 0
  | 0,_=>rfl
  | i + 1,h=>by
    rw [List.take_add_one] at h
    have h1:k ∉ ks.take i:=fun z=>h (by simp [z])
    have h2:¬ ks[i]? = some k:=fun z=>h (by simp [z])
    unfold Qq
    rw [if_neg h2]
    exact jiH h1
theorem jkF {kk:List (Key × V)} {ks:List (List Nat)} {k:List Nat} {i:Nat} (h:jbI kk ks i) (hk:ks[i]? = some k):jbI (putK kk (skey k) (nv (Qq ks k i ||| 2 ^ i))) ks (i + 1):=by
  refine ⟨Nat.le_trans (jbY _ _ _) (by have:=h.1; omega),fun j=>?_⟩
  rw [ji8,List.take_add_one,hk]
  by_cases e:j = k
  · subst e
    rw [if_pos rfl,if_pos (by simp)]
    show _ = some (nv (if ks[i]? = some j then Qq ks j i ||| 2 ^ i else Qq ks j i))
    rw [if_pos hk]
  · rw [if_neg fun z=>e (jgr z),h.2 j]
    have e2:(j ∈ ks.take i ++ [k]) ↔ j ∈ ks.take i:=by simp [e]
    have e3:Qq ks j (i + 1) = Qq ks j i:=by
      show (if ks[i]? = some j then _ else _) = _
      rw [if_neg]
      rw [hk]; exact fun z=>e (Option.some.inj z).symm
    simp only [Option.toList_some,e2,e3]
noncomputable def zX (K:PySem.W.Frag):Sp:=fun vs H Q _=>∃ x,vs = [x] /\ ((∃ l,x = sv l /\ asc l = true /\ l.length <= 1000 /\ ∀ H',Same H H'->Q (.bl (JH l)) H') ∨ (∃ n,jfm K H x n /\ n ≠ .str /\ Q (.bl false) H))
noncomputable def RowsAre (_K:PySem.W.Frag) (H:Hp) (r:Addr) (ns ks:List (List Nat)):Prop:=∃ ps:List Addr,H r = some (.lst (ps.map V.ref)) /\ ps.length = ns.length /\ ks.length = ns.length /\ ∀ (i:Nat) (p:Addr),ps[i]? = some p->∃ n k,ns[i]? = some n /\ ks[i]? = some k /\ H p = some (.tup [sv n,sv k])
noncomputable def Good (ns ks:List (List Nat)):Prop:=ns.length <= 6 /\ (∀ n ∈ ns,JH n = true) /\ ns.Nodup /\ (∀ k ∈ ks,JH k = true)
noncomputable def jaU (d1 d2:Addr):List (Str × V):=putF "kinds" (.ref d2) (putF "numbers" (.ref d1) [])
noncomputable def JF (c:Addr) (H:Hp) (a:Addr) (ns ks:List (List Nat)):Prop:=∃ dx d1 d2 kk,H a = some (.ins c dx (jaU d1 d2)) /\ H d1 = some (.dK (numsOf ns)) /\ H d2 = some (.dK kk) /\ jbI kk ks ks.length /\ ks.length = ns.length /\ Good ns ks
theorem JF.same {c:Addr} {H H':Hp} {a:Addr} {ns ks:List (List Nat)} (S:Same H H') (h:JF c H a ns ks):JF c H' a ns ks:=by
  obtain ⟨dx,d1,d2,kk,h1,h2,h3,r⟩:=h
  exact ⟨dx,d1,d2,kk,S _ _ h1,S _ _ h2,S _ _ h3,r⟩
noncomputable def But (a:Addr) (H H':Hp):Prop:=∀ b o,b ≠ a->H b = some o->H' b = some o
noncomputable def yu (K:PySem.W.Frag) (c:Addr):Sp:=fun vs H Q _=>∃ (a dx r:Addr) (ns ks:List (List Nat)),vs = [.ref a,.ref r] /\ H a = some (.ins c dx []) /\ RowsAre K H r ns ks /\ Good ns ks /\ ∀ H',But a H H'->JF c H' a ns ks->Q .non H'
noncomputable def Y7 (_K:PySem.W.Frag) (c:Addr):Sp:=fun vs H Q _=>∃ a ns ks,vs = [.ref a] /\ JF c H a ns ks /\ ∀ l,H l = none->Q (.ref l) (upd H l (.lst (ns.map sv)))
noncomputable def Q7 (_K:PySem.W.Frag) (c:Addr):Sp:=fun vs H Q _=>∃ a ns ks n i,vs = [.ref a,sv n] /\ JF c H a ns ks /\ ns[i]? = some n /\ ∀ H',Same H H'->Q (.int (i:Nat)) H'
noncomputable def yQ (_K:PySem.W.Frag) (c:Addr):Sp:=fun vs H Q _=>∃ a ns ks k,vs = [.ref a,sv k] /\ JF c H a ns ks /\ k ∈ ks /\ ∀ H',Same H H'->Q (nv (Qq ks k ks.length)) H'
section
variable {P:Program} {w:World} {K:PySem.W.Frag} {mg:Str->Option Value} {base:Heap}
theorem jjt {l:List Nat} (h:l.length <= 1000):(tx l).length <= sizeLine:=by rw [Jk,sizeLine_eq]; omega
theorem jhV {f:Addr} {fd:FuncData} (F:Fun K "is_name" "is_name" ZW f fd) (jH:mg "is_name" = some (.ref f)) (jdv:mg "all" = none) (jZ:mg "isinstance" = none) (Qp:mg "str" = none) (Je:mg "len" = none):jK P w K mg base 1 "is_name" ["thing"] [] (zX K):=by
  refine F.jX jH (bnd1 F fun _ _ _ _ _ _ _=>rfl) jh7 (fun vs H Q E h=>?_) (fun cdv A outer s H vs Q E hr h=>?_)
  · obtain ⟨x,rfl,_⟩:=h; rfl
  obtain ⟨x,rfl,h⟩:=h
  refine ⟨_,(R.jk (R.j8 (R.pt (R.jcc (R.qy (R.JD (R.ja1 .str rfl jZ rfl Qp (R.pv 0)))) (R.Z8 (R.qy (R.jdG jhl jhl R.jj (R.Jz zQ rfl Je PySem.boot_len (R.pa_c (R.pv 0) R.ji)) R.jj))))) (R.jr (R.jJ R.jcN)) R.jM)
    (R.jr (R.jJ (R.Jz (jdX rfl) rfl jdv (boot_all) (R.pa_c (R.Jj (jw ZW) ["thing"] ["sign"] [] [] rfl rfl rfl ⟨s.heap.objs.size + 1,rfl⟩ rfl rfl (by decide +kernel) (R.jh3 (R.pv 0)) (fun C s2 H2 fp=>(R.jV (i:=0) (show List.Nodup (["sign"]:List Str) from by decide +kernel) rfl (Or.inl rfl))) (fun C s2 H2 fp=>R.JM) (fun C s2 H2 fp=>(R.jb8 jcv jcv R.jG (R.pv 0) R.jG))) R.ji))))),?_⟩
  rcases h with ⟨l,rfl,hA,hz,q⟩ | ⟨n,hk,hn,q⟩
  · have e0:((tx l).length:Int) = (l.length:Int):=by rw [Jk]
    refine ⟨_,rfl,sv l,.str,rfl,.str _,_,rfl,iteF ⟨_,rfl,tx l,rfl,jjt hz,1,_,rfl,rfl,_,rfl,ite2 (fun c=>?_) (fun c=>?_)⟩⟩
    · have c1:(1:Int) <= ((tx l).length:Int):=of_decide_eq_true c
      refine ⟨_,_,rfl,rfl,_,rfl,ite2 (fun c2=>?_) (fun c2=>?_)⟩
      · have c3:¬ ((tx l).length:Int) <= 8:=by simpa using c2
        have z:=q H (Same.refl _)
        have e:JH l = false:=by unfold JH; rw [decide_eq_false (show ¬ l.length <= 8 by omega),Bool.and_false,Bool.false_and]
        rw [e] at z; exact z
      · have c3:((tx l).length:Int) <= 8:=by simpa using c2
        refine ⟨_,rfl,l,rfl,hA,fun p hp=>?_⟩
        refine jdq l (fun _=>true) (fun c=>.bl (decide (97 <= c) && decide (c <= 122))) (by omega) hp (fun x hx H2 s2 C k=>k H2 (Same.refl _)) (fun x hx _ H2 s2 C k=>?_) (fun H2 s2 e2=>?_)
        · have ea:(Str.ofString "a").cps.toList = [97]:=by decide
          have ez:(Str.ofString "z").cps.toList = [122]:=by decide
          refine ⟨_,rfl,_,_,rfl,rfl,_,rfl,?_⟩
          rw [Qa,ea,jhY]
          by_cases h1:x < 97
          · rw [decide_eq_true h1]
            refine iteF ?_
            have z:=k H2 (Same.refl _)
            rw [decide_eq_false (show ¬ 97 <= x by omega),Bool.false_and] at z
            exact z
          · rw [decide_eq_false h1]
            refine iteT ⟨_,_,rfl,rfl,?_⟩
            have z:=k H2 (Same.refl _)
            rw [decide_eq_true (show 97 <= x by omega),Bool.true_and] at z
            rw [Qa,ez,jhY]
            have e3:(!decide (122 < x)) = decide (x <= 122):=by
              by_cases h2:x <= 122
              · rw [decide_eq_true h2,decide_eq_false (by omega)]; rfl
              · rw [decide_eq_false h2,decide_eq_true (by omega)]; rfl
            rw [e3]
            exact z
        · have e3:H2 p = some (.lst ((l.map fun c=>decide (97 <= c) && decide (c <= 122)).map V.bl)):=by
            rw [e2,List.filter_eq_self.mpr (fun _ _=>rfl),List.map_map]; rfl
          refine ⟨p,_,rfl,SqL.of e3,?_⟩
          have z:=q H2 s2
          unfold JH at z
          rw [decide_eq_true (show 1 <= l.length by omega),decide_eq_true (show l.length <= 8 by omega),Bool.true_and,Bool.true_and] at z
          rw [List.all_map]
          exact z
    · have c1:¬ (1:Int) <= ((tx l).length:Int):=by simpa using c
      refine ⟨_,rfl,iteT ?_⟩
      have z:=q H (Same.refl _)
      have e:JH l = false:=by unfold JH; rw [decide_eq_false (show ¬ 1 <= l.length by omega),Bool.false_and,Bool.false_and]
      rw [e] at z; exact z
  · have e:isN n .str = false:=by cases n <;> first | rfl | exact absurd rfl hn
    refine ⟨_,rfl,x,n,rfl,hk,_,rfl,?_⟩
    rw [e]
    exact iteT q
theorem Zj (d1 d2:Addr):(jaU d1 d2).lookup ("numbers" : Str) = some (V.ref d1):=by
  unfold jaU
  rw [zA,if_neg (by decide),zA,if_pos rfl]
theorem jdr (d1 d2:Addr):(jaU d1 d2).lookup ("kinds" : Str) = some (V.ref d2):=by
  unfold jaU
  rw [zA,if_pos rfl]
theorem jea {f:Addr} {fd:FuncData} (F:Fun K "names" "Stock.names" zJ f fd) (Qm:mg "list" = none)
    (jN:Own K mg "Bid" ju [])
    (jE:Own K mg "Only" jh ["bundle", "amount"])
    (jt:Own K mg "SoMany" jb ["kind", "least", "amount"])
    (jD:Own K mg "UpTo" jg ["kind", "most", "each"])
    (jx:Own K mg "Several" jc ["bids"])
    (jA:Own K mg "AnyOf" jd ["bids"])
    (jB:Own K mg "OneOf" je ["bids"])
    (jy:Own K mg "Stock" jf ["numbers", "kinds"]):FnOk P w K mg base CX0 1 f fd ["self"] (Y7 K jf):=by
  refine F.okQ jeo (fun vs H Q E h=>?_) (fun cdv A outer s H vs Q E hr h=>?_)
  · obtain ⟨a,ns,ks,rfl,_⟩:=h; rfl
  obtain ⟨a,ns,ks,rfl,⟨dx,d1,d2,kk,h1,h2,h3,hk,hl,hg⟩,q⟩:=h
  refine ⟨_,(R.jr (R.jJ (R.Qn (jhK rfl) rfl Qm (boot_list) (R.pa_c (R.Jp K (R.pv 0)) R.ji)))),?_⟩
  refine ⟨_,rfl,a,jf,dx,_,.ref d1,rfl,h1,jy.cls,jy.no _ (by simp),Zj d1 d2,⟨d1,_,rfl,h2,fun l hl=>?_⟩⟩
  have e:((numsOf ns).map fun q=>kV q.1) = ns.map sv:=by
    unfold numsOf
    rw [List.map_map]
    have e2:((fun q:Key × V=>kV q.1) ∘ fun q:List Nat × Nat=>(skey q.1,V.int (q.2:Nat))) = sv ∘ Prod.fst:=rfl
    rw [e2,<- List.map_map,List.zipIdx_map_fst]
  rw [e]; exact q l hl
theorem jb6 {f:Addr} {fd:FuncData} (F:Fun K "number_of" "Stock.number_of" yt f fd)
    (J9:jK P w K mg base 1 "is_name" ["thing"] [] (zX K))
    (jN:Own K mg "Bid" ju [])
    (jE:Own K mg "Only" jh ["bundle", "amount"])
    (jt:Own K mg "SoMany" jb ["kind", "least", "amount"])
    (jD:Own K mg "UpTo" jg ["kind", "most", "each"])
    (jx:Own K mg "Several" jc ["bids"])
    (jA:Own K mg "AnyOf" jd ["bids"])
    (jB:Own K mg "OneOf" je ["bids"])
    (jy:Own K mg "Stock" jf ["numbers", "kinds"]):FnOk P w K mg base CX0 2 f fd ["self", "name"] (Q7 K jf):=by
  refine F.okQ jcj (fun vs H Q E h=>?_) (fun cdv A outer s H vs Q E hr h=>?_)
  · obtain ⟨a,ns,ks,n,i,rfl,_⟩:=h; rfl
  obtain ⟨a,ns,ks,n,i,rfl,⟨dx,d1,d2,kk,h1,h2,h3,hk,hl,hg⟩,hi,q⟩:=h
  have hn:JH n = true:=hg.2.1 n (List.mem_of_getElem? hi)
  have hv:=nums_at ns n i hg.2.2.1 hi
  refine ⟨_,(R.jk (R.j8 (R.pt (R.jcc (R.qy (R.JD (R.jz J9 hr (by first | decide | omega) rfl (R.pa_c (R.pv 1) R.ji)))) (R.Z8 (R.jP (jhk hr.units) (R.pv 1) (R.Jp K (R.pv 0)) (by with_unfolding_all rfl))))) (R.jr R.JC) R.jM)
    (R.jr (R.jJ (R.jfb hr.units (R.Jp K (R.pv 0)) (R.pv 1))))),?_⟩
  refine ⟨_,rfl,_,rfl,.inl ⟨n,rfl,jhX hn,by have:=(jb7 hn).2; omega,fun H1 s1=>?_⟩⟩
  rw [hn]
  refine ⟨_,rfl,iteF ?_⟩
  refine ⟨_,rfl,_,rfl,a,jf,dx,_,.ref d1,rfl,s1 _ _ h1,jy.cls,jy.no _ (by simp),Zj d1 d2,⟨d1,_,rfl,DGet.k (k:=skey n) (s1 _ _ h2),?_⟩⟩
  rw [hv]
  refine ⟨_,rfl,iteF ?_⟩
  exact ⟨_,rfl,a,jf,dx,_,.ref d1,rfl,s1 _ _ h1,jy.cls,jy.no _ (by simp),Zj d1 d2,_,rfl,d1,_,rfl,hv ▸ DGet.k (k:=skey n) (s1 _ _ h2),q H1 s1⟩
theorem jc5 {f:Addr} {fd:FuncData} (F:Fun K "kind_of" "Stock.kind_of" Yu f fd)
    (J9:jK P w K mg base 1 "is_name" ["thing"] [] (zX K))
    (jN:Own K mg "Bid" ju [])
    (jE:Own K mg "Only" jh ["bundle", "amount"])
    (jt:Own K mg "SoMany" jb ["kind", "least", "amount"])
    (jD:Own K mg "UpTo" jg ["kind", "most", "each"])
    (jx:Own K mg "Several" jc ["bids"])
    (jA:Own K mg "AnyOf" jd ["bids"])
    (jB:Own K mg "OneOf" je ["bids"])
    (jy:Own K mg "Stock" jf ["numbers", "kinds"]):FnOk P w K mg base CX0 2 f fd ["self", "kind"] (yQ K jf):=by
  refine F.okQ jdg (fun vs H Q E h=>?_) (fun cdv A outer s H vs Q E hr h=>?_)
  · obtain ⟨a,ns,ks,n,rfl,_⟩:=h; rfl
  obtain ⟨a,ns,ks,n,rfl,⟨dx,d1,d2,kk,h1,h2,h3,hk,hl,hg⟩,hi,q⟩:=h
  have hn:JH n = true:=hg.2.2.2 n hi
  have hv:=hk.2 n
  rw [if_pos (by rw [List.take_length]; exact hi)] at hv
  refine ⟨_,(R.jk (R.j8 (R.pt (R.jcc (R.qy (R.JD (R.jz J9 hr (by first | decide | omega) rfl (R.pa_c (R.pv 1) R.ji)))) (R.Z8 (R.jP (jhk hr.units) (R.pv 1) (R.Jp K (R.pv 0)) (by with_unfolding_all rfl))))) (R.jr R.JC) R.jM)
    (R.jr (R.jJ (R.jfb hr.units (R.Jp K (R.pv 0)) (R.pv 1))))),?_⟩
  refine ⟨_,rfl,_,rfl,.inl ⟨n,rfl,jhX hn,by have:=(jb7 hn).2; omega,fun H1 s1=>?_⟩⟩
  rw [hn]
  refine ⟨_,rfl,iteF ?_⟩
  refine ⟨_,rfl,_,rfl,a,jf,dx,_,.ref d2,rfl,s1 _ _ h1,jy.cls,jy.no _ (by simp),jdr d1 d2,⟨d2,_,rfl,DGet.k (k:=skey n) (s1 _ _ h3),?_⟩⟩
  rw [hv]
  refine ⟨_,rfl,iteF ?_⟩
  exact ⟨_,rfl,a,jf,dx,_,.ref d2,rfl,s1 _ _ h1,jy.cls,jy.no _ (by simp),jdr d1 d2,_,rfl,d2,_,rfl,hv ▸ DGet.k (k:=skey n) (s1 _ _ h3),q H1 s1⟩
theorem But.same {a:Addr} {H H' H2:Hp} (h:But a H H') (S:Same H' H2):But a H H2:=fun b o n e=>S _ _ (h b o n e)
theorem But.put {a b:Addr} {o:HO} {H H':Hp} (h:But a H H') (n:H b = none):But a H (upd H' b o):=fun c u e1 e2=>by
  rw [jO (jU e2 n)]; exact h c u e1 e2
theorem But.self {a:Addr} {o:HO} {H H':Hp} (h:But a H H'):But a H (upd H' a o):=fun c u e1 e2=>by rw [jO e1]; exact h c u e1 e2
theorem jgs {n:Nat} (h:n <= 6):n < sizeLine:=by rw [sizeLine_eq]; omega
noncomputable def RowP (H:Hp) (c a r dx d1 d2:Addr) (ns ks:List (List Nat)) (i:Nat) (σ:L2.St) (Hc:Hp):Prop :=
  (∃ x y z u,σ = [some (.ref a),some (.ref r),x,y,z,u]) /\ But a H Hc /\ Hc a = some (.ins c dx (jaU d1 d2)) /\ Hc d1 = some (.dK (numsOf (ns.take i))) /\ ∃ kk,Hc d2 = some (.dK kk) /\ jbI kk ks i
theorem RowP.same {H:Hp} {c a r dx d1 d2:Addr} {ns ks:List (List Nat)} {i:Nat} {σ:L2.St} {Hc Hd:Hp} (S:Same Hc Hd) (h:RowP H c a r dx d1 d2 ns ks i σ Hc):RowP H c a r dx d1 d2 ns ks i σ Hd:=by
  obtain ⟨h0,h1,h2,h3,kk,h4,h5⟩:=h
  exact ⟨h0,h1.same S,S _ _ h2,S _ _ h3,kk,S _ _ h4,h5⟩
theorem jcF {f:Addr} {fd:FuncData} (F:Fun K "__init__" "Stock.__init__" yN f fd) (Yb:mg "enumerate" = none) (Je:mg "len" = none)
    (J9:jK P w K mg base 1 "is_name" ["thing"] [] (zX K))
    (jN:Own K mg "Bid" ju [])
    (jE:Own K mg "Only" jh ["bundle", "amount"])
    (jt:Own K mg "SoMany" jb ["kind", "least", "amount"])
    (jD:Own K mg "UpTo" jg ["kind", "most", "each"])
    (jx:Own K mg "Several" jc ["bids"])
    (jA:Own K mg "AnyOf" jd ["bids"])
    (jB:Own K mg "OneOf" je ["bids"])
    (jy:Own K mg "Stock" jf ["numbers", "kinds"]):FnOk P w K mg base CX0 4 f fd ["self", "rows"] (yu K jf):=by
  refine F.okQ J6 (fun vs H Q E h=>?_) (fun cdv A outer s H vs Q E hr h=>?_)
  · obtain ⟨a,dx,r,ns,ks,rfl,_⟩:=h; rfl
  obtain ⟨a,dx,r,ns,ks,rfl,ha,RW,G,q⟩:=h
  refine ⟨_,(R.jk (R.j8 (R.jP jfZ (R.Jz Ja rfl Je PySem.boot_len (R.pa_c (R.pv 1) R.ji)) R.jj (j5 _)) (R.jr R.JC) R.jM)
    (R.jk (R.YT (R.pv 0) R.jdC)
    (R.jk (R.YT (R.pv 0) R.jdC)
    (R.jr (R.qt PassesOwn.never rfl (R.jh2 rfl Yb (R.pa_c (R.pv 1) R.ji)) (R.Z7 K 2 rfl (R.JQ (R.jV (i:=2) J6.nd rfl (Or.inl rfl)) (R.JQ (R.jV (i:=3) J6.nd rfl (Or.inl rfl)) R.zc))) (R.jk (R.jT (i:=4) J6.nd rfl (Or.inl rfl) (R.jY (R.ixT K) (R.pv 3) R.jj (fun _ _=>rfl)))
      (R.jk (R.jT (i:=5) J6.nd rfl (Or.inl rfl) (R.jY (R.ixT K) (R.pv 3) R.jj (fun _ _=>rfl)))
      (R.jk (R.j8 (R.pt (R.jcc (R.qy (R.JD (R.jz J9 hr (by first | decide | omega) rfl (R.pa_c (R.pv 4) R.ji)))) (R.Z8 (R.jP (op_din hr.units) (R.pv 4) (R.Jp K (R.pv 0)) (by with_unfolding_all rfl))))) (R.jr R.JC) R.jM)
      (R.jk (R.j8 (R.qy (R.JD (R.jz J9 hr (by first | decide | omega) rfl (R.pa_c (R.pv 5) R.ji)))) (R.jr R.JC) R.jM)
      (R.jk (R.jfe hr.units (R.Jp K (R.pv 0)) (R.pv 4) (R.pv 2))
      (R.jr (R.jfe hr.units (R.Jp K (R.pv 0)) (R.pv 5) (R.jF jee (R.jf0 hr.units (R.Jp K (R.pv 0)) (R.pv 5) R.jj) (R.jF Qt R.jj (R.pv 2))))))))))))))),?_⟩
  obtain ⟨ps,hS,hl1,hl2,hrow⟩:=id RW
  refine ⟨_,rfl,r,_,rfl,.inl (SqL.of hS),_,_,rfl,rfl,_,rfl,ite2 (fun c=>?_) (fun _=>?_)⟩
  · have c2:(6:Int) < (((ps.map V.ref).length:Nat):Int):=of_decide_eq_true c
    rw [List.length_map,hl1] at c2
    have:=G.1
    omega
  refine fun d1 hd1=>⟨_,rfl,a,jf,dx,[],rfl,jC hd1 _ _ _ ha,jy.cls,jy.no _ (by simp),by decide,fun d2 hd2=>⟨_,rfl,a,jf,dx,_,rfl,?_,jy.cls,jy.no _ (by simp),put1 "numbers" (.ref d1),?_⟩⟩
  · rw [jO (jU jq hd2)]; exact jq
  have n1:d1 ≠ a:=fun z=>by subst z; rw [ha] at hd1; cases hd1
  have n2:d2 ≠ a:=fun z=>by subst z; rw [jq] at hd2; cases hd2
  have n12:d2 ≠ d1:=fun z=>by subst z; rw [jO n1,jq] at hd2; cases hd2
  have e2:H d2 = none:=by rw [jO n2,jO n12] at hd2; exact hd2
  have base:RowP H jf a r dx d1 d2 ns ks 0 [some (.ref a),some (.ref r),none,none,none,none] (upd (upd (upd (upd H d1 (.dK [])) a (.ins jf dx (putF "numbers" (.ref d1) []))) d2 (.dK [])) a (.ins jf dx (putF "kinds" (.ref d2) (putF "numbers" (.ref d1) [])))):=by
    refine ⟨⟨_,_,_,_,rfl⟩,?_,jq,?_,[],?_,kinds0 ks⟩
    · refine But.self (But.put (But.self (But.put (fun b o _ e=>e) hd1)) e2)
    · rw [jO n1,jO (Ne.symm n12),jO n1,jq]; rfl
    · rw [jO n2,jq]
  have hr0:upd (upd (upd (upd H d1 (.dK [])) a (.ins jf dx (putF "numbers" (.ref d1) []))) d2 (.dK [])) a (.ins jf dx (putF "kinds" (.ref d2) (putF "numbers" (.ref d1) []))) r = some (.lst (ps.map V.ref)):=base.2.1 _ _ (fun z=>by subst z; rw [ha] at hS; cases hS) hS
  refine ⟨_,rfl,r,rfl,⟨_,SqL.of hr0⟩,for_enum (xs:=ps.map V.ref) (RowP H jf a r dx d1 d2 ns ks) base (fun i σ Hc _ h=>SqL.of (h.2.1 _ _ (fun z=>by subst z; rw [ha] at hS; cases hS) hS)) (fun i x p σ Hc hx hP hp=>?_) (fun σ Hc h=>?_)⟩
  · rw [List.getElem?_map] at hx
    obtain ⟨qd,hqd,rfl⟩:=Option.map_eq_some_iff.mp hx
    obtain ⟨n,k,hn,hk,hrw⟩:=hrow i qd hqd
    have hi:i < ns.length:=(List.getElem?_eq_some_iff.mp hn).1
    have hno:JH n = true:=G.2.1 n (List.mem_of_getElem? hn)
    have hko:JH k = true:=G.2.2.2 k (List.mem_of_getElem? hk)
    have hout:n ∉ ns.take i:=fun z=>by
      obtain ⟨j,hj,e⟩:=List.getElem_of_mem z
      have hj2:j < i:=by rw [List.length_take] at hj; omega
      rw [List.getElem_take] at e
      have:=(List.getElem?_eq_some_iff.mp hn).2
      exact absurd ((List.getElem_inj G.2.2.1).mp (e.trans this.symm)) (by omega)
    have hv:valV (numsOf (ns.take i)) (skey n) = none:=jhj _ n (G.2.2.1.sublist (List.take_sublist _ _)) hout
    have nq:qd ≠ a:=fun z=>by subst z; rw [ha] at hrw; cases hrw
    have hP':=hP.same (jC hp (.tup [.int (i:Nat),.ref qd]))
    obtain ⟨⟨x,y,z,u,rfl⟩,hB,h1,h2,kk,h3,h4⟩:=hP'
    have hpp:upd Hc p (.tup [.int (i:Nat),.ref qd]) p = some (.tup [.int (i:Nat),.ref qd]):=jq
    generalize upd Hc p (.tup [.int (i:Nat),.ref qd]) = Hd at hB h1 h2 h3 hpp ⊢
    have hq:Hd qd = some (.tup [sv n,sv k]):=hB _ _ nq hrw
    refine ⟨p,_,rfl,SqT.of hpp,rfl,_,_,rfl,_,_,rfl,rfl,?_⟩
    refine ⟨_,rfl,qd,[sv n,sv k],0,sv n,rfl,rfl,SqT.of hq,rfl,?_⟩
    refine ⟨_,rfl,qd,[sv n,sv k],1,sv k,rfl,rfl,SqT.of hq,rfl,?_⟩
    refine ⟨_,rfl,_,rfl,.inl ⟨n,rfl,jhX hno,by have:=(jb7 hno).2; omega,fun H1 s1=>?_⟩⟩
    rw [hno]
    refine ⟨_,rfl,iteF ⟨_,rfl,_,rfl,a,jf,dx,_,.ref d1,rfl,s1 _ _ h1,jy.cls,jy.no _ (by simp),Zj d1 d2,d1,_,rfl,DGet.k (k:=skey n) (s1 _ _ h2),?_⟩⟩
    rw [hv]
    refine ⟨_,rfl,iteF ?_⟩
    refine ⟨_,rfl,_,rfl,.inl ⟨k,rfl,jhX hko,by have:=(jb7 hko).2; omega,fun H2 s2=>?_⟩⟩
    rw [hko]
    refine ⟨_,rfl,iteF ?_⟩
    have s12:=s1.trans s2
    have g1:=s12 _ _ h1
    have g2:=s12 _ _ h2
    have g3:=s12 _ _ h3
    have gB:=hB.same s12
    refine ⟨_,rfl,_,rfl,a,jf,dx,_,.ref d1,rfl,g1,jy.cls,jy.no _ (by simp),Zj d1 d2,_,rfl,d1,_,rfl,DPut.k (k:=skey n) g2 (by rw [numsOf_len,List.length_take]; exact jgs (by have:=G.1; omega)),?_⟩
    rw [jiV _ hv]
    have e1:numsOf (ns.take i) ++ [(skey n,V.int (i:Nat))] = numsOf (ns.take (i + 1)):=by
      rw [List.take_add_one,hn]
      show _ = numsOf (ns.take i ++ [n])
      rw [jb0,List.length_take,Nat.min_eq_left (Nat.le_of_lt hi)]
    rw [e1]
    have k1:upd H2 d1 (.dK (numsOf (ns.take (i + 1)))) a = some (.ins jf dx (jaU d1 d2)):=by rw [jO (Ne.symm n1)]; exact g1
    have k3:upd H2 d1 (.dK (numsOf (ns.take (i + 1)))) d2 = some (.dK kk):=by rw [jO n12]; exact g3
    refine ⟨_,rfl,a,jf,dx,_,.ref d2,rfl,k1,jy.cls,jy.no _ (by simp),jdr d1 d2,d2,rfl,.inl ⟨_,.inl k3⟩,_,rfl,_,DGet.k (k:=skey k) k3,?_⟩
    have eo:((valV kk (skey k)).getD (.int 0)) = nv (Qq ks k i):=by
      rw [h4.2 k]
      by_cases hm:k ∈ ks.take i
      · rw [if_pos hm]; rfl
      · rw [if_neg hm,jiH hm]; rfl
    rw [eo]
    refine ⟨_,rfl,i,rfl,rfl,by have:=G.1; omega,_,_,rfl,rfl,?_⟩
    refine ⟨_,rfl,a,jf,dx,_,.ref d2,rfl,k1,jy.cls,jy.no _ (by simp),jdr d1 d2,_,rfl,d2,_,rfl,DPut.k (k:=skey k) k3 (jgs (by have:=h4.1; have:=G.1; omega)),?_⟩
    refine ⟨⟨_,_,_,_,rfl⟩,(gB.put hd1).put e2,?_,?_,_,jq,jkF h4 hk⟩
    · rw [jO (Ne.symm n2)]; exact k1
    · rw [jO (Ne.symm n12),jq]
  · obtain ⟨_,hB,h1,h2,kk,h3,h4⟩:=h
    rw [List.length_map,hl1] at h2 h4
    refine q Hc hB ⟨dx,d1,d2,kk,h1,?_,h3,by rw [hl2]; exact h4,hl2,G⟩
    rw [List.take_length] at h2; exact h2
end
noncomputable def low (l:List Nat):Bool:=l.all fun c=>decide (97 <= c) && decide (c <= 122)
theorem jd7 {l:List Nat} (h1:1 <= l.length) (h2:l.length <= 8) (h:low l = true):JH l = true:=by
  unfold JH
  rw [decide_eq_true h1,decide_eq_true h2]
  exact h
theorem jkb {l m:List Nat} (h:low l = true) (h2:low m = true):low (l ++ m) = true:=by unfold low at *; rw [List.all_append,h,h2]; rfl
theorem jhR {l m:List Nat} (h:low l = true) (hs:∀ c ∈ m,c ∈ l):low m = true:=by
  unfold low at *
  rw [List.all_eq_true] at *
  exact fun c hc=>h c (hs c hc)
noncomputable def itc (c:Int):Nat->Int
  | 0=>c
  | k + 1=>itc c k / 26
noncomputable def dig (c:Int) (k:Nat):Nat:=97 + (itc c k % 26).toNat
noncomputable def YH (c:Int) (n:Nat):List Nat:=(List.range n).map (dig c)
theorem Yd (c:Int) (n:Nat):(YH c n).length = n:=by simp [YH]
theorem dig_low (c:Int) (k:Nat):97 <= dig c k /\ dig c k <= 122:=by
  unfold dig
  have h1:=Int.emod_nonneg (itc c k) (show (26:Int) ≠ 0 by decide)
  have h2:=Int.emod_lt_of_pos (itc c k) (show (0:Int) < 26 by decide)
  omega
theorem jex (c:Int) (n:Nat):low (YH c n) = true:=by
  unfold low YH
  rw [List.all_eq_true]
  intro x hx
  obtain ⟨k,_,rfl⟩:=List.mem_map.mp hx
  have:=dig_low c k
  simp only [Bool.and_eq_true,decide_eq_true_eq]; exact this
theorem jjZ (c:Int) (n:Nat):YH c (n + 1) = YH c n ++ [dig c n]:=by simp [YH,List.range_succ]
theorem wordL_ok {c:Int} {n:Nat} (h1:1 <= n) (h2:n <= 8):JH (YH c n) = true:=jd7 (by rw [Yd]; exact h1) (by rw [Yd]; exact h2) (jex c n)
noncomputable def jey (ns:List (List Nat)) (m:Nat):Prop:=ns.length = m /\ (∀ n ∈ ns,JH n = true) /\ ns.Nodup
theorem jey.reverse {ns:List (List Nat)} {m:Nat} (h:jey ns m):jey ns.reverse m:=⟨by rw [List.length_reverse]; exact h.1,fun n hn=>h.2.1 n (List.mem_reverse.mp hn),by rw [List.nodup_iff_pairwise_ne,List.pairwise_reverse]; exact (List.nodup_iff_pairwise_ne.mp h.2.2).imp fun h e=>h e.symm⟩
theorem jiB {f:Nat->List Nat} {m:Nat} (h1:∀ k,k < m->JH (f k) = true) (h2:∀ i j,i < m->j < m->f i = f j->i = j):jey ((List.range m).map f) m:=by
  refine ⟨by simp,fun n hn=>?_,?_⟩
  · obtain ⟨k,hk,rfl⟩:=List.mem_map.mp hn
    exact h1 k (List.mem_range.mp hk)
  · rw [List.nodup_iff_pairwise_ne,List.pairwise_map]
    refine List.Pairwise.imp_of_mem (fun {a b} ha hb hne e=>hne (h2 a b (List.mem_range.mp ha) (List.mem_range.mp hb) e)) (List.nodup_iff_pairwise_ne.mp List.nodup_range)
theorem good_pre (b:List Nat) (m:Nat) (hm:m <= 6) (hb:b.length = 8) (hl:low b = true):jey ((List.range m).map fun k=>b.take (k + 1)) m:=by
  refine jiB (fun k hk=>jd7 (by rw [List.length_take]; omega) (by rw [List.length_take]; omega) (jhR hl fun c hc=>List.mem_of_mem_take hc)) fun i j hi hj e=>?_
  have:=congrArg List.length e
  rw [List.length_take,List.length_take] at this
  omega
noncomputable def wds:List (List Nat):=["up", "to", "of", "for", "each", "any", "one", "nothing"].map fun x:String=>(Str.ofString x).cps.toList
noncomputable def goodB (ns:List (List Nat)) (m:Nat):Bool:=decide (ns.length = m) && (ns.all JH && decide ns.Nodup)
theorem goodB_ok {ns:List (List Nat)} {m:Nat} (h:goodB ns m = true):jey ns m:=by
  unfold goodB at h
  simp only [Bool.and_eq_true,decide_eq_true_eq] at h
  exact ⟨h.1,List.all_eq_true.mp h.2.1,h.2.2⟩
theorem good_wds:∀ a,a < 8->∀ m,m < 7->goodB (((wds ++ wds).drop a).take m) m = true:=by decide +kernel
noncomputable def third (b:List Nat) (size at_:Nat) (x m:Int) (k:Nat):List Nat:=(b.take at_ ++ YH (x + (k:Int) * m) 1) ++ (b.drop (at_ + 1)).take (size - (at_ + 1))
theorem jjr {b:List Nat} {size at_ m:Nat} {x st:Int} (hb:b.length = 8) (hl:low b = true) (h1:1 <= size) (h2:size <= 8) (h3:at_ < size) (hm:m <= 6) (hx:0 <= x /\ x < 26) (hs:1 <= st /\ st <= 4) :
    jey ((List.range m).map (third b size at_ x st)) m:=by
  have hlen:∀ k,(third b size at_ x st k).length = size:=fun k=>by
    unfold third
    simp only [List.length_append,List.length_take,List.length_drop,Yd]
    omega
  refine jiB (fun k hk=>jd7 (by rw [hlen]; exact h1) (by rw [hlen]; exact h2) ?_) fun i j hi hj e=>?_
  · exact jkb (jkb (jhR hl fun c hc=>List.mem_of_mem_take hc) (jex _ _)) (jhR hl fun c hc=>List.mem_of_mem_drop (List.mem_of_mem_take hc))
  · unfold third at e
    have e1:=(List.append_inj e (by simp [Yd])).1
    have e2:=(List.append_inj e1 rfl).2
    have e3:dig (x + (i:Int) * st) 0 = dig (x + (j:Int) * st) 0:=by
      have:[dig (x + (i:Int) * st) 0] = [dig (x + (j:Int) * st) 0]:=e2
      simpa using this
    unfold dig itc at e3
    have b1:=Int.emod_nonneg (x + (i:Int) * st) (show (26:Int) ≠ 0 by decide)
    have b2:=Int.emod_nonneg (x + (j:Int) * st) (show (26:Int) ≠ 0 by decide)
    obtain ⟨s1,s2⟩:=hs
    have hst:st = 1 ∨ st = 2 ∨ st = 3 ∨ st = 4:=by omega
    rcases hst with rfl | rfl | rfl | rfl <;> omega
theorem jiu (l:List Nat) (k:Nat):cutL l none (some (k:Int)) = l.take k:=by
  unfold cutL
  rw [HT.Yo,HT.jiW,List.drop_zero,Nat.sub_zero]
  by_cases h:k <= l.length
  · rw [Nat.min_eq_left h]
  · rw [Nat.min_eq_right (by omega),List.take_of_length_le (Nat.le_refl _),List.take_of_length_le (by omega)]
theorem cut_mid (l:List Nat) (a b:Nat) (ha:a <= l.length) (hb:b <= l.length):cutL l (some (a:Int)) (some (b:Int)) = (l.drop a).take (b - a):=by
  unfold cutL
  rw [HT.Yo,HT.Yo,Nat.min_eq_left ha,Nat.min_eq_left hb]
noncomputable def jev (_K:PySem.W.Frag):Sp:=fun vs H Q _=>∃ (c:Int) (n:Nat),vs = [.int c,.int (n:Int)] /\ n <= 8 /\ ∀ H',Same H H'->Q (sv (YH c n)) H'
noncomputable def jgv (K:PySem.W.Frag):Sp:=fun vs H Q _=>∃ (a:Addr) (sc:List Int) (m:Nat),vs = [.ref a,.int (m:Int)] /\ SqL K H a (sc.map V.int) /\ m <= 6 /\ ∀ l H' ns,Same H H'->H l = none->H' l = some (.lst (ns.map sv))->jey ns m->Q (.ref l) H'
noncomputable def jgu (K:PySem.W.Frag):Sp:=fun vs H Q _=>∃ (a l:Addr) (sc:List Int) (ns:List (List Nat)),vs = [.ref a,.ref l] /\ SqL K H a (sc.map V.int) /\ H l = some (.lst (ns.map sv)) /\ ns.length <= 6 /\ (∀ n ∈ ns,JH n = true) /\
  ∀ (p:Addr) (H':Hp) (ks:List (List Nat)),Same H H'->H p = none->H' p = some (.lst (ks.map sv))->ks.length = ns.length->(∀ k ∈ ks,JH k = true)->Q (.ref p) H'
section
variable {P:Program} {w:World} {K:PySem.W.Frag} {mg:Str->Option Value} {base:Heap}
theorem lett_at (i:Nat) (h:i < 26):atI (Str.ofString "abcdefghijklmnopqrstuvwxyz").cps.toList (i:Int) = some (97 + i):=by
  have z:∀ i,i < 26->(Str.ofString "abcdefghijklmnopqrstuvwxyz").cps.toList[i]? = some (97 + i):=by decide +kernel
  exact Y8 (z i h)
theorem jkS {f:Addr} {fd:FuncData} (F:Fun K "_law_word" "_law_word" jge f fd) (jH:mg "_law_word" = some (.ref f)) (jQ:mg "range" = none) (jas:mg "divmod" = none):jK P w K mg base 1 "_law_word" ["_law_cell_here", "_law_size_here"] [] (jev K):=by
  refine F.jX jH (bnd2 F fun _ _ _ _ _ _ _ _=>rfl) Y4 (fun vs H Q E h=>?_) (fun cdv A outer s H vs Q E hr h=>?_)
  · obtain ⟨c,n,rfl,_⟩:=h; rfl
  obtain ⟨c,n,rfl,hn,q⟩:=h
  refine ⟨_,(R.jk (R.jT (i:=2) Y4.nd rfl (Or.inl rfl) R.jG)
    (R.jk (R.jT (i:=3) Y4.nd rfl (Or.inl rfl) R.jG)
    (R.jk (R.qt PassesOwn.never rfl (R.Jh rfl jQ (R.pa_c (R.pv 1) R.ji)) (R.jV (i:=4) Y4.nd rfl (Or.inl rfl)) (R.jk (R.jh4 (R.Jz jeC rfl jas (boot_divmod) (R.pa_c (R.pv 0) (R.pa_c R.jj R.ji))) (R.Z7 K 2 rfl (R.JQ (R.jV (i:=0) Y4.nd rfl (Or.inl rfl)) (R.JQ (R.jV (i:=5) Y4.nd rfl (Or.inl rfl)) R.zc))))
      (R.jr (R.jT (i:=3) Y4.nd rfl (Or.inl rfl) (R.jF j4 (R.pv 3) (R.jY ix_str (R.pv 2) (R.pv 5) (fun _ _=>rfl)))))))
    (R.jr (R.jJ (R.pv 3)))))),?_⟩
  refine ⟨_,rfl,_,rfl,by omega,by omega,?_⟩
  refine yX (fun i σ H2=>(∃ x y,σ = [some (.int (itc c i)),some (.int (n:Int)),some (.str "abcdefghijklmnopqrstuvwxyz"),some (sv (YH c i)),x,y]) /\ Same H H2) ⟨⟨_,_,rfl⟩,Same.refl _⟩ (fun i σ H2 hi hP=>?_) (fun σ H2 hP=>?_)
  · obtain ⟨⟨x,y,rfl⟩,s2⟩:=hP
    have hi:i < n:=by simpa using hi
    refine ⟨_,rfl,_,_,rfl,⟨by decide,by decide⟩,fun p hp=>⟨p,_,rfl,SqT.of jq,rfl,_,_,rfl,_,_,rfl,rfl,?_⟩⟩
    have b1:=Int.emod_nonneg (itc c i) (show (26:Int) ≠ 0 by decide)
    have b2:=Int.emod_lt_of_pos (itc c i) (show (0:Int) < 26 by decide)
    have e:itc c i % 26 = (((itc c i % 26).toNat:Nat):Int):=by omega
    refine ⟨_,rfl,_,rfl,_,rfl,_,_,dig c i,rfl,rfl,by decide,?_,_,_,rfl,rfl,?_,?_⟩
    · rw [e]; exact lett_at _ (by omega)
    · show (tx (YH c i)).length + 1 <= sizeLine
      rw [Jk,Yd,sizeLine_eq]; omega
    · have e5:sv (YH c (i + 1)) = V.str (tx (YH c i) ++ ⟨#[dig c i]⟩):=by
        show V.str (tx (YH c (i + 1))) = _
        rw [jjZ,<- Jt]; rfl
      rw [e5]
      exact ⟨⟨_,_,rfl⟩,s2.trans (jC hp _)⟩
  · obtain ⟨⟨x,y,rfl⟩,s2⟩:=hP
    have e:(((n:Int)).toNat) = n:=by simp
    rw [e]
    exact ⟨_,rfl,q H2 s2⟩
theorem len8 {l:List Nat} (h:l.length <= 8):l.length <= sizeLine:=by rw [sizeLine_eq]; omega
theorem jiX {H H':Hp} {l:Addr} (S:Same H H') (h:H' l = none):H l = none:=by
  cases e:H l with
  | none=>rfl
  | some o=>rw [S _ _ e] at h; cases h
theorem cutV_nat (xs:List V) (a m:Nat) (h:a + m <= xs.length):cutV xs (some (a:Int)) (some ((a + m:Nat):Int)) = (xs.drop a).take m:=by
  unfold cutV
  rw [HT.Yo,HT.Yo,Nat.min_eq_left (show a <= xs.length by omega),Nat.min_eq_left h,Nat.add_sub_cancel_left]
theorem wds_sv:[V.str "up",V.str "to",V.str "of",V.str "for",V.str "each",V.str "any",V.str "one",V.str "nothing"] = wds.map sv:=by
  have z:∀ x:String,sv (Str.ofString x).cps.toList = V.str (Str.ofString x):=fun x=>congrArg V.str (jhA _).symm
  unfold wds
  simp only [List.map_cons,List.map_nil,z]
theorem modn (c:Int) (m:Nat) (h:0 < m):∃ u:Nat,c % (m:Int) = (u:Int) /\ u < m:=by
  have h1:=Int.emod_nonneg c (show (m:Int) ≠ 0 by omega)
  have h2:=Int.emod_lt_of_pos c (show (0:Int) < (m:Int) by omega)
  exact ⟨(c % (m:Int)).toNat,by omega,by omega⟩
theorem jjz {f:Addr} {fd:FuncData} (F:Fun K "_law_names" "_law_names" jcy f fd) (jH:mg "_law_names" = some (.ref f)) (jQ:mg "range" = none) (Qm:mg "list" = none) (YQ:mg "reversed" = none)
    (Jy:jK P w K mg base 1 "_law_cell" ["_law_script", "_law_k"] [] (jaC K))
    (Zc:jK P w K mg base 1 "_law_word" ["_law_cell_here", "_law_size_here"] [] (jev K)):jK P w K mg base 2 "_law_names" ["_law_script", "_law_many"] [] (jgv K):=by
  refine F.jX jH (bnd2 F fun _ _ _ _ _ _ _ _=>rfl) J2 (fun vs H Q E h=>?_) (fun cdv A outer s H vs Q E hr h=>?_)
  · obtain ⟨a,sc,m,rfl,_⟩:=h; rfl
  obtain ⟨a,sc,m,rfl,hS,hm,q⟩:=h
  refine ⟨_,(R.jk (R.jT (i:=2) J2.nd rfl (Or.inl rfl) (R.jF Jm (R.jz Jy hr (by first | decide | omega) rfl (R.pa_c (R.pv 0) (R.pa_c R.jj R.ji))) R.jj))
    (R.jk (R.jT (i:=3) J2.nd rfl (Or.inl rfl) (R.jz Jy hr (by first | decide | omega) rfl (R.pa_c (R.pv 0) (R.pa_c R.jj R.ji))))
    (R.jk (R.jT (i:=4) J2.nd rfl (Or.inr rfl) (R.jz Zc hr (by first | decide | omega) rfl (R.pa_c (R.jz Jy hr (by first | decide | omega) rfl (R.pa_c (R.pv 0) (R.pa_c R.jj R.ji))) (R.pa_c R.jj R.ji))))
    (R.jk (R.j8 (R.jP Jv (R.pv 2) R.jj (j5 _)) (R.jk (R.jdF (i:=5) (jw jcy) ["_law_script", "_law_many", "_law_way", "_law_cell_here", "_law_base", "_law_found", "_law_some", "_law_size_here", "_law_at", "_law_k", "_law_letter"] ["_law_k"] ["_law_base"] [4] J2.nd rfl (Or.inl rfl) rfl rfl rfl rfl rfl ⟨s.heap.objs.size + 1,rfl⟩ rfl rfl (by decide +kernel) (R.Jh rfl jQ (R.pa_c (R.pv 1) R.ji)) (fun C s2 H2 fp=>(R.jV (i:=0) (show List.Nodup (["_law_k", "_law_base"]:List Str) from by decide +kernel) rfl (Or.inl rfl))) (fun C s2 H2 fp=>R.JM) (fun C s2 H2 fp=>(R.qU jck (R.pv 1) R.ZS (R.qw (R.jF JB (R.pv 0) R.jj)))))
      (R.jk (R.j8 (R.jP Jv (R.jF Jm (R.pv 3) R.jj) R.jj (j5 _)) (R.jr (R.jT (i:=5) J2.nd rfl (Or.inl rfl) (R.ja2 rfl rfl Qm rfl YQ (R.pv 5)))) R.jM)
      (R.jr (R.jJ (R.pv 5))))) R.jM)
    (R.jk (R.j8 (R.jP Jv (R.pv 2) R.jj (j5 _)) (R.jk (R.jT (i:=6) J2.nd rfl (Or.inl rfl) (R.jF op_rep (R.JK (R.pa_c R.jG (R.pa_c R.jG (R.pa_c R.jG (R.pa_c R.jG (R.pa_c R.jG (R.pa_c R.jG (R.pa_c R.jG (R.pa_c R.jG R.ji))))))))) R.jj))
      (R.jr (R.jJ (R.qU jh9 (R.pv 6) (R.qw (R.jF (opE Jm) (R.pv 3) R.jj)) (R.qw (R.jF (opE0 JB) (R.jF (opE Jm) (R.pv 3) R.jj) (R.pv 1))))))) R.jM)
    (R.jk (R.jT (i:=7) J2.nd rfl (Or.inl rfl) (R.jF (opE0 JB) R.jj (R.jF (opE Jm) (R.pv 3) R.jj)))
    (R.jk (R.jT (i:=8) J2.nd rfl (Or.inl rfl) (R.jF (opE Jm) (R.jF Qs (R.pv 3) R.jj) (R.pv 7)))
    (R.jk (R.jT (i:=5) J2.nd rfl (Or.inl rfl) (R.JK R.ji))
    (R.jk (R.qt PassesOwn.never rfl (R.Jh rfl jQ (R.pa_c (R.pv 1) R.ji)) (R.jV (i:=9) J2.nd rfl (Or.inl rfl)) (R.jk (R.jT (i:=10) J2.nd rfl (Or.inl rfl) (R.jz Zc hr (by first | decide | omega) rfl (R.pa_c (R.jF JB (R.jF Jm (R.jF Qs (R.pv 3) R.jj) R.jj) (R.jF qG (R.pv 9) (R.jF JB R.jj (R.jF Jm (R.jF Qs (R.pv 3) R.jj) R.jj)))) (R.pa_c R.jj R.ji))))
      (R.jr (R.JW (R.qC (R.pv 5) (R.pa_c (R.jF j4 (R.jF j4 (R.qU jck (R.pv 4) R.ZS (R.qw (R.pv 8))) (R.pv 10)) (R.qU jck (R.pv 4) (R.qw (R.jF JB (R.pv 8) R.jj)) (R.qw (R.pv 7)))) R.ji))))))
    (R.jr (R.jJ (R.pv 5)))))))))))),?_⟩
  refine ⟨_,rfl,a,sc,1,rfl,hS,by decide,fun H1 s1=>⟨_,_,rfl,rfl,(by show (0:Int) < 4; decide),?_⟩⟩
  refine ⟨_,rfl,a,sc,3,rfl,s1.seq hS,by decide,fun H2 s2=>?_⟩
  have s12:=s1.trans s2
  refine ⟨_,rfl,a,sc,2,rfl,s12.seq hS,by decide,fun H3 s3=>⟨_,8,rfl,by decide,fun H4 s4=>?_⟩⟩
  have s14:=s12.trans (s3.trans s4)
  have hb:=Yd (yV sc 2) 8
  have hlb:=jex (yV sc 2) 8
  have c0:=jhL sc 3
  generalize YH (yV sc 2) 8 = b at hb hlb ⊢
  generalize yV sc 1 % 4 = way
  generalize yV sc 3 = c at c0 ⊢
  have em:((m:Int)).toNat = m:=by simp
  obtain ⟨u,hu,hu8⟩:=modn c 8 (by decide)
  refine ⟨_,rfl,rfl,_,rfl,ite2 (fun _=>?_) (fun _=>?_)⟩
  · refine ⟨_,rfl,(m:Int),rfl,by omega,by omega,fun l hl=>?_⟩
    rw [em]
    refine Jl (fun _=>true) (fun k=>sv (b.take (k + 1))) (by omega) hl (fun k H5 hk s5 C kk=>kk H5 (Same.refl _)) (fun k H5 hk _ s5 C kk=>?_) (fun H5 s5 e5=>?_)
    · refine ⟨_,rfl,_,rfl,_,_,rfl,rfl,_,rfl,b,rfl,len8 (by omega),?_⟩
      have e:(0 + (k:Int) + 1) = ((k + 1:Nat):Int):=by push_cast; omega
      rw [e,jiu]
      exact kk H5 (Same.refl _)
    · have e6:H5 l = some (.lst (((List.range m).map fun k=>b.take (k + 1)).map sv)):=by
        rw [e5,List.filter_eq_self.mpr (fun _ _=>rfl),List.map_map]; rfl
      have hl0:H l = none:=jiX s14 hl
      have hg:=good_pre b m hm hb hlb
      refine ⟨_,rfl,_,_,rfl,rfl,(by show (0:Int) < 2; decide),rfl,_,rfl,ite2 (fun _=>?_) (fun _=>?_)⟩
      · refine ⟨_,rfl,l,_,rfl,e6,fun p hp=>?_⟩
        have e7:upd H5 p (.lst (((List.range m).map fun k=>b.take (k + 1)).map sv).reverse) p = some (.lst ((((List.range m).map fun k=>b.take (k + 1)).reverse).map sv)):=by rw [jq,List.map_reverse]
        exact ⟨_,rfl,q p _ _ ((s14.trans s5).trans (jC hp _)) (jiX (s14.trans s5) hp) e7 hg.reverse⟩
      · exact ⟨_,rfl,q l H5 _ (s14.trans s5) hl0 e6 hg⟩
  · refine ⟨_,rfl,rfl,_,rfl,ite2 (fun _=>?_) (fun _=>?_)⟩
    · refine ⟨(by show 8 <= sizeLine; decide),fun p1 hp1=>⟨p1,2,_,rfl,rfl,jq,by decide,by decide,(by show 8 * 2 <= sizeLine; decide),fun p2 hp2=>?_⟩⟩
      have e8:(c % 8:Int) = ((u:Nat):Int):=hu
      refine ⟨_,rfl,_,rfl,_,_,nv u,rfl,rfl,(by show (0:Int) < 8; decide),congrArg V.int e8,_,rfl,_,rfl,_,_,nv u,rfl,rfl,(by show (0:Int) < 8; decide),congrArg V.int e8,_,rfl,_,_,nv (u + m),rfl,rfl,?_,_,rfl,p2,_,rfl,SqL.of jq,fun p3 hp3=>?_⟩
      · show V.int ((u:Int) + (m:Int)) = V.int ((u + m:Nat):Int)
        push_cast; rfl
      have e9:(List.replicate (Int.toNat 2) [V.str "up",V.str "to",V.str "of",V.str "for",V.str "each",V.str "any",V.str "one",V.str "nothing"]).flatten = (wds ++ wds).map sv:=by
        rw [wds_sv,List.map_append]
        show (List.replicate 2 (wds.map sv)).flatten = _
        simp [List.replicate]
      have hlw:(wds ++ wds).length = 16:=by decide
      rw [e9,cutV_nat _ u m (by rw [List.length_map,hlw]; omega),<- List.map_drop,<- List.map_take]
      refine q p3 _ (((wds ++ wds).drop u).take m) (((s14.trans (jC hp1 _)).trans (jC hp2 _)).trans (jC hp3 _)) (jiX ((s14.trans (jC hp1 _)).trans (jC hp2 _)) hp3) jq (goodB_ok (good_wds u hu8 m (by omega)))
    · obtain ⟨v,hv,hv8⟩:=modn (c / 8) (1 + u) (by omega)
      have hx1:=Int.emod_nonneg (c / 64) (show (26:Int) ≠ 0 by decide)
      have hx2:=Int.emod_lt_of_pos (c / 64) (show (0:Int) < 26 by decide)
      have hy1:=Int.emod_nonneg (c / 1664) (show (4:Int) ≠ 0 by decide)
      have hy2:=Int.emod_lt_of_pos (c / 1664) (show (0:Int) < 4 by decide)
      have hg:=jjr (m:=m) (x:=c / 64 % 26) (st:=1 + c / 1664 % 4) hb hlb (size:=1 + u) (at_:=v) (by omega) (by omega) hv8 hm ⟨hx1,hx2⟩ (by omega)
      refine ⟨_,rfl,_,_,nv u,rfl,rfl,(by show (0:Int) < 8; decide),congrArg V.int hu,_,_,nv (1 + u),rfl,rfl,?_,?_⟩
      · show V.int ((1:Int) + (u:Int)) = V.int ((1 + u:Nat):Int)
        push_cast; rfl
      refine ⟨_,rfl,_,_,rfl,rfl,⟨by decide,by decide⟩,_,rfl,_,_,nv v,rfl,rfl,?_,congrArg V.int hv,?_⟩
      · show (0:Int) < ((1 + u:Nat):Int)
        omega
      refine ⟨(by show 0 <= sizeLine; decide),fun l hl=>?_⟩
      have hl0:=jiX s14 hl
      refine ⟨_,rfl,(m:Int),rfl,by omega,by omega,?_⟩
      rw [em]
      refine yX (fun i σ H5=>(∃ z x y,σ = [some (.ref a),some (.int (m:Int)),z,some (.int c),some (sv b),some (.ref l),none,some (nv (1 + u)),some (nv v),x,y]) /\ Same H H5 /\ H5 l = some (.lst (((List.range i).map (third b (1 + u) v (c / 64 % 26) (1 + c / 1664 % 4))).map sv))) ⟨⟨_,_,_,rfl⟩,s14.trans (jC hl _),jq⟩ (fun i σ H5 hi hP=>?_) (fun σ H5 hP=>?_)
      · obtain ⟨⟨z,x,y,rfl⟩,s5,e5⟩:=hP
        refine ⟨_,rfl,_,_,rfl,rfl,⟨by decide,by decide⟩,_,_,rfl,rfl,(by show (0:Int) < 26; decide),_,rfl,_,rfl,_,_,rfl,rfl,⟨by decide,by decide⟩,_,_,rfl,rfl,(by show (0:Int) < 4; decide),_,_,rfl,rfl,_,_,rfl,rfl,JP (by omega),_,_,rfl,rfl,_,1,rfl,by decide,fun H6 s6=>?_⟩
        have e0:(0 + (i:Int)) = (i:Int):=by omega
        have e6:=s6 _ _ e5
        have lb:(tx (cutL b none (some (v:Int)))).length <= 8:=by rw [Jk]; exact Nat.le_trans (jfx _ _ _) (by omega)
        have lc:(tx (cutL b (some ((v:Int) + 1)) (some ((1 + u:Nat):Int)))).length <= 8:=by rw [Jk]; exact Nat.le_trans (jfx _ _ _) (by omega)
        have lw:(tx (YH (c / 64 % 26 + (0 + (i:Int)) * (1 + c / 1664 % 4)) 1)).length = 1:=by rw [Jk,Yd]
        refine ⟨_,rfl,.inl ⟨rfl,_,SqL.of e6⟩,_,rfl,_,rfl,_,rfl,b,rfl,len8 (by omega),_,rfl,_,_,rfl,rfl,(by rw [sizeLine_eq]; omega),_,rfl,_,rfl,_,_,rfl,rfl,_,rfl,_,rfl,_,rfl,b,rfl,len8 (by omega),_,_,rfl,rfl,?_,l,_,_,rfl,rfl,e6,?_,?_⟩
        · rw [Jt,Jk,List.length_append,Yd,sizeLine_eq]
          rw [Jk] at lb
          omega
        · rw [List.length_map,List.length_map,List.length_range,sizeLine_eq]
          omega
        · refine ⟨⟨_,_,_,rfl⟩,(s5.trans s6).upd hl0 _,?_⟩
          rw [jq,Jt,Jt,List.range_succ,List.map_append,List.map_append]
          have e7:cutL b none (some (v:Int)) = b.take v:=jiu b v
          have e8:cutL b (some ((v:Int) + 1)) (some ((1 + u:Nat):Int)) = (b.drop (v + 1)).take (1 + u - (v + 1)):=by
            have:=cut_mid b (v + 1) (1 + u) (by omega) (by omega)
            push_cast at this ⊢
            exact this
          rw [e7,e8,e0]
          rfl
      · obtain ⟨⟨z,x,y,rfl⟩,s5,e5⟩:=hP
        exact ⟨_,rfl,q l H5 _ s5 hl0 e5 hg⟩
theorem jjy {f:Addr} {fd:FuncData} (F:Fun K "_law_kinds" "_law_kinds" jcx f fd) (jH:mg "_law_kinds" = some (.ref f)) (jQ:mg "range" = none) (Je:mg "len" = none)
    (Zc:jK P w K mg base 1 "_law_word" ["_law_cell_here", "_law_size_here"] [] (jev K))
    (Jy:jK P w K mg base 1 "_law_cell" ["_law_script", "_law_k"] [] (jaC K)):jK P w K mg base 2 "_law_kinds" ["_law_script", "_law_names_here"] [] (jgu K):=by
  refine F.jX jH (bnd2 F fun _ _ _ _ _ _ _ _=>rfl) jgi (fun vs H Q E h=>?_) (fun cdv A outer s H vs Q E hr h=>?_)
  · obtain ⟨a,l,sc,ns,rfl,_⟩:=h; rfl
  obtain ⟨a,l,sc,ns,rfl,hS,hl,hm,hok,q⟩:=h
  refine ⟨_,(R.jk (R.jT (i:=2) jgi.nd rfl (Or.inr rfl) (R.JK (R.pa_c (R.jz Zc hr (by first | decide | omega) rfl (R.pa_c (R.jz Jy hr (by first | decide | omega) rfl (R.pa_c (R.pv 0) (R.pa_c R.jj R.ji))) (R.pa_c (R.jF (opE0 JB) R.jj (R.jF Jm (R.jz Jy hr (by first | decide | omega) rfl (R.pa_c (R.pv 0) (R.pa_c R.jj R.ji))) R.jj)) R.ji))) (R.pa_c (R.jY (R.ixL K) (R.jF jjF (R.pv 1) (R.JK (R.pa_c R.jG R.ji))) R.jj (fun _ _=>rfl)) (R.pa_c R.jG R.ji)))))
    (R.jr (R.jJ (R.Jj (jw jcx) ["_law_script", "_law_names_here", "_law_pool"] ["_law_k"] ["_law_pool", "_law_script"] [2,0] rfl rfl rfl ⟨s.heap.objs.size + 1,rfl⟩ rfl rfl (by decide +kernel) (R.Jh rfl jQ (R.pa_c (R.Jz Ja rfl Je PySem.boot_len (R.pa_c (R.pv 1) R.ji)) R.ji)) (fun C s2 H2 fp=>(R.jV (i:=0) (show List.Nodup (["_law_k", "_law_pool", "_law_script"]:List Str) from by decide +kernel) rfl (Or.inl rfl))) (fun C s2 H2 fp=>R.JM) (fun C s2 H2 fp=>(R.jY (R.ixL K) (R.pv 1) (R.jF (opE Jm) (R.jF Qs (R.jz Jy hr (by first | decide | omega) rfl (R.pa_c (R.pv 2) (R.pa_c R.jj R.ji))) (R.jF JB R.jj (R.jF qG (R.pv 0) (R.pv 0)))) R.jj) (fun _ _=>rfl))))))),?_⟩
  obtain ⟨u,hu,hu8⟩:=modn (yV sc 4) 8 (by decide)
  refine ⟨_,rfl,a,sc,4,rfl,hS,by decide,fun H1 s1=>⟨_,rfl,a,sc,4,rfl,s1.seq hS,by decide,fun H2 s2=>?_⟩⟩
  refine ⟨_,_,rfl,rfl,(by show (0:Int) < 8; decide),_,_,nv (1 + u),rfl,rfl,?_,?_⟩
  · show V.int ((1:Int) + yV sc 4 % 8) = V.int ((1 + u:Nat):Int)
    have:yV sc 4 % 8 = (u:Int):=hu
    rw [this]; push_cast; rfl
  refine ⟨_,1 + u,rfl,by omega,fun H3 s3=>?_⟩
  have hw:JH (YH (yV sc 4) (1 + u)) = true:=wordL_ok (by omega) (by omega)
  generalize YH (yV sc 4) (1 + u) = wd at hw ⊢
  have s13:=(s1.trans s2).trans s3
  refine ⟨_,rfl,(by show 1 <= sizeLine; decide),fun p1 hp1=>⟨l,p1,_,_,rfl,rfl,jC hp1 _ _ _ (s13 _ _ hl),jq,?_,fun p2 hp2=>?_⟩⟩
  · rw [List.length_map,sizeLine_eq]
    show ns.length + 1 <= _
    omega
  obtain ⟨n0,hn0,e0⟩:∃ n0,JH n0 = true /\ (ns.map sv ++ [V.str "any"])[0]? = some (sv n0):=by
    cases ns with
    | nil=>exact ⟨(Str.ofString "any").cps.toList,by decide,by show some (V.str (Str.ofString "any")) = _; rw [jhA (Str.ofString "any")]; simp [Qa]⟩
    | cons n ns=>exact ⟨n,hok n (by simp),rfl⟩
  refine ⟨p2,_,0,sv n0,rfl,rfl,SqL.of jq,Y8 (j:=0) e0,(by show 3 <= sizeLine; decide),fun p3 hp3=>?_⟩
  have s4:=((s13.trans (jC hp1 _)).trans (jC hp2 _)).trans (jC hp3 (.lst [sv wd,sv n0,V.str "one"]))
  have e3:upd (upd (upd H3 p1 (.lst [V.str "any"])) p2 (.lst (ns.map sv ++ [V.str "any"]))) p3 (.lst [sv wd,sv n0,V.str "one"]) p3 = some (.lst [sv wd,sv n0,V.str "one"]):=jq
  generalize upd (upd (upd H3 p1 (.lst [V.str "any"])) p2 (.lst (ns.map sv ++ [V.str "any"]))) p3 (.lst [sv wd,sv n0,V.str "one"]) = H4 at s4 e3 ⊢
  have eone:V.str "one" = sv (Str.ofString "one").cps.toList:=congrArg V.str (jhA _)
  rw [eone] at e3
  have hone:JH (Str.ofString "one").cps.toList = true:=by decide
  generalize (Str.ofString "one").cps.toList = one at e3 hone
  refine ⟨_,rfl,l,_,rfl,.inl (SqL.of (s4 _ _ hl)),_,rfl,by rw [List.length_map]; omega,by rw [List.length_map]; omega,fun p hp=>?_⟩
  have en:(((ns.map sv).length:Nat):Int).toNat = ns.length:=by rw [List.length_map]; simp
  rw [en]
  have pick:∀ k:Nat,∃ v:Nat,yV sc 5 / (1 + (0 + (k:Int)) * (0 + (k:Int))) % 3 = (v:Int) /\ v < 3:=fun k=>modn _ 3 (by decide)
  refine Jl (fun _=>true) (fun k=>sv ([wd,n0,one].getD (yV sc 5 / (1 + (0 + (k:Int)) * (0 + (k:Int))) % 3).toNat wd)) (by omega) hp (fun k H5 hk s5 C kk=>kk H5 (Same.refl _)) (fun k H5 hk _ s5 C kk=>?_) (fun H5 s5 e5=>?_)
  · obtain ⟨v,hv,hv3⟩:=pick k
    have hk2:k <= 5:=by omega
    have hkk:(0 + (k:Int)) * (0 + (k:Int)) <= 25:=by
      have:k * k <= 5 * 5:=Nat.mul_le_mul hk2 hk2
      rw [Int.zero_add]
      exact_mod_cast this
    have hk0:0 <= (0 + (k:Int)) * (0 + (k:Int)):=Int.mul_nonneg (by omega) (by omega)
    refine ⟨_,rfl,_,rfl,a,sc,5,rfl,(s4.trans s5).seq hS,by decide,fun H6 s6=>?_⟩
    refine ⟨_,rfl,_,rfl,_,_,rfl,rfl,JP (by omega),_,_,rfl,rfl,_,_,rfl,rfl,⟨by omega,by omega⟩,_,_,nv v,rfl,rfl,(by show (0:Int) < 3; decide),congrArg V.int hv,p3,_,_,sv ([wd,n0,one].getD v wd),rfl,rfl,SqL.of ((s5.trans s6) _ _ e3),Y8 ?_,?_⟩
    · have:∀ v,v < 3->[sv wd,sv n0,sv one][v]? = some (sv ([wd,n0,one].getD v wd)):=fun v h=>by
        match v,h with
        | 0,_=>rfl
        | 1,_=>rfl
        | 2,_=>rfl
      exact this v hv3
    · have z:=kk H6 s6
      rw [hv,Int.toNat_natCast] at z
      exact z
  · refine q p H5 ((List.range ns.length).map fun k:Nat=>[wd,n0,one].getD (yV sc 5 / (1 + (0 + (k:Int)) * (0 + (k:Int))) % 3).toNat wd) (s4.trans s5) (jiX s4 hp) ?_ (by simp) fun k hk=>?_
    · rw [e5,List.filter_eq_self.mpr (fun _ _=>rfl),List.map_map]; rfl
    · obtain ⟨j,_,rfl⟩:=List.mem_map.mp hk
      obtain ⟨v,hv,hv3⟩:=pick j
      rw [hv,Int.toNat_natCast]
      have:∀ v,v < 3->JH ([wd,n0,one].getD v wd) = true:=fun v h=>by
        match v,h with
        | 0,_=>exact hw
        | 1,_=>exact hn0
        | 2,_=>exact hone
      exact this v hv3
end
end My
set_option Elab.async false
set_option linter.all false
set_option maxRecDepth 100000
set_option maxHeartbeats 4000000
namespace My
open PySem PySem.Spec PyProof.Rows L2 GM
noncomputable def NmAt (K:PySem.W.Frag) (H:Hp) (nl:Addr) (ns:List Str):Prop:=SqL K H nl (ns.map V.str) /\ NsOk ns /\ ns.length <= 20
theorem NmAt.same {K:PySem.W.Frag} {H H':Hp} {nl:Addr} {ns:List Str} (h:NmAt K H nl ns) (S:Same H H'):NmAt K H' nl ns:=⟨S.seq h.1,h.2⟩
theorem sz {n:Nat} (h:n <= 100000):n <= sizeLine:=by rw [sizeLine_eq]; omega
theorem Jf:Str.empty.length = 0:=rfl
theorem jg9 {ns:List Str} {k:Nat} (h:k < ns.length):atI (ns.map V.str) (k:Int) = some (V.str (ns.getD k Str.empty)):=by
  refine jdW ?_
  rw [List.getElem?_map,List.getElem?_eq_getElem h,List.getD_eq_getElem?_getD,List.getElem?_eq_getElem h]; rfl
noncomputable def qg (K:PySem.W.Frag):Sp:=fun vs H Q _=>∃ (b:Nat) (nl:Addr) (ns:List Str),vs = [nv b,.ref nl] /\ b < 64 /\ NmAt K H nl ns /\ (∀ k ∈ things b,k < ns.length) /\ ∀ H',Same H H'->Q (.str (ql ns b)) H'
noncomputable def jcm (_K:PySem.W.Frag) (_c:Addr):Sp:=fun vs H Q _=>∃ (a:Addr) (v:V),vs = [.ref a,v] /\ Q (.str (Str.ofString "nothing")) H
noncomputable def jby (K:PySem.W.Frag) (c:Addr):Sp:=fun vs H Q _=>∃ (a dx:Addr) (b:Nat) (m:Int) (nl:Addr) (ns:List Str),vs = [.ref a,.ref nl] /\ H a = some (.ins c dx (jfF b m)) /\ qP (.only b m) /\ NmAt K H nl ns /\ (∀ k ∈ things b,k < ns.length) /\ ∀ H',Same H H'->Q (.str (jfD ns (.only b m))) H'
noncomputable def ZX (K:PySem.W.Frag) (c:Addr):Sp:=fun vs H Q _=>∃ (a dx:Addr) (k l:Nat) (m:Int) (nl:Addr) (ns:List Str),vs = [.ref a,.ref nl] /\ H a = some (.ins c dx (jfG k l m)) /\ qP (.some k l m) /\ NmAt K H nl ns /\ (∀ x ∈ things k,x < ns.length) /\ ∀ H',Same H H'->Q (.str (jfD ns (.some k l m))) H'
noncomputable def jbz (K:PySem.W.Frag) (c:Addr):Sp:=fun vs H Q _=>∃ (a dx:Addr) (k l:Nat) (m:Int) (nl:Addr) (ns:List Str),vs = [.ref a,.ref nl] /\ H a = some (.ins c dx (jfE k l m)) /\ qP (.most k l m) /\ NmAt K H nl ns /\ (∀ x ∈ things k,x < ns.length) /\ ∀ H',Same H H'->Q (.str (jfD ns (.most k l m))) H'
noncomputable def jeu (K:PySem.W.Frag) (any:Bool) (ju jh jb jg jc jd je jf:Addr) (d:Nat):Sp:=fun vs H Q _=>∃ (a:Addr) (ts:List Tr) (A:Addr->Prop) (nl:Addr) (ns:List Str) (m:Nat),vs = [.ref a,.ref nl] /\ IsTr ju jh jb jg jd je A H d a (.node any ts) /\ jR ts <= 100 /\ NmAt K H nl ns /\ m <= 6 /\ m <= ns.length /\ Sub (Jg ts) m /\ ∀ H',Same H H'->Q (.str (qM ns (.node any ts))) H'
noncomputable def jic (K:PySem.W.Frag) (ju jh jb jg jc jd je jf:Addr) (d:Nat):Sp:=fun vs H Q _=>∃ (l:Addr) (bs:List Addr) (ts:List Tr) (A:Addr->Prop) (nl:Addr) (ns:List Str) (m:Nat),vs = [.ref l,.ref nl] /\ H l = some (.lst (bs.map V.ref)) /\ All2 (IsTr ju jh jb jg jd je A H d) bs ts /\ jR ts <= 100 /\ NmAt K H nl ns /\ m <= 6 /\ m <= ns.length /\ Sub (Jg ts) m /\ ∀ H',Same H H'->Q (.str (Txt.join (Str.ofString "; ") (ts.map (qM ns)))) H'
noncomputable def TWd (K:PySem.W.Frag) (ju jh jb jg jc jd je jf:Addr) (d:Nat):Addr->Sp->Prop:=fun C sp=>(C = ju /\ sp = jcm K ju) ∨ (C = jh /\ sp = jby K jh) ∨ (C = jb /\ sp = ZX K jb) ∨ (C = jg /\ sp = jbz K jg) ∨ (C = jd /\ sp = jeu K true ju jh jb jg jc jd je jf d) ∨ (C = je /\ sp = jeu K false ju jh jb jg jc jd je jf d)
noncomputable def jhG (K:PySem.W.Frag) (ju jh jb jg jc jd je jf:Addr):Addr->Sp->Prop:=TWd K ju jh jb jg jc jd je jf 5
theorem IsTr.ok {c1 c2 c3 c4 c5 c6:Addr} {A:Addr->Prop} {H:Hp}:∀ (d:Nat) {a:Addr} {t:Tr},IsTr c1 c2 c3 c4 c5 c6 A H d a t->okT t
  | 0,_,_,h=>h.elim
  | _ + 1,a,.leaf f,h=>jb1.mpr h.1
  | d + 1,a,.node any ts,h=>by
    obtain ⟨dx,l,bs,e1,e2,e3,e4⟩:=h
    exact yD.mpr (jhT fun t ht=>by obtain ⟨x,hx⟩:=e4.mem ht; exact IsTr.ok d hx)
theorem FT.ok {A:Addr->Prop} {H:Hp}:∀ (d:Nat) {a:Addr} {t:Tr},FT A H d a t->okT t
  | 0,_,_,h=>h.elim
  | _ + 1,a,.leaf f,h=>jb1.mpr h.1
  | d + 1,a,.node any ts,h=>by
    obtain ⟨l,bs,e1,e2,e3,e4⟩:=h
    exact yD.mpr (jhT fun t ht=>by obtain ⟨x,hx⟩:=e4.mem ht; exact FT.ok d hx)
section
variable {P:Program} {w:World} {K:PySem.W.Frag} {mg:Str->Option Value} {base:Heap}
variable {ju jh jb jg jc jd je jf:Addr}
theorem jec {f:Addr} {fd:FuncData} (F:Fun K "place_words" "place_words" yL f fd) (jH:mg "place_words" = some (.ref f))
    (JS:jK P w K mg base 2 "things_in" ["bundle"] [] (YG K)):jK P w K mg base 3 "place_words" ["bundle", "names"] [] (qg K):=by
  refine F.jX jH (bnd2 F fun _ _ _ _ _ _ _ _=>rfl) jes (fun vs H Q E h=>?_) (fun cdv A outer s H vs Q E hr h=>?_)
  · obtain ⟨b,nl,ns,rfl,_⟩:=h; rfl
  obtain ⟨b,nl,ns,rfl,hb,hN,hk,q⟩:=h
  refine ⟨_,(R.jr (R.jJ (R.ZR K R.jG (R.Jj (jw yL) ["bundle", "names"] ["number"] ["names"] [1] rfl rfl rfl ⟨s.heap.objs.size + 1,rfl⟩ rfl rfl (by decide +kernel) (R.JL (R.jz JS hr (by first | decide | omega) rfl (R.pa_c (R.pv 0) R.ji))) (fun C s2 H2 fp=>(R.jV (i:=0) (show List.Nodup (["number", "names"]:List Str) from by decide +kernel) rfl (Or.inl rfl))) (fun C s2 H2 fp=>R.JM) (fun C s2 H2 fp=>(R.jY (R.ixL K) (R.pv 1) (R.pv 0) (fun _ _=>rfl))))))),?_⟩
  refine ⟨Str.ofString "+",rfl,_,rfl,b,rfl,hb,fun l H1 s1 h1 e1=>⟨l,rfl,⟨_,SqL.of e1⟩,fun l2 h2=>?_⟩⟩
  have hN1:=hN.same s1
  refine zR nv (things b) (fun _=>true) (fun k=>.str (ns.getD k Str.empty)) (SqL.of e1) (by have:=yU b; omega) h2 ?_ ?_ ?_
  · intro k hk' H2 s2 C hC; exact hC _ (Same.refl _)
  · intro k hk' _ H2 s2 C hC
    exact ⟨_,rfl,_,rfl,nl,_,_,_,rfl,rfl,(hN1.same s2).1,jg9 (hk k hk'),hC _ (Same.refl _)⟩
  · intro H2 s2 e2
    have em:(((things b).filter fun _=>true).map fun k=>V.str (ns.getD k Str.empty)) = ((things b).map fun k=>ns.getD k Str.empty).map V.str:=by
      rw [List.filter_eq_self.mpr (fun _ _=>rfl),List.map_map]; rfl
    rw [em] at e2
    exact ⟨l2,_,rfl,SqL.of e2,(qp hN.2.1 b).1,q H2 (s1.trans s2)⟩
theorem jb4 {f:Addr} {fd:FuncData} (F:Fun K "words" "Bid.words" zm f fd)
    (jN:Own K mg "Bid" ju [])
    (jE:Own K mg "Only" jh ["bundle", "amount"])
    (jt:Own K mg "SoMany" jb ["kind", "least", "amount"])
    (jD:Own K mg "UpTo" jg ["kind", "most", "each"])
    (jx:Own K mg "Several" jc ["bids"])
    (jA:Own K mg "AnyOf" jd ["bids"])
    (jB:Own K mg "OneOf" je ["bids"])
    (jy:Own K mg "Stock" jf ["numbers", "kinds"]):FnOk P w K mg base CX0 1 f fd ["self", "names"] (jcm K ju):=by
  refine F.okQ jgm (fun vs H Q E h=>?_) (fun cdv A outer s H vs Q E hr h=>?_)
  · obtain ⟨a,v,rfl,_⟩:=h; rfl
  obtain ⟨a,v,rfl,q⟩:=h
  exact ⟨_,(R.jr (R.jJ R.jG)),q⟩
theorem jbp {f:Addr} {fd:FuncData} (F:Fun K "words" "Only.words" Yt f fd)
    (Jd:jK P w K mg base 3 "place_words" ["bundle", "names"] [] (qg K))
    (jN:Own K mg "Bid" ju [])
    (jE:Own K mg "Only" jh ["bundle", "amount"])
    (jt:Own K mg "SoMany" jb ["kind", "least", "amount"])
    (jD:Own K mg "UpTo" jg ["kind", "most", "each"])
    (jx:Own K mg "Several" jc ["bids"])
    (jA:Own K mg "AnyOf" jd ["bids"])
    (jB:Own K mg "OneOf" je ["bids"])
    (jy:Own K mg "Stock" jf ["numbers", "kinds"]):FnOk P w K mg base CX0 4 f fd ["self", "names"] (jby K jh):=by
  refine F.okQ zL (fun vs H Q E h=>?_) (fun cdv A outer s H vs Q E hr h=>?_)
  · obtain ⟨a,dx,b,m,nl,ns,rfl,_⟩:=h; rfl
  obtain ⟨a,dx,b,m,nl,ns,rfl,e,ok,hN,hk,q⟩:=h
  refine ⟨_,(R.jk (R.jT (i:=2) zL.nd rfl (Or.inl rfl) (R.jz Jd hr (by first | decide | omega) rfl (R.pa_c (R.Jp K (R.pv 0)) (R.pa_c (R.pv 1) R.ji))))
    (R.jk (R.jT (i:=3) zL.nd rfl (Or.inl rfl) (R.Jp K (R.pv 0)))
    (R.jr (R.jJ (R.YS (R.Jr (R.jf1 (R.pv 2)) (R.Jr R.jG (R.Jr (R.jf2 (R.pv 3)) R.jaT)))))))),?_⟩
  obtain ⟨l1,l2,l3,l4,l5,_⟩:=lens
  have pl:=(qp hN.2.1 b).2
  have ml:=JZ ok.2.2.lo ok.2.2.hi
  refine ⟨_,rfl,a,jh,dx,_,nv b,rfl,e,jE.cls,jE.no _ (Js 0 rfl),rfl,_,rfl,b,nl,ns,rfl,by have:=ok.2.1; omega,hN,hk,fun H1 s1=>?_⟩
  refine ⟨_,rfl,a,jh,dx,_,.int m,rfl,s1 _ _ e,jE.cls,jE.no _ (Js 1 rfl),rfl,?_⟩
  refine ⟨_,rfl,ql ns b,rfl,sz (by omega),ql ns b,rfl,sz (by rw [strLen_append,Jf]; omega),Str.ofString " for ",rfl,sz (by rw [strLen_append,strLen_append,Jf]; omega),?_⟩
  refine ⟨_,rfl,m,rfl,qY ok.2.2.lo ok.2.2.hi,Str.ofString (toString m),rfl,sz (by rw [strLen_append,strLen_append,strLen_append,Jf]; omega),sz (by rw [strLen_append,strLen_append,strLen_append,Jf]; omega),?_⟩
  rw [empty_app]
  exact q H1 s1
theorem ZQ {f:Addr} {fd:FuncData} (F:Fun K "words" "SoMany.words" yq f fd)
    (Jd:jK P w K mg base 3 "place_words" ["bundle", "names"] [] (qg K))
    (jN:Own K mg "Bid" ju [])
    (jE:Own K mg "Only" jh ["bundle", "amount"])
    (jt:Own K mg "SoMany" jb ["kind", "least", "amount"])
    (jD:Own K mg "UpTo" jg ["kind", "most", "each"])
    (jx:Own K mg "Several" jc ["bids"])
    (jA:Own K mg "AnyOf" jd ["bids"])
    (jB:Own K mg "OneOf" je ["bids"])
    (jy:Own K mg "Stock" jf ["numbers", "kinds"]):FnOk P w K mg base CX0 4 f fd ["self", "names"] (ZX K jb):=by
  refine F.okQ Qy (fun vs H Q E h=>?_) (fun cdv A outer s H vs Q E hr h=>?_)
  · obtain ⟨a,dx,k,l,m,nl,ns,rfl,_⟩:=h; rfl
  obtain ⟨a,dx,k,l,m,nl,ns,rfl,e,ok,hN,hk,q⟩:=h
  refine ⟨_,(R.jk (R.jT (i:=2) Qy.nd rfl (Or.inl rfl) (R.jz Jd hr (by first | decide | omega) rfl (R.pa_c (R.Jp K (R.pv 0)) (R.pa_c (R.pv 1) R.ji))))
    (R.jk (R.jT (i:=3) Qy.nd rfl (Or.inl rfl) (R.Jp K (R.pv 0)))
    (R.jk (R.jT (i:=4) Qy.nd rfl (Or.inl rfl) (R.Jp K (R.pv 0)))
    (R.jr (R.jJ (R.YS (R.Jr (R.jf2 (R.pv 3)) (R.Jr R.jG (R.Jr (R.jf1 (R.pv 2)) (R.Jr R.jG (R.Jr (R.jf2 (R.pv 4)) R.jaT))))))))))),?_⟩
  obtain ⟨l1,l2,l3,l4,l5,_⟩:=lens
  have pl:=(qp hN.2.1 k).2
  have ml:=JZ ok.2.2.2.2.lo ok.2.2.2.2.hi
  have lo:(0:Int) <= ((l:Nat):Int):=by omega
  have hi:((l:Nat):Int) <= 10 ^ 9:=by have:=ok.2.2.2.1; omega
  have ll:=JZ lo hi
  refine ⟨_,rfl,a,jb,dx,_,nv k,rfl,e,jt.cls,jt.no _ (Js 0 rfl),rfl,_,rfl,k,nl,ns,rfl,by have:=ok.2.1; omega,hN,hk,fun H1 s1=>?_⟩
  refine ⟨_,rfl,a,jb,dx,_,nv l,rfl,s1 _ _ e,jt.cls,jt.no _ (Js 1 rfl),rfl,?_⟩
  refine ⟨_,rfl,a,jb,dx,_,.int m,rfl,s1 _ _ e,jt.cls,jt.no _ (Js 2 rfl),rfl,?_⟩
  refine ⟨_,rfl,_,rfl,qY lo hi,Str.ofString (toString ((l:Nat):Int)),rfl,sz (by rw [strLen_append,Jf]; omega),Str.ofString " of ",rfl,sz (by rw [strLen_append,strLen_append,Jf]; omega),?_⟩
  refine ⟨_,rfl,ql ns k,rfl,sz (by omega),ql ns k,rfl,sz (by rw [strLen_append,strLen_append,strLen_append,Jf]; omega),Str.ofString " for ",rfl,sz (by rw [strLen_append,strLen_append,strLen_append,strLen_append,Jf]; omega),?_⟩
  refine ⟨_,rfl,m,rfl,qY ok.2.2.2.2.lo ok.2.2.2.2.hi,Str.ofString (toString m),rfl,sz (by rw [strLen_append,strLen_append,strLen_append,strLen_append,strLen_append,Jf]; omega),sz (by rw [strLen_append,strLen_append,strLen_append,strLen_append,strLen_append,Jf]; omega),?_⟩
  rw [empty_app]
  exact q H1 s1
theorem jbq {f:Addr} {fd:FuncData} (F:Fun K "words" "UpTo.words" Yw f fd)
    (Jd:jK P w K mg base 3 "place_words" ["bundle", "names"] [] (qg K))
    (jN:Own K mg "Bid" ju [])
    (jE:Own K mg "Only" jh ["bundle", "amount"])
    (jt:Own K mg "SoMany" jb ["kind", "least", "amount"])
    (jD:Own K mg "UpTo" jg ["kind", "most", "each"])
    (jx:Own K mg "Several" jc ["bids"])
    (jA:Own K mg "AnyOf" jd ["bids"])
    (jB:Own K mg "OneOf" je ["bids"])
    (jy:Own K mg "Stock" jf ["numbers", "kinds"]):FnOk P w K mg base CX0 4 f fd ["self", "names"] (jbz K jg):=by
  refine F.okQ yM (fun vs H Q E h=>?_) (fun cdv A outer s H vs Q E hr h=>?_)
  · obtain ⟨a,dx,k,l,m,nl,ns,rfl,_⟩:=h; rfl
  obtain ⟨a,dx,k,l,m,nl,ns,rfl,e,ok,hN,hk,q⟩:=h
  refine ⟨_,(R.jk (R.jT (i:=2) yM.nd rfl (Or.inl rfl) (R.jz Jd hr (by first | decide | omega) rfl (R.pa_c (R.Jp K (R.pv 0)) (R.pa_c (R.pv 1) R.ji))))
    (R.jk (R.jT (i:=3) yM.nd rfl (Or.inl rfl) (R.Jp K (R.pv 0)))
    (R.jk (R.jT (i:=4) yM.nd rfl (Or.inl rfl) (R.Jp K (R.pv 0)))
    (R.jr (R.jJ (R.YS (R.Jr R.jG (R.Jr (R.jf2 (R.pv 3)) (R.Jr R.jG (R.Jr (R.jf1 (R.pv 2)) (R.Jr R.jG (R.Jr (R.jf2 (R.pv 4)) (R.Jr R.jG R.jaT))))))))))))),?_⟩
  obtain ⟨l1,l2,l3,l4,l5,_⟩:=lens
  have pl:=(qp hN.2.1 k).2
  have ml:=JZ ok.2.2.2.2.lo ok.2.2.2.2.hi
  have lo:(0:Int) <= ((l:Nat):Int):=by omega
  have hi:((l:Nat):Int) <= 10 ^ 9:=by have:=ok.2.2.2.1; omega
  have ll:=JZ lo hi
  refine ⟨_,rfl,a,jg,dx,_,nv k,rfl,e,jD.cls,jD.no _ (Js 0 rfl),rfl,_,rfl,k,nl,ns,rfl,by have:=ok.2.1; omega,hN,hk,fun H1 s1=>?_⟩
  refine ⟨_,rfl,a,jg,dx,_,nv l,rfl,s1 _ _ e,jD.cls,jD.no _ (Js 1 rfl),rfl,?_⟩
  refine ⟨_,rfl,a,jg,dx,_,.int m,rfl,s1 _ _ e,jD.cls,jD.no _ (Js 2 rfl),rfl,?_⟩
  refine ⟨Str.ofString "up to ",rfl,sz (by rw [strLen_append,Jf]; omega),?_⟩
  refine ⟨_,rfl,_,rfl,qY lo hi,Str.ofString (toString ((l:Nat):Int)),rfl,sz (by rw [strLen_append,strLen_append,Jf]; omega),Str.ofString " of ",rfl,sz (by rw [strLen_append,strLen_append,strLen_append,Jf]; omega),?_⟩
  refine ⟨_,rfl,ql ns k,rfl,sz (by omega),ql ns k,rfl,sz (by rw [strLen_append,strLen_append,strLen_append,strLen_append,Jf]; omega),Str.ofString " for ",rfl,sz (by rw [strLen_append,strLen_append,strLen_append,strLen_append,strLen_append,Jf]; omega),?_⟩
  refine ⟨_,rfl,m,rfl,qY ok.2.2.2.2.lo ok.2.2.2.2.hi,Str.ofString (toString m),rfl,sz (by rw [strLen_append,strLen_append,strLen_append,strLen_append,strLen_append,strLen_append,Jf]; omega),Str.ofString " each",rfl,sz (by rw [strLen_append,strLen_append,strLen_append,strLen_append,strLen_append,strLen_append,strLen_append,Jf]; omega),sz (by rw [strLen_append,strLen_append,strLen_append,strLen_append,strLen_append,strLen_append,strLen_append,Jf]; omega),?_⟩
  rw [empty_app]
  exact q H1 s1
theorem jag (K:PySem.W.Frag) {ju jh jb jg jc jd je jf:Addr} {A:Addr->Prop} {H:Hp} {d:Nat} {b:Addr} {t:Tr} {m:Nat} (hb:IsTr ju jh jb jg jd je A H d b t) (few:jW t <= 100) (hm:m <= 6) (hs:Sub (Jb t) m) :
    ∃ (C dx:Addr) (fs:List (Str × V)) (sp:Sp),H b = some (.ins C dx fs) /\ fs.lookup ("words" : Str) = none /\ TWd K ju jh jb jg jc jd je jf d C sp /\ ∀ (H1:Hp) (nl:Addr) (ns:List Str),Same H H1->NmAt K H1 nl ns->m <= ns.length->∀ Q:VK,(∀ H',Same H1 H'->Q (.str (qM ns t)) H')->sp [.ref b,.ref nl] H1 Q E0:=by
  cases d with
  | zero=>exact hb.elim
  | succ d =>
    cases t with
    | leaf f =>
      obtain ⟨ok,hb⟩:=hb
      simp only [ZG]
      have hth:∀ (ns:List Str),m <= ns.length->∀ x,qL f = x->x <= 63->∀ k ∈ things x,k < ns.length:=fun ns hmn x e hx k hk=>by
        have hs':Sub x m:=by rw [<- e]; exact hs
        have:=Z0 m (by omega) x (by omega) hs' k hk
        omega
      cases f with
      | none =>
        obtain ⟨dx,e⟩:=hb
        exact ⟨_,dx,_,_,e,rfl,.inl ⟨rfl,rfl⟩,fun H1 nl ns S hN hmn Q q=>⟨b,.ref nl,rfl,q H1 (Same.refl H1)⟩⟩
      | only x z =>
        obtain ⟨dx,e⟩:=hb
        exact ⟨_,dx,_,_,e,rfl,.inr (.inl ⟨rfl,rfl⟩),fun H1 nl ns S hN hmn Q q=>⟨b,dx,x,z,nl,ns,rfl,S _ _ e,ok,hN,hth ns hmn x rfl ok.2.1,q⟩⟩
      | some x l z =>
        obtain ⟨dx,e⟩:=hb
        exact ⟨_,dx,_,_,e,rfl,.inr (.inr (.inl ⟨rfl,rfl⟩)),fun H1 nl ns S hN hmn Q q=>⟨b,dx,x,l,z,nl,ns,rfl,S _ _ e,ok,hN,hth ns hmn x rfl ok.2.1,q⟩⟩
      | most x l z =>
        obtain ⟨dx,e⟩:=hb
        exact ⟨_,dx,_,_,e,rfl,.inr (.inr (.inr (.inl ⟨rfl,rfl⟩))),fun H1 nl ns S hN hmn Q q=>⟨b,dx,x,l,z,nl,ns,rfl,S _ _ e,ok,hN,hth ns hmn x rfl ok.2.1,q⟩⟩
    | node any ts =>
      have hb':=hb
      obtain ⟨dx,l,bs,e1,e2,e3,e4⟩:=hb
      have few2:jR ts <= 100:=by have:1 + jR ts <= 100:=few; omega
      cases any
      · exact ⟨_,dx,_,_,e1,rfl,.inr (.inr (.inr (.inr (.inr ⟨rfl,rfl⟩)))),fun H1 nl ns S hN hmn Q q=>⟨b,ts,A,nl,ns,m,rfl,IsTr.same S hb',few2,hN,hm,hmn,hs,q⟩⟩
      · exact ⟨_,dx,_,_,e1,rfl,.inr (.inr (.inr (.inr (.inl ⟨rfl,rfl⟩)))),fun H1 nl ns S hN hmn Q q=>⟨b,ts,A,nl,ns,m,rfl,IsTr.same S hb',few2,hN,hm,hmn,hs,q⟩⟩
theorem jbs (d:Nat) {f:Addr} {fd:FuncData} (F:Fun K "list_words" "list_words" Q3 f fd) (jH:mg "list_words" = some (.ref f))
    (jN:Own K mg "Bid" ju [])
    (jE:Own K mg "Only" jh ["bundle", "amount"])
    (jt:Own K mg "SoMany" jb ["kind", "least", "amount"])
    (jD:Own K mg "UpTo" jg ["kind", "most", "each"])
    (jx:Own K mg "Several" jc ["bids"])
    (jA:Own K mg "AnyOf" jd ["bids"])
    (jB:Own K mg "OneOf" je ["bids"])
    (jy:Own K mg "Stock" jf ["numbers", "kinds"])
    (Qd:∀ C sp,TWd K ju jh jb jg jc jd je jf d C sp->∃ ps,J3 P w K mg base (2 * d + 4) C "words" ps sp):jK P w K mg base (2 * d + 5) "list_words" ["bids", "names"] [] (jic K ju jh jb jg jc jd je jf d):=by
  refine F.jX jH (bnd2 F fun _ _ _ _ _ _ _ _=>rfl) je1 (fun vs H Q E h=>?_) (fun cdv A outer s H vs Q E hr h=>?_)
  · obtain ⟨l,bs,ts,A,nl,ns,m,rfl,_⟩:=h; rfl
  obtain ⟨l,bs,ts,A,nl,ns,m,rfl,hl,hB,few,hN,hm,hmn,hs,q⟩:=h
  have tl:=Ql ts
  refine ⟨_,(R.jr (R.jJ (R.ZR K R.jG (R.Jj (jw Q3) ["bids", "names"] ["bid"] ["names"] [1] rfl rfl rfl ⟨s.heap.objs.size + 1,rfl⟩ rfl rfl (by decide +kernel) (R.JL (R.pv 0)) (fun C s2 H2 fp=>(R.jV (i:=0) (show List.Nodup (["bid", "names"]:List Str) from by decide +kernel) rfl (Or.inl rfl))) (fun C s2 H2 fp=>R.JM) (fun C s2 H2 fp=>(R.Qe (R.pv 0) Qd hr (by first | decide | omega) (R.pa_c (R.pv 1) R.ji))))))),?_⟩
  refine ⟨Str.ofString "; ",rfl,_,rfl,l,rfl,⟨_,SqL.of hl⟩,fun l2 h2=>?_⟩
  refine yh (xs:=bs.map V.ref) (fun k H'=>Same H H' /\ H' l2 = some (.lst (((ts.take k).map (qM ns)).map V.str))) ⟨jC h2 _,jq⟩ (fun k H' _ z=>SqL.of (z.1 _ _ hl)) ?_ ?_
  · rintro k v H1 hv ⟨s1,e1⟩ K1 K0 k1 k0
    obtain ⟨b,t,rfl,hb,ht,ib⟩:=hB.at hv
    have mt:=qD (List.mem_of_getElem? ht)
    obtain ⟨C,dx,ff,sp,g1,g2,g3,g4⟩:=jag K (jc:=jc) (jf:=jf) (ib.same s1) (by omega) hm (hs.mem t (List.mem_of_getElem? ht))
    refine ⟨_,rfl,b,C,dx,ff,sp,rfl,g1,g2,g3,_,rfl,g4 H1 nl ns (Same.refl _) (hN.same s1) hmn _ fun H3 s3=>k1 _ _ _ (s3 _ _ e1) ?_ ⟨(s1.trans s3).upd h2 _,?_⟩⟩
    · rw [List.length_map,List.length_map,List.length_take]; exact Ji (by omega)
    · rw [jq,List.take_succ,ht,List.map_append,List.map_append]; rfl
  · rintro H1 ⟨s1,e1⟩
    rw [List.length_map,hB.1,List.take_length] at e1
    have ok:∀ t ∈ ts,okT t:=fun t ht=>by
      obtain ⟨x,hx⟩:=hB.mem ht
      exact IsTr.ok _ hx
    exact ⟨l2,_,rfl,SqL.of e1,(jcB hN.2.1 ok few).1,q H1 s1⟩
theorem jd8 (d:Nat) {f:Addr} {fd:FuncData} (F:Fun K "words" "AnyOf.words" yH f fd) (Yj:jK P w K mg base (2 * d + 5) "list_words" ["bids", "names"] [] (jic K ju jh jb jg jc jd je jf d))
    (jN:Own K mg "Bid" ju [])
    (jE:Own K mg "Only" jh ["bundle", "amount"])
    (jt:Own K mg "SoMany" jb ["kind", "least", "amount"])
    (jD:Own K mg "UpTo" jg ["kind", "most", "each"])
    (jx:Own K mg "Several" jc ["bids"])
    (jA:Own K mg "AnyOf" jd ["bids"])
    (jB:Own K mg "OneOf" je ["bids"])
    (jy:Own K mg "Stock" jf ["numbers", "kinds"]) :
    FnOk P w K mg base CX0 (2 * d + 6) f fd ["self", "names"] (jeu K true ju jh jb jg jc jd je jf (d + 1)):=by
  refine F.okQ Y5 (fun vs H Q E h=>?_) (fun cdv A outer s H vs Q E hr h=>?_)
  · obtain ⟨a,ts,A,nl,ns,m,rfl,_⟩:=h; rfl
  obtain ⟨a,ts,A,nl,ns,m,rfl,hT,few,hN,hm,hmn,hs,q⟩:=h
  have ok:=za (yD.mp (IsTr.ok _ hT))
  obtain ⟨dx,l,bs,e1,e2,e3,e4⟩:=hT
  obtain ⟨_,_,_,_,_,l6,l7,l8,l9⟩:=lens
  have jl:=(jcB hN.2.1 ok few).2
  refine ⟨_,(R.jk (R.jT (i:=2) Y5.nd rfl (Or.inl rfl) (R.jz Yj hr (by first | decide | omega) rfl (R.pa_c (R.Jp K (R.pv 0)) (R.pa_c (R.pv 1) R.ji))))
    (R.jr (R.jJ (R.YS (R.Jr R.jG (R.Jr (R.jf1 (R.pv 2)) (R.Jr R.jG R.jaT))))))),?_⟩
  refine ⟨_,rfl,a,jd,dx,_,.ref l,rfl,e1,jA.cls,jA.no _ (Js 0 rfl),rfl,_,rfl,l,bs,ts,A,nl,ns,m,rfl,e3,e4,few,hN,hm,hmn,hs,fun H1 s1=>?_⟩
  refine ⟨Str.ofString "any(",rfl,sz (by rw [strLen_append,Jf]; omega),_,rfl,Txt.join (Str.ofString "; ") (ts.map (qM ns)),rfl,sz (by omega),Txt.join (Str.ofString "; ") (ts.map (qM ns)),rfl,sz (by rw [strLen_append,strLen_append,Jf]; omega),Str.ofString ")",rfl,sz (by rw [strLen_append,strLen_append,strLen_append,Jf]; omega),sz (by rw [strLen_append,strLen_append,strLen_append,Jf]; omega),?_⟩
  rw [empty_app]
  have z:=q H1 s1
  rw [ZJ] at z
  exact z
theorem jd9 (d:Nat) {f:Addr} {fd:FuncData} (F:Fun K "words" "OneOf.words" yI f fd) (Yj:jK P w K mg base (2 * d + 5) "list_words" ["bids", "names"] [] (jic K ju jh jb jg jc jd je jf d))
    (jN:Own K mg "Bid" ju [])
    (jE:Own K mg "Only" jh ["bundle", "amount"])
    (jt:Own K mg "SoMany" jb ["kind", "least", "amount"])
    (jD:Own K mg "UpTo" jg ["kind", "most", "each"])
    (jx:Own K mg "Several" jc ["bids"])
    (jA:Own K mg "AnyOf" jd ["bids"])
    (jB:Own K mg "OneOf" je ["bids"])
    (jy:Own K mg "Stock" jf ["numbers", "kinds"]) :
    FnOk P w K mg base CX0 (2 * d + 6) f fd ["self", "names"] (jeu K false ju jh jb jg jc jd je jf (d + 1)):=by
  refine F.okQ Y6 (fun vs H Q E h=>?_) (fun cdv A outer s H vs Q E hr h=>?_)
  · obtain ⟨a,ts,A,nl,ns,m,rfl,_⟩:=h; rfl
  obtain ⟨a,ts,A,nl,ns,m,rfl,hT,few,hN,hm,hmn,hs,q⟩:=h
  have ok:=za (yD.mp (IsTr.ok _ hT))
  obtain ⟨dx,l,bs,e1,e2,e3,e4⟩:=hT
  obtain ⟨_,_,_,_,_,l6,l7,l8,l9⟩:=lens
  have jl:=(jcB hN.2.1 ok few).2
  refine ⟨_,(R.jk (R.jT (i:=2) Y6.nd rfl (Or.inl rfl) (R.jz Yj hr (by first | decide | omega) rfl (R.pa_c (R.Jp K (R.pv 0)) (R.pa_c (R.pv 1) R.ji))))
    (R.jr (R.jJ (R.YS (R.Jr R.jG (R.Jr (R.jf1 (R.pv 2)) (R.Jr R.jG R.jaT))))))),?_⟩
  refine ⟨_,rfl,a,je,dx,_,.ref l,rfl,e1,jB.cls,jB.no _ (Js 0 rfl),rfl,_,rfl,l,bs,ts,A,nl,ns,m,rfl,e3,e4,few,hN,hm,hmn,hs,fun H1 s1=>?_⟩
  refine ⟨Str.ofString "one(",rfl,sz (by rw [strLen_append,Jf]; omega),_,rfl,Txt.join (Str.ofString "; ") (ts.map (qM ns)),rfl,sz (by omega),Txt.join (Str.ofString "; ") (ts.map (qM ns)),rfl,sz (by rw [strLen_append,strLen_append,Jf]; omega),Str.ofString ")",rfl,sz (by rw [strLen_append,strLen_append,strLen_append,Jf]; omega),sz (by rw [strLen_append,strLen_append,strLen_append,Jf]; omega),?_⟩
  rw [empty_app]
  have z:=q H1 s1
  rw [ZJ] at z
  exact z
theorem jg7 {f1 f2 f3 f4 f5 f6 f7:Addr} {d1 d2 d3 d4 d5 d6 d7:FuncData} (F1:Fun K "words" "Bid.words" zm f1 d1) (F2:Fun K "words" "Only.words" Yt f2 d2) (F3:Fun K "words" "SoMany.words" yq f3 d3) (F4:Fun K "words" "UpTo.words" Yw f4 d4)
    (F5:Fun K "words" "AnyOf.words" yH f5 d5) (F6:Fun K "words" "OneOf.words" yI f6 d6) (F7:Fun K "list_words" "list_words" Q3 f7 d7) (g7:mg "list_words" = some (.ref f7))
    (Jd:jK P w K mg base 3 "place_words" ["bundle", "names"] [] (qg K))
    (jN:Own K mg "Bid" ju [])
    (jE:Own K mg "Only" jh ["bundle", "amount"])
    (jt:Own K mg "SoMany" jb ["kind", "least", "amount"])
    (jD:Own K mg "UpTo" jg ["kind", "most", "each"])
    (jx:Own K mg "Several" jc ["bids"])
    (jA:Own K mg "AnyOf" jd ["bids"])
    (jB:Own K mg "OneOf" je ["bids"])
    (jy:Own K mg "Stock" jf ["numbers", "kinds"])
    (M1:Meth K ju "words" f1) (M2:Meth K jh "words" f2) (M3:Meth K jb "words" f3) (M4:Meth K jg "words" f4) (M5:Meth K jd "words" f5) (M6:Meth K je "words" f6) :
    ∀ d,∀ C sp,TWd K ju jh jb jg jc jd je jf d C sp->∃ ps,J3 P w K mg base (2 * d + 4) C "words" ps sp:=by
  have l1:=jb4 (P:=P) (w:=w) (base:=base) (mg:=mg) F1 jN jE jt jD jx jA jB jy
  have l2:=jbp (P:=P) (w:=w) (base:=base) (mg:=mg) F2 Jd jN jE jt jD jx jA jB jy
  have l3:=ZQ (P:=P) (w:=w) (base:=base) (mg:=mg) F3 Jd jN jE jt jD jx jA jB jy
  have l4:=jbq (P:=P) (w:=w) (base:=base) (mg:=mg) F4 Jd jN jE jt jD jx jA jB jy
  have b1:Binds K d1 ["self", "names"] []:=bnd2 F1 fun _ _ _ _ _ _ _ _=>rfl
  have b2:Binds K d2 ["self", "names"] []:=bnd2 F2 fun _ _ _ _ _ _ _ _=>rfl
  have b3:Binds K d3 ["self", "names"] []:=bnd2 F3 fun _ _ _ _ _ _ _ _=>rfl
  have b4:Binds K d4 ["self", "names"] []:=bnd2 F4 fun _ _ _ _ _ _ _ _=>rfl
  have b5:Binds K d5 ["self", "names"] []:=bnd2 F5 fun _ _ _ _ _ _ _ _=>rfl
  have b6:Binds K d6 ["self", "names"] []:=bnd2 F6 fun _ _ _ _ _ _ _ _=>rfl
  have put:∀ d,FnOk P w K mg base CX0 (2 * d + 4) f5 d5 ["self", "names"] (jeu K true ju jh jb jg jc jd je jf d)->FnOk P w K mg base CX0 (2 * d + 4) f6 d6 ["self", "names"] (jeu K false ju jh jb jg jc jd je jf d)->∀ C sp,TWd K ju jh jb jg jc jd je jf d C sp->∃ ps,J3 P w K mg base (2 * d + 4) C "words" ps sp:=by
    intro d h5 h6 C sp hT
    rcases hT with ⟨rfl,rfl⟩ | ⟨rfl,rfl⟩ | ⟨rfl,rfl⟩ | ⟨rfl,rfl⟩ | ⟨rfl,rfl⟩ | ⟨rfl,rfl⟩
    · exact ⟨_,f1,d1,l1.mono (by omega),b1,M1,jN.cls⟩
    · exact ⟨_,f2,d2,l2.mono (by omega),b2,M2,jE.cls⟩
    · exact ⟨_,f3,d3,l3.mono (by omega),b3,M3,jt.cls⟩
    · exact ⟨_,f4,d4,l4.mono (by omega),b4,M4,jD.cls⟩
    · exact ⟨_,f5,d5,h5,b5,M5,jA.cls⟩
    · exact ⟨_,f6,d6,h6,b6,M6,jB.cls⟩
  intro d
  induction d with
  | zero =>
    refine put 0 (F5.okQ Y5 (fun vs H Q E h=>?_) (fun cdv A outer s H vs Q E hr h=>?_)) (F6.okQ Y6 (fun vs H Q E h=>?_) (fun cdv A outer s H vs Q E hr h=>?_))
    · obtain ⟨a,ts,A,nl,ns,m,rfl,_⟩:=h; rfl
    · obtain ⟨a,ts,A,nl,ns,m,rfl,hT,_⟩:=h; exact hT.elim
    · obtain ⟨a,ts,A,nl,ns,m,rfl,_⟩:=h; rfl
    · obtain ⟨a,ts,A,nl,ns,m,rfl,hT,_⟩:=h; exact hT.elim
  | succ d ih =>
    have D:=jbs d F7 g7 jN jE jt jD jx jA jB jy ih
    exact put (d + 1) (jd8 d F5 D jN jE jt jD jx jA jB jy) (jd9 d F6 D jN jE jt jD jx jA jB jy)
end
end My
set_option Elab.async false
set_option linter.all false
set_option maxRecDepth 100000
set_option maxHeartbeats 4000000
namespace My
open PySem PySem.Spec PyProof.Rows L2 GM
noncomputable def jj3 (K:PySem.W.Frag) (ju jh jb jg jc jd je jf:Addr):Addr->Sp->Prop:=fun C sp=>(C = jf /\ sp = Y7 K jf)
theorem jin:∀ b < 64,∀ k < 6,decide (b / 2 ^ k &&& 1 = 1) = b.testBit k:=by decide +kernel
theorem sub_le:∀ m < 7,∀ b < 64,b <= 2 ^ m - 1->b ||| (2 ^ m - 1) = 2 ^ m - 1:=by decide +kernel
theorem jkK (ns:List (List Nat)):ns.map sv = (ns.map tx).map V.str:=by rw [List.map_map]; rfl
theorem jiL {K:PySem.W.Frag} {H:Hp} {l:Addr} {ns:List (List Nat)} (h:H l = some (.lst (ns.map sv))) (ok:∀ n ∈ ns,JH n = true) (few:ns.length <= 6):NmAt K H l (ns.map tx):=by
  refine ⟨SqL.of (by rw [<- jkK]; exact h),fun x hx=>?_,by rw [List.length_map]; omega⟩
  obtain ⟨n,hn,rfl⟩:=List.mem_map.mp hx
  have:=jb7 (ok n hn)
  rw [Jk]; omega
noncomputable def jcp (K:PySem.W.Frag) (ju jh jb jg jc jd je jf:Addr):Sp:=fun vs H Q _=>∃ (b a:Addr) (t:Tr) (A:Addr->Prop) (ns ks:List (List Nat)),vs = [.ref b,.ref a] /\ IsTr ju jh jb jg jd je A H 5 b t /\ jW t <= 100 /\ JF jf H a ns ks /\ Sub (Jb t) ns.length /\ ∀ H',Same H H'->Q (.str (qM (ns.map tx) t)) H'
noncomputable def jhs (_K:PySem.W.Frag):Sp:=fun vs H Q _=>∃ (c d:Int) (m:Nat),vs = [.int c,.int d,nv (2 ^ m - 1)] /\ m <= 6 /\ ∀ p H' t,Same H H'->j9 t = 1->jW t = 1->FT (fun l=>H l = none) H' 1 p t->Sub (Jb t) m->Q (.ref p) H'
noncomputable def jdk (K:PySem.W.Frag):Sp:=qg K
noncomputable def spTxt (K:PySem.W.Frag) (d:Nat):Sp:=fun vs H Q _=>∃ (p:Addr) (t:Tr) (A:Addr->Prop) (nl:Addr) (ns:List Str) (m:Nat),vs = [.ref p,.ref nl] /\ FT A H d p t /\ jW t <= 100 /\ NmAt K H nl ns /\ m <= 6 /\ m <= ns.length /\ Sub (Jb t) m /\ ∀ H',Same H H'->Q (.str (qM ns t)) H'
noncomputable def jhu (K:PySem.W.Frag):Sp:=spTxt K 4
noncomputable def jhq (K:PySem.W.Frag):Sp:=fun vs H Q _=>∃ (a:Addr) (sc:List Int) (m:Nat),vs = [.ref a,nv (2 ^ m - 1)] /\ SqL K H a (sc.map V.int) /\ m <= 6 /\ ∀ p H' t,Same H H'->FT (fun _=>True) H' 4 p t->j9 t <= 4->jW t <= 24->Sub (Jb t) m->Q (.ref p) H'
section
variable {P:Program} {w:World} {K:PySem.W.Frag} {mg:Str->Option Value} {base:Heap}
variable {ju jh jb jg jc jd je jf:Addr}
theorem jfX {f:Addr} {fd:FuncData} (F:Fun K "shown_bid" "shown_bid" jab f fd) (jH:mg "shown_bid" = some (.ref f))
    (jN:Own K mg "Bid" ju [])
    (jE:Own K mg "Only" jh ["bundle", "amount"])
    (jt:Own K mg "SoMany" jb ["kind", "least", "amount"])
    (jD:Own K mg "UpTo" jg ["kind", "most", "each"])
    (jx:Own K mg "Several" jc ["bids"])
    (jA:Own K mg "AnyOf" jd ["bids"])
    (jB:Own K mg "OneOf" je ["bids"])
    (jy:Own K mg "Stock" jf ["numbers", "kinds"])
    (Qd:∀ C sp,jhG K ju jh jb jg jc jd je jf C sp->∃ ps,J3 P w K mg base 14 C "words" ps sp)
    (jfJ:∀ C sp,jj3 K ju jh jb jg jc jd je jf C sp->∃ ps,J3 P w K mg base 1 C "names" ps sp):jK P w K mg base 15 "shown_bid" ["bid", "stock"] [] (jcp K ju jh jb jg jc jd je jf):=by
  refine F.jX jH (bnd2 F fun _ _ _ _ _ _ _ _=>rfl) jgp (fun vs H Q E h=>?_) (fun cdv A outer s H vs Q E hr h=>?_)
  · obtain ⟨b,a,t,A,ns,ks,rfl,_⟩:=h; rfl
  obtain ⟨b,a,t,A,ns,ks,rfl,hT,few,hSt,hs,q⟩:=h
  refine ⟨_,(R.jr (R.jJ (R.Qe (R.pv 0) Qd hr (by first | decide | omega) (R.pa_c (R.ym (R.pv 1) jfJ hr (by first | decide | omega)) R.ji)))),?_⟩
  have hG:=hSt
  obtain ⟨dx,d1,d2,kk,e1,e2,e3,e4,e5,g6,gok,gnd,gko⟩:=hG
  obtain ⟨C,dx',ff,sp,g1,g2,g3,g4⟩:=jag K (jc:=jc) (jf:=jf) hT few g6 hs
  refine ⟨_,rfl,b,C,dx',ff,sp,rfl,g1,g2,g3,_,rfl,a,jf,dx,_,Y7 K jf,rfl,e1,rfl,⟨rfl,rfl⟩,a,ns,ks,rfl,hSt,fun l hl=>?_⟩
  have s1:=jC hl (.lst (ns.map sv))
  exact g4 _ l (ns.map tx) s1 (jiL jq gok g6) (by rw [List.length_map]; exact Nat.le_refl _) _ fun H' s'=>q H' (s1.trans s')
theorem jjA {f:Addr} {fd:FuncData} (F:Fun K "_law_place" "_law_place" jcz f fd) (jH:mg "_law_place" = some (.ref f)) (jQ:mg "range" = none):jK P w K mg base 1 "_law_place" ["_law_bundle", "_law_names_here"] [] (jdk K):=by
  refine F.jX jH (bnd2 F fun _ _ _ _ _ _ _ _=>rfl) jjJ (fun vs H Q E h=>?_) (fun cdv A outer s H vs Q E hr h=>?_)
  · obtain ⟨b,nl,ns,rfl,_⟩:=h; rfl
  obtain ⟨b,nl,ns,rfl,hb,hN,hk,q⟩:=h
  refine ⟨_,(R.jr (R.jJ (R.ZR K R.jG (R.Jj (jw jcz) ["_law_bundle", "_law_names_here"] ["_law_k"] ["_law_bundle", "_law_names_here"] [0,1] rfl rfl rfl ⟨s.heap.objs.size + 1,rfl⟩ rfl rfl (by decide +kernel) (R.Jh rfl jQ (R.pa_c R.jj R.ji)) (fun C s2 H2 fp=>(R.jV (i:=0) (show List.Nodup (["_law_k", "_law_bundle", "_law_names_here"]:List Str) from by decide +kernel) rfl (Or.inl rfl))) (fun C s2 H2 fp=>(R.jc9 (R.jP Jv (R.jF jaZ (R.jF jke (R.pv 1) (R.pv 0)) R.jj) R.jj (j5 _)))) (fun C s2 H2 fp=>(R.jY (R.ixL K) (R.pv 2) (R.pv 0) (fun _ _=>rfl))))))),?_⟩
  refine ⟨Str.ofString "+",rfl,6,rfl,by decide,by decide,fun l2 h2=>?_⟩
  refine Jl (n:=6) (lo:=0) (fun k=>b.testBit k) (fun k=>.str (ns.getD k Str.empty)) (by decide) h2 ?_ ?_ ?_
  · intro k H1 hk6 s1 C hC
    rw [Int.zero_add]
    have z:=hC H1 (Same.refl _)
    refine ⟨_,rfl,_,rfl,b,k,rfl,rfl,_,1,rfl,rfl,rfl,_,rfl,?_⟩
    rw [<- jin b hb k hk6] at z
    rw [show decide (V.int ((b / 2 ^ k &&& 1:Nat):Int) = V.int 1) = decide (b / 2 ^ k &&& 1 = 1) from Zm (b:=1)]
    exact z
  · intro k H1 hk6 hp s1 C hC
    rw [Int.zero_add]
    have hm:k ∈ things b:=List.mem_filter.mpr ⟨List.mem_range.mpr hk6,hp⟩
    exact ⟨_,rfl,_,rfl,nl,_,_,_,rfl,rfl,(hN.same s1).1,jg9 (hk k hm),hC _ (Same.refl _)⟩
  · intro H1 s1 e1
    have em:(((List.range 6).filter fun k=>b.testBit k).map fun k=>V.str (ns.getD k Str.empty)) = ((things b).map fun k=>ns.getD k Str.empty).map V.str:=by
      rw [List.map_map]; rfl
    rw [em] at e1
    exact ⟨l2,_,rfl,SqL.of e1,(qp hN.2.1 b).1,q H1 s1⟩
theorem jkP {f:Addr} {fd:FuncData} (F:Fun K "_law_leaf" "_law_leaf" jgd f fd) (jH:mg "_law_leaf" = some (.ref f))
    (jcW:jK P w K mg base 1 "_law_amount" ["_law_cell_here"] [] (jeI K)):jK P w K mg base 2 "_law_leaf" ["_law_cell_here", "_law_other", "_law_last"] [] (jhs K):=by
  refine F.jX jH (bnd3 F fun _ _ _ _ _ _ _ _ _=>rfl) jho (fun vs H Q E h=>?_) (fun cdv A outer s H vs Q E hr h=>?_)
  · obtain ⟨c,d,m,rfl,_⟩:=h; rfl
  obtain ⟨c,d,m,rfl,hm6,q⟩:=h
  refine ⟨_,(R.jk (R.jT (i:=3) jho.nd rfl (Or.inl rfl) (R.jY (R.ixL K) (R.JK (R.pa_c R.jG (R.pa_c R.jG (R.pa_c R.jG (R.pa_c R.jG (R.pa_c R.jG (R.pa_c R.jG (R.pa_c R.jG (R.pa_c R.jG (R.pa_c R.jG R.ji)))))))))) (R.jF (opE Jm) (R.pv 0) R.jj) (fun _ _=>rfl)))
    (R.jk (R.j8 (R.jP jfZ (R.jF (opE Jm) (R.pv 0) R.jj) R.jj (j5 _)) (R.jr (R.jJ (R.Qo (R.pa_c (R.pv 3) (R.pa_c (R.JK R.ji) R.ji))))) R.jM)
    (R.jk (R.j8 (R.jP Jv (R.pv 2) R.jj (j5 _)) (R.jr (R.jJ (R.Qo (R.pa_c R.jG (R.pa_c R.jj (R.pa_c R.jj (R.pa_c R.jj R.ji))))))) R.jM)
    (R.jr (R.jJ (R.Qo (R.pa_c (R.pv 3) (R.pa_c (R.jF (opE0 JB) R.jj (R.jF (opE Jm) (R.jF Qs (R.pv 0) R.jj) (R.pv 2))) (R.pa_c (R.jF (opE0 JB) R.jj (R.jF (opE Jm) (R.jF Qs (R.pv 0) R.jj) R.jj)) (R.pa_c (R.jz jcW hr (by first | decide | omega) rfl (R.pa_c (R.pv 1) R.ji)) R.ji)))))))))),?_⟩
  obtain ⟨f64,fpos⟩:=pow6 hm6
  obtain ⟨z,ez,hz⟩:=Ym c 9 (by decide)
  obtain ⟨n,en,hn⟩:=Ym (c / 567) 6 (by decide)
  refine ⟨(by show 9 <= sizeLine; decide),fun l hl=>?_⟩
  have s1:=jC hl (.lst [V.str "none",.str "only",.str "some",.str "most",.str "only",.str "some",.str "most",.str "any",.str "one"])
  obtain ⟨wd,ew,hf⟩:∃ wd:Str,atI [V.str "none",.str "only",.str "some",.str "most",.str "only",.str "some",.str "most",.str "any",.str "one"] (z:Int) = some (.str wd) /\ ((z <= 6 /\ ∀ b:Nat,1 + b <= 63->∃ f,wd = word f /\ qP f /\ Fits f (1 + b) (1 + n) (qj d) /\ (qL f = 0 ∨ qL f = 1 + b)) ∨ (6 < z /\ ∃ any,wd = JR any)):=by
    have am:jfh (qj d):=⟨jeL d,jil d⟩
    have o1:∀ b:Nat,1 + b <= 63->∃ f,("only" : Str) = word f /\ qP f /\ Fits f (1 + b) (1 + n) (qj d) /\ (qL f = 0 ∨ qL f = 1 + b):=fun b hb=>⟨.only (1 + b) (qj d),rfl,⟨by omega,by omega,am⟩,⟨rfl,rfl⟩,.inr rfl⟩
    have o2:∀ b:Nat,1 + b <= 63->∃ f,("some" : Str) = word f /\ qP f /\ Fits f (1 + b) (1 + n) (qj d) /\ (qL f = 0 ∨ qL f = 1 + b):=fun b hb=>⟨.some (1 + b) (1 + n) (qj d),rfl,⟨by omega,by omega,by omega,by omega,am⟩,⟨rfl,rfl,rfl⟩,.inr rfl⟩
    have o3:∀ b:Nat,1 + b <= 63->∃ f,("most" : Str) = word f /\ qP f /\ Fits f (1 + b) (1 + n) (qj d) /\ (qL f = 0 ∨ qL f = 1 + b):=fun b hb=>⟨.most (1 + b) (1 + n) (qj d),rfl,⟨by omega,by omega,by omega,by omega,am⟩,⟨rfl,rfl,rfl⟩,.inr rfl⟩
    rcases (by omega:z = 0 ∨ z = 1 ∨ z = 2 ∨ z = 3 ∨ z = 4 ∨ z = 5 ∨ z = 6 ∨ z = 7 ∨ z = 8) with e | e | e | e | e | e | e | e | e <;> subst e
    · exact ⟨_,rfl,.inl ⟨by decide,fun b _=>⟨.none,rfl,trivial,trivial,.inl rfl⟩⟩⟩
    · exact ⟨_,rfl,.inl ⟨by decide,o1⟩⟩
    · exact ⟨_,rfl,.inl ⟨by decide,o2⟩⟩
    · exact ⟨_,rfl,.inl ⟨by decide,o3⟩⟩
    · exact ⟨_,rfl,.inl ⟨by decide,o1⟩⟩
    · exact ⟨_,rfl,.inl ⟨by decide,o2⟩⟩
    · exact ⟨_,rfl,.inl ⟨by decide,o3⟩⟩
    · exact ⟨_,rfl,.inr ⟨by decide,true,rfl⟩⟩
    · exact ⟨_,rfl,.inr ⟨by decide,false,rfl⟩⟩
  have s0:L2.Sub 0 m:=by unfold L2.Sub; rw [Nat.zero_or]
  refine ⟨_,rfl,_,_,nv z,rfl,rfl,(by show (0:Int) < 9; decide),congrArg V.int ez,l,_,_,_,rfl,rfl,SqL.of jq,ew,?_⟩
  refine ⟨_,rfl,_,_,nv z,rfl,rfl,(by show (0:Int) < 9; decide),congrArg V.int ez,_,_,rfl,rfl,_,rfl,?_⟩
  refine ite2 (fun cw=>?_) (fun cw=>?_)
  · have c':(6:Int) < (z:Int):=of_decide_eq_true cw
    rcases hf with ⟨h6,_⟩ | ⟨_,any,rfl⟩
    · omega
    refine ⟨_,rfl,(by show 0 <= sizeLine; decide),fun l2 hl2=>⟨(by show 2 <= sizeLine; decide),fun p hp=>?_⟩⟩
    refine q p _ (.node any []) ((s1.trans (jC hl2 _)).trans (jC hp _)) rfl rfl ⟨l2,[],jq,s1.free hl2,?_,All2.nil⟩ s0
    exact jC hp _ _ _ jq
  · rcases hf with ⟨h6,hf⟩ | ⟨h6,_⟩
    · refine ⟨_,rfl,rfl,_,rfl,?_⟩
      by_cases hm0:2 ^ m - 1 = 0
      · rw [show decide (nv (2 ^ m - 1) = V.int 0) = true from decide_eq_true (by rw [hm0]; rfl)]
        refine iteT ⟨(by show 4 <= sizeLine; decide),fun p hp=>?_⟩
        exact q p _ (.leaf .none) (s1.trans (jC hp _)) rfl rfl ⟨trivial,0,1,0,jq,by decide,trivial⟩ s0
      rw [show decide (nv (2 ^ m - 1) = V.int 0) = false from decide_eq_false (fun y=>hm0 (by have:=V.int.inj y; omega))]
      refine iteF ?_
      obtain ⟨b,eb,hb⟩:=Ym (c / 9) (2 ^ m - 1) (by omega)
      obtain ⟨f,rfl,ok,fit,hsp⟩:=hf b (by omega)
      refine ⟨_,rfl,_,rfl,_,_,rfl,rfl,⟨by decide,by decide⟩,_,rfl,_,_,nv b,rfl,rfl,(by show (0:Int) < ((2 ^ m - 1:Nat):Int); omega),congrArg V.int eb,_,_,nv (1 + b),rfl,rfl,rfl,?_⟩
      refine ⟨_,rfl,_,_,rfl,rfl,⟨by decide,by decide⟩,_,_,nv n,rfl,rfl,(by show (0:Int) < 6; decide),congrArg V.int en,_,_,nv (1 + n),rfl,rfl,rfl,_,rfl,d,rfl,(by show 4 <= sizeLine; decide),fun p hp=>?_⟩
      refine q p _ (.leaf f) (s1.trans (jC hp _)) rfl rfl ⟨ok,1 + b,1 + n,qj d,jq,by omega,fit⟩ ?_
      show Sub (qL f) m
      rcases hsp with e | e <;> rw [e]
      · exact s0
      · exact sub_le m (by omega) (1 + b) (by omega) (by omega)
    · exact absurd (decide_eq_true (show (6:Int) < (z:Int) by omega)) cw
end
end My
set_option Elab.async false
set_option linter.all false
set_option maxRecDepth 100000
set_option maxHeartbeats 4000000
namespace My
open PySem PySem.Spec PyProof.Rows L2 GM
theorem jhD (any:Bool):JR any ++ Str.ofString "(" = jiE any:=by cases any <;> decide
theorem ji9 (any:Bool):(JR any).length = 3:=by cases any <;> rfl
theorem jcw:(Str.ofString "(").length = 1:=rfl
theorem jeJ (ts:List Tr) (t:Tr):Jg (ts ++ [t]) = Jg ts ||| Jb t:=by
  rw [Q9]; show _ ||| (Jb t ||| 0) = _; rw [Nat.or_zero]
theorem Sub.or2 {x y m:Nat} (h1:L2.Sub x m) (h2:L2.Sub y m):L2.Sub (x ||| y) m:=by
  unfold L2.Sub at *
  rw [Nat.or_assoc,h2,h1]
section
variable {P:Program} {w:World} {K:PySem.W.Frag} {mg:Str->Option Value} {base:Heap}
theorem jkR (d:Nat) {f:Addr} {fd:FuncData} (F:Fun K "_law_text" "_law_text" jcg f fd) (jH:mg "_law_text" = some (.ref f)) (Qp:mg "str" = none)
    (jae:jK P w K mg base 1 "_law_place" ["_law_bundle", "_law_names_here"] [] (jdk K)) (zx:jK P w K mg base (8 + d) "_law_text" ["_law_form_here", "_law_names_here"] [] (spTxt K d)):jK P w K mg base (8 + d + 1) "_law_text" ["_law_form_here", "_law_names_here"] [] (spTxt K (d + 1)):=by
  refine F.jX jH (bnd2 F fun _ _ _ _ _ _ _ _=>rfl) jel (fun vs H Q E h=>?_) (fun cdv A outer s H vs Q E hr h=>?_)
  · obtain ⟨p,t,A,nl,ns,m,rfl,_⟩:=h; rfl
  obtain ⟨p,t,A,nl,ns,m,rfl,hF,few,hN,hm,hmn,hs,q⟩:=h
  refine ⟨_,(R.jk (R.j8 (R.jP Jv (R.jY (R.ixT K) (R.pv 0) R.jj (fun _ _=>rfl)) R.jG (j5 _)) (R.jr (R.jJ R.jG)) R.jM)
    (R.jk (R.j8 (R.jP jed (R.jY (R.ixT K) (R.pv 0) R.jj (fun _ _=>rfl)) (R.Qo (R.pa_c R.jG (R.pa_c R.jG R.ji))) (by with_unfolding_all rfl)) (R.jr (R.jJ (R.jF j4 (R.jF j4 (R.jF j4 (R.jY (R.ixT K) (R.pv 0) R.jj (fun _ _=>rfl)) R.jG) (R.ZR K R.jG (R.Jj (jw jcg) ["_law_form_here", "_law_names_here", "_law_place_here"] ["_law_part"] ["_law_names_here"] [1] rfl rfl rfl ⟨s.heap.objs.size + 1,rfl⟩ rfl rfl (by decide +kernel) (R.JL (R.jY (R.ixT K) (R.pv 0) R.jj (fun _ _=>rfl))) (fun C s2 H2 fp=>(R.jV (i:=0) (show List.Nodup (["_law_part", "_law_names_here"]:List Str) from by decide +kernel) rfl (Or.inl rfl))) (fun C s2 H2 fp=>R.JM) (fun C s2 H2 fp=>(R.jz zx hr (by first | decide | omega) rfl (R.pa_c (R.pv 0) (R.pa_c (R.pv 1) R.ji))))))) R.jG))) R.jM)
    (R.jk (R.jT (i:=2) jel.nd rfl (Or.inl rfl) (R.jz jae hr (by first | decide | omega) rfl (R.pa_c (R.jY (R.ixT K) (R.pv 0) R.jj (fun _ _=>rfl)) (R.pa_c (R.pv 1) R.ji))))
    (R.jk (R.j8 (R.jP Jv (R.jY (R.ixT K) (R.pv 0) R.jj (fun _ _=>rfl)) R.jG (j5 _)) (R.jr (R.jJ (R.jF j4 (R.jF j4 (R.pv 2) R.jG) (R.Qn JT rfl Qp (boot_str) (R.pa_c (R.jY (R.ixT K) (R.pv 0) R.jj (fun _ _=>rfl)) R.ji))))) R.jM)
    (R.jk (R.j8 (R.jP Jv (R.jY (R.ixT K) (R.pv 0) R.jj (fun _ _=>rfl)) R.jG (j5 _)) (R.jr (R.jJ (R.jF j4 (R.jF j4 (R.jF j4 (R.jF j4 (R.Qn JT rfl Qp (boot_str) (R.pa_c (R.jY (R.ixT K) (R.pv 0) R.jj (fun _ _=>rfl)) R.ji)) R.jG) (R.pv 2)) R.jG) (R.Qn JT rfl Qp (boot_str) (R.pa_c (R.jY (R.ixT K) (R.pv 0) R.jj (fun _ _=>rfl)) R.ji))))) R.jM)
    (R.jr (R.jJ (R.jF j4 (R.jF j4 (R.jF j4 (R.jF j4 (R.jF j4 (R.jF j4 R.jG (R.Qn JT rfl Qp (boot_str) (R.pa_c (R.jY (R.ixT K) (R.pv 0) R.jj (fun _ _=>rfl)) R.ji))) R.jG) (R.pv 2)) R.jG) (R.Qn JT rfl Qp (boot_str) (R.pa_c (R.jY (R.ixT K) (R.pv 0) R.jj (fun _ _=>rfl)) R.ji))) R.jG)))))))),?_⟩
  obtain ⟨n1,n2,n3,n4,n5,n6,n7,n8,n9⟩:=lens
  cases t with
  | leaf f =>
    obtain ⟨okf,k0,l0,z0,hp,h63,fit⟩:=hF
    simp only [ZG] at q
    have hth:∀ x,qL f = x->x <= 63->∀ k ∈ things x,k < ns.length:=fun x e hx k hk=>by
      have hs':L2.Sub x m:=by rw [<- e]; exact hs
      have:=Z0 m (by omega) x (by omega) hs' k hk
      omega
    cases f with
    | none=>exact ⟨_,rfl,p,_,_,_,rfl,rfl,SqT.of hp,rfl,rfl,_,rfl,iteT (q H (Same.refl H))⟩
    | only b z =>
      obtain ⟨rfl,rfl⟩:=fit
      obtain ⟨b1,b2,hz⟩:=okf
      have pl:=(qp hN.2.1 b).2
      have zl:=JZ hz.lo hz.hi
      refine ⟨_,rfl,p,_,_,_,rfl,rfl,SqT.of hp,rfl,rfl,_,rfl,iteF ?_⟩
      refine ⟨_,rfl,p,_,_,_,rfl,rfl,SqT.of hp,rfl,(by show 2 <= sizeLine; decide),fun tt htt=>⟨tt,_,rfl,.inr (SqT.of jq),rfl,rfl,_,rfl,iteF ?_⟩⟩
      have s1:=jC htt (.tup [V.str "any",V.str "one"])
      refine ⟨_,rfl,p,_,_,_,rfl,rfl,SqT.of (s1 _ _ hp),rfl,_,rfl,b,nl,ns,rfl,by omega,hN.same s1,hth b rfl b2,fun H2 s2=>?_⟩
      have hp2:=s2 _ _ (s1 _ _ hp)
      refine ⟨_,rfl,p,_,_,_,rfl,rfl,SqT.of hp2,rfl,rfl,_,rfl,iteT ?_⟩
      refine ⟨_,rfl,ql ns b,Str.ofString " for ",rfl,rfl,sz (by omega),_,rfl,p,_,_,_,rfl,rfl,SqT.of hp2,rfl,z,rfl,qY hz.lo hz.hi,_,Str.ofString (toString z),rfl,rfl,sz (by rw [strLen_append]; omega),?_⟩
      exact q H2 (s1.trans s2)
    | some b l z =>
      obtain ⟨rfl,rfl,rfl⟩:=fit
      obtain ⟨b1,b2,c1,c2,hz⟩:=okf
      have pl:=(qp hN.2.1 b).2
      have zl:=JZ hz.lo hz.hi
      have lo:(0:Int) <= ((l:Nat):Int):=by omega
      have hi:((l:Nat):Int) <= 10 ^ 9:=by omega
      have ll:=JZ lo hi
      refine ⟨_,rfl,p,_,_,_,rfl,rfl,SqT.of hp,rfl,rfl,_,rfl,iteF ?_⟩
      refine ⟨_,rfl,p,_,_,_,rfl,rfl,SqT.of hp,rfl,(by show 2 <= sizeLine; decide),fun tt htt=>⟨tt,_,rfl,.inr (SqT.of jq),rfl,rfl,_,rfl,iteF ?_⟩⟩
      have s1:=jC htt (.tup [V.str "any",V.str "one"])
      refine ⟨_,rfl,p,_,_,_,rfl,rfl,SqT.of (s1 _ _ hp),rfl,_,rfl,b,nl,ns,rfl,by omega,hN.same s1,hth b rfl b2,fun H2 s2=>?_⟩
      have hp2:=s2 _ _ (s1 _ _ hp)
      refine ⟨_,rfl,p,_,_,_,rfl,rfl,SqT.of hp2,rfl,rfl,_,rfl,iteF ?_⟩
      refine ⟨_,rfl,p,_,_,_,rfl,rfl,SqT.of hp2,rfl,rfl,_,rfl,iteT ?_⟩
      refine ⟨_,rfl,p,_,_,_,rfl,rfl,SqT.of hp2,rfl,_,rfl,qY lo hi,Str.ofString (toString ((l:Nat):Int)),Str.ofString " of ",rfl,rfl,sz (by omega),?_⟩
      refine ⟨_,rfl,_,ql ns b,rfl,rfl,sz (by rw [strLen_append]; omega),_,Str.ofString " for ",rfl,rfl,sz (by rw [strLen_append,strLen_append]; omega),?_⟩
      refine ⟨_,rfl,p,_,_,_,rfl,rfl,SqT.of hp2,rfl,z,rfl,qY hz.lo hz.hi,_,Str.ofString (toString z),rfl,rfl,sz (by rw [strLen_append,strLen_append,strLen_append]; omega),?_⟩
      exact q H2 (s1.trans s2)
    | most b l z =>
      obtain ⟨rfl,rfl,rfl⟩:=fit
      obtain ⟨b1,b2,c1,c2,hz⟩:=okf
      have pl:=(qp hN.2.1 b).2
      have zl:=JZ hz.lo hz.hi
      have lo:(0:Int) <= ((l:Nat):Int):=by omega
      have hi:((l:Nat):Int) <= 10 ^ 9:=by omega
      have ll:=JZ lo hi
      refine ⟨_,rfl,p,_,_,_,rfl,rfl,SqT.of hp,rfl,rfl,_,rfl,iteF ?_⟩
      refine ⟨_,rfl,p,_,_,_,rfl,rfl,SqT.of hp,rfl,(by show 2 <= sizeLine; decide),fun tt htt=>⟨tt,_,rfl,.inr (SqT.of jq),rfl,rfl,_,rfl,iteF ?_⟩⟩
      have s1:=jC htt (.tup [V.str "any",V.str "one"])
      refine ⟨_,rfl,p,_,_,_,rfl,rfl,SqT.of (s1 _ _ hp),rfl,_,rfl,b,nl,ns,rfl,by omega,hN.same s1,hth b rfl b2,fun H2 s2=>?_⟩
      have hp2:=s2 _ _ (s1 _ _ hp)
      refine ⟨_,rfl,p,_,_,_,rfl,rfl,SqT.of hp2,rfl,rfl,_,rfl,iteF ?_⟩
      refine ⟨_,rfl,p,_,_,_,rfl,rfl,SqT.of hp2,rfl,rfl,_,rfl,iteF ?_⟩
      refine ⟨_,rfl,p,_,_,_,rfl,rfl,SqT.of hp2,rfl,_,rfl,qY lo hi,Str.ofString "up to ",Str.ofString (toString ((l:Nat):Int)),rfl,rfl,sz (by omega),?_⟩
      refine ⟨_,Str.ofString " of ",rfl,rfl,sz (by rw [strLen_append]; omega),?_⟩
      refine ⟨_,rfl,_,ql ns b,rfl,rfl,sz (by rw [strLen_append,strLen_append]; omega),_,Str.ofString " for ",rfl,rfl,sz (by rw [strLen_append,strLen_append,strLen_append]; omega),?_⟩
      refine ⟨_,rfl,p,_,_,_,rfl,rfl,SqT.of hp2,rfl,z,rfl,qY hz.lo hz.hi,_,Str.ofString (toString z),rfl,rfl,sz (by rw [strLen_append,strLen_append,strLen_append,strLen_append]; omega),_,Str.ofString " each",rfl,rfl,sz (by rw [strLen_append,strLen_append,strLen_append,strLen_append,strLen_append]; omega),?_⟩
      exact q H2 (s1.trans s2)
  | node any ts =>
    have hok:=za (yD.mp (FT.ok _ hF))
    obtain ⟨l,ps,hp,hA,hl,hPs⟩:=hF
    have few':1 + jR ts <= 100:=few
    have tl:=Ql ts
    have hs':L2.Sub (Jg ts) m:=hs
    have wl:=ji9 any
    have c1:decide (V.str (JR any) = V.str "none") = false:=by cases any <;> decide
    have c2:inV (V.str (JR any)) [V.str "any",V.str "one"] = true:=by cases any <;> decide
    refine ⟨_,rfl,p,_,_,_,rfl,rfl,SqT.of hp,rfl,rfl,_,rfl,?_⟩
    rw [c1]
    refine iteF ?_
    refine ⟨_,rfl,p,_,_,_,rfl,rfl,SqT.of hp,rfl,(by show 2 <= sizeLine; decide),fun tt htt=>⟨tt,_,rfl,.inr (SqT.of jq),rfl,rfl,_,rfl,?_⟩⟩
    rw [if_neg Bool.false_ne_true,c2]
    refine iteT ?_
    have s1:=jC htt (.tup [V.str "any",V.str "one"])
    have hp1:=s1 _ _ hp
    have hl1:=s1 _ _ hl
    generalize upd H tt (.tup [V.str "any",V.str "one"]) = H1 at s1 hp1 hl1 ⊢
    refine ⟨_,rfl,p,_,_,_,rfl,rfl,SqT.of hp1,rfl,JR any,Str.ofString "(",rfl,rfl,sz (by rw [jcw]; omega),?_⟩
    refine ⟨Str.ofString "; ",rfl,_,rfl,p,_,_,_,rfl,rfl,SqT.of hp1,rfl,l,rfl,⟨_,SqL.of hl1⟩,fun l2 h2=>?_⟩
    refine yh (xs:=ps.map V.ref) (fun k H'=>Same H1 H' /\ H' l2 = some (.lst (((ts.take k).map (qM ns)).map V.str))) ⟨jC h2 _,jq⟩ (fun k H' _ z=>SqL.of (z.1 _ _ hl1)) ?_ ?_
    · rintro k v H2 hv ⟨s2,e2⟩ K1 K0 k1 k0
      obtain ⟨b,t,rfl,hb,ht,ib⟩:=hPs.at hv
      have mt:=qD (List.mem_of_getElem? ht)
      have s12:=s1.trans s2
      refine ⟨_,rfl,_,rfl,b,t,A,nl,ns,m,rfl,FT.same s12 ib,by omega,hN.same s12,hm,hmn,hs'.mem t (List.mem_of_getElem? ht),fun H3 s3=>k1 _ _ _ (s3 _ _ e2) ?_ ⟨(s2.trans s3).upd h2 _,?_⟩⟩
      · rw [List.length_map,List.length_map,List.length_take]; exact Ji (by omega)
      · rw [jq,List.take_succ,ht,List.map_append,List.map_append]; rfl
    · rintro H2 ⟨s2,e2⟩
      rw [List.length_map,hPs.1,List.take_length] at e2
      obtain ⟨jo,jl⟩:=jcB hN.2.1 hok (show jR ts <= 100 by omega)
      refine ⟨l2,_,rfl,SqL.of e2,jo,_,_,rfl,rfl,sz (by rw [strLen_append,jcw]; omega),_,Str.ofString ")",rfl,rfl,sz (by rw [strLen_append,strLen_append,jcw]; omega),?_⟩
      have z:=q H2 (s1.trans s2)
      rw [ZJ,<- jhD] at z
      exact z
theorem jjl {f:Addr} {fd:FuncData} (F:Fun K "_law_text" "_law_text" jcg f fd) (jH:mg "_law_text" = some (.ref f)) (Qp:mg "str" = none)
    (jae:jK P w K mg base 1 "_law_place" ["_law_bundle", "_law_names_here"] [] (jdk K)):∀ d,jK P w K mg base (8 + d) "_law_text" ["_law_form_here", "_law_names_here"] [] (spTxt K d):=by
  intro d
  induction d with
  | zero =>
    refine F.jX jH (bnd2 F fun _ _ _ _ _ _ _ _=>rfl) jel (fun vs H Q E h=>?_) (fun cdv A outer s H vs Q E hr h=>?_)
    · obtain ⟨p,t,A,nl,ns,m,rfl,_⟩:=h; rfl
    · obtain ⟨p,t,A,nl,ns,m,rfl,hT,_⟩:=h; exact hT.elim
  | succ d ih=>exact jkR d F jH Qp jae ih
theorem jkN {f:Addr} {fd:FuncData} (F:Fun K "_law_form" "_law_form" jgb f fd) (jH:mg "_law_form" = some (.ref f)) (jQ:mg "range" = none)
    (Jy:jK P w K mg base 1 "_law_cell" ["_law_script", "_law_k"] [] (jaC K))
    (ZK:jK P w K mg base 1 "_law_grouped" ["_law_forms", "_law_cell_here"] [] (jdK K))
    (jfj:jK P w K mg base 2 "_law_leaf" ["_law_cell_here", "_law_other", "_law_last"] [] (jhs K)):jK P w K mg base 3 "_law_form" ["_law_script", "_law_last"] [] (jhq K):=by
  refine F.jX jH (bnd2 F fun _ _ _ _ _ _ _ _=>rfl) jaA (fun vs H Q E h=>?_) (fun cdv A outer s H vs Q E hr h=>?_)
  · obtain ⟨a,sc,m,rfl,_⟩:=h; rfl
  obtain ⟨a,sc,m,rfl,hS,hm6,q⟩:=h
  refine ⟨_,(R.jk (R.jT (i:=2) jaA.nd rfl (Or.inl rfl) (R.jz Jy hr (by first | decide | omega) rfl (R.pa_c (R.pv 0) (R.pa_c R.jj R.ji))))
    (R.jk (R.jT (i:=3) jaA.nd rfl (Or.inl rfl) (R.JK R.ji))
    (R.jk (R.qt PassesOwn.never rfl (R.Jh rfl jQ (R.pa_c (R.jF (opE0 JB) R.jj (R.jF (opE Jm) (R.pv 2) R.jj)) R.ji)) (R.jV (i:=4) jaA.nd rfl (Or.inl rfl)) (R.jr (R.JW (R.qC (R.pv 3) (R.pa_c (R.jz jfj hr (by first | decide | omega) rfl (R.pa_c (R.jz Jy hr (by first | decide | omega) rfl (R.pa_c (R.pv 0) (R.pa_c (R.jF (opE0 JB) R.jj (R.jF qG R.jj (R.pv 4))) R.ji))) (R.pa_c (R.jz Jy hr (by first | decide | omega) rfl (R.pa_c (R.pv 0) (R.pa_c (R.jF (opE0 JB) R.jj (R.jF qG R.jj (R.pv 4))) R.ji))) (R.pa_c (R.pv 1) R.ji)))) R.ji)))))
    (R.jk (R.j8 (R.jP Jv (R.jF Jm (R.jF Qs (R.pv 2) R.jj) R.jj) R.jj (j5 _)) (R.jr (R.jJ (R.jY (R.ixL K) (R.pv 3) R.jj (fun _ _=>rfl)))) R.jM)
    (R.jk (R.jT (i:=3) jaA.nd rfl (Or.inl rfl) (R.jz ZK hr (by first | decide | omega) rfl (R.pa_c (R.jz ZK hr (by first | decide | omega) rfl (R.pa_c (R.pv 3) (R.pa_c (R.jz Jy hr (by first | decide | omega) rfl (R.pa_c (R.pv 0) (R.pa_c R.jj R.ji))) R.ji))) (R.pa_c (R.jz Jy hr (by first | decide | omega) rfl (R.pa_c (R.pv 0) (R.pa_c R.jj R.ji))) R.ji))))
    (R.jr (R.jJ (R.Qo (R.pa_c (R.jY (R.ixL K) (R.JK (R.pa_c R.jG (R.pa_c R.jG R.ji))) (R.jF (opE Jm) (R.jF Qs (R.pv 2) R.jj) R.jj) (fun _ _=>rfl)) (R.pa_c (R.pv 3) R.ji)))))))))),?_⟩
  refine ⟨_,rfl,a,sc,9,rfl,hS,by decide,fun H1 s1=>?_⟩
  have hS1:=s1.seq hS
  generalize yV sc 9 = cw
  refine ⟨(by show 0 <= sizeLine; decide),fun lf hf=>?_⟩
  have hf0:H lf = none:=s1.free hf
  have s2:=s1.trans (jC hf (.lst []))
  obtain ⟨c7,ec7,hc7⟩:=Ym cw 7 (by decide)
  refine ⟨_,rfl,_,_,nv c7,rfl,rfl,(by show (0:Int) < 7; decide),congrArg V.int ec7,_,_,nv (1 + c7),rfl,rfl,rfl,_,rfl,by omega,by omega,?_⟩
  rw [Int.toNat_natCast]
  refine yX (n:=1 + c7) (lo:=0) (fun i σ H'=>Same H H' /\ (∃ (ps:List Addr) (ts:List Tr),H' lf = some (.lst (ps.map V.ref)) /\ All2 (FT (fun x=>x ≠ lf) H' 1) ps ts /\ j7 ts <= 1 /\ jR ts = i /\ ts.length = i /\ L2.Sub (Jg ts) m) /\ ∃ y,σ = [some (.ref a),some (nv (2 ^ m - 1)),some (.int cw),some (.ref lf),y]) ?_ ?_ ?_
  · exact ⟨s2,⟨[],[],jq,All2.nil,Nat.zero_le _,rfl,rfl,by unfold L2.Sub; exact Nat.zero_or _⟩,_,rfl⟩
  · rintro k σ H3 hk ⟨s3,⟨ps,ts,ef,hPs,hd,hy,hl,hsp⟩,y,rfl⟩
    rw [Int.zero_add]
    have hS3:=s3.seq hS
    have pl:ps.length = ts.length:=hPs.1
    refine ⟨_,rfl,.inl ⟨rfl,_,SqL.of ef⟩,_,rfl,_,rfl,_,_,rfl,rfl,JP (by omega),_,_,nv (12 + 2 * k),rfl,rfl,(by show V.int ((12:Int) + 2 * (k:Int)) = V.int ((12 + 2 * k:Nat):Int); congr 1),a,sc,12 + 2 * k,rfl,hS3,by omega,fun H4 s4=>?_⟩
    have hS4:=s4.seq hS3
    refine ⟨_,rfl,_,rfl,_,_,rfl,rfl,JP (by omega),_,_,nv (13 + 2 * k),rfl,rfl,(by show V.int ((13:Int) + 2 * (k:Int)) = V.int ((13 + 2 * k:Nat):Int); congr 1),a,sc,13 + 2 * k,rfl,hS4,by omega,fun H5 s5=>?_⟩
    have s35:=s4.trans s5
    refine ⟨_,rfl,_,_,m,rfl,hm6,fun p H6 t s6 td ty hF hst=>?_⟩
    have s36:=s35.trans s6
    have ef6:=s36 _ _ ef
    refine ⟨lf,_,_,rfl,rfl,ef6,by rw [List.length_map]; exact Ji (by omega),?_⟩
    have nA:¬ (lf ≠ lf):=fun z=>z rfl
    have hF':FT (fun x=>x ≠ lf) H6 1 p t:=hF.imp fun x zs hx e=>by
      intro z
      rw [z] at hx
      have:=s35 _ _ ef
      rw [hx] at this; cases this
    refine ⟨(s3.trans s36).upd hf0 _,⟨ps ++ [p],ts ++ [t],by rw [jq,List.map_append]; rfl,(hPs.imp fun _ _ _ z=>(FT.same s36 z).put ef6 nA).snoc (hF'.put ef6 nA),?_,?_,by rw [List.length_append,hl]; rfl,?_⟩,_,rfl⟩
    · rw [Qi]; show max _ (max (j9 t) 0) <= 1; omega
    · rw [qO]; show jR ts + (jW t + 0) = k + 1; omega
    · rw [jeJ]; exact Sub.or2 hsp hst
  · rintro σ H3 ⟨s3,⟨ps,ts,ef,hPs,hd,hy,hl,hsp⟩,y,rfl⟩
    have hS3:=s3.seq hS
    have pl:ps.length = ts.length:=hPs.1
    refine ⟨_,rfl,_,_,rfl,rfl,⟨by decide,by decide⟩,_,_,rfl,rfl,(by show (0:Int) < 4; decide),rfl,_,rfl,ite2 (fun _=>?_) (fun _=>?_)⟩
    · have hp0:ps[0]? = some (ps[0]'(by omega)):=List.getElem?_eq_getElem _
      have ht0:ts[0]? = some (ts[0]'(by omega)):=List.getElem?_eq_getElem _
      have f0:=hPs.2 0 _ _ hp0 ht0
      have d0:=yW (List.mem_of_getElem? ht0)
      have y0:=qD (List.mem_of_getElem? ht0)
      refine ⟨_,rfl,lf,_,_,_,rfl,rfl,SqL.of ef,jdW (k:=0) (by rw [List.getElem?_map,hp0]; rfl),?_⟩
      exact q _ H3 (ts[0]'(by omega)) s3 (FT.to _ 4 (f0.imp fun _ _ _ _=>trivial) (by omega)) (by omega) (by omega) (hsp.mem _ (List.mem_of_getElem? ht0))
    refine ⟨_,rfl,_,rfl,a,sc,10,rfl,hS3,by decide,fun H4 s4=>?_⟩
    refine ⟨lf,ps,ts,fun x=>x ≠ lf,1,_,rfl,s4 _ _ ef,hPs.imp fun _ _ _ z=>FT.same s4 z,by omega,fun l2 H5 qs us s5 e5 hU du lu tu ⟨x1,hx1⟩=>?_⟩
    have s45:=s4.trans s5
    refine ⟨_,rfl,a,sc,11,rfl,s45.seq hS3,by decide,fun H6 s6=>?_⟩
    refine ⟨l2,qs,us,fun _=>True,2,_,rfl,s6 _ _ e5,hU.imp fun _ _ _ z=>FT.same s6 z,by omega,fun l3 H7 rs ws s7 e7 hV dw lw tw ⟨x2,hx2⟩=>?_⟩
    have s37:=(s45.trans s6).trans s7
    have hsw:L2.Sub (Jg ws) m:=by
      have h1:L2.Sub (Jg us ||| x1) m:=by rw [hx1]; exact hsp
      have h2:L2.Sub (Jg ws ||| x2) m:=by rw [hx2]; exact (L2.Sub.of_or h1).1
      exact (L2.Sub.of_or h2).1
    refine ⟨(by show 2 <= sizeLine; decide),fun lw2 hw=>?_⟩
    have s8:=jC hw (.lst [V.str "any",V.str "one"])
    obtain ⟨w2,ew2,hw2⟩:=Ym (cw / 28) 2 (by decide)
    obtain ⟨any,ea⟩:∃ any,atI [V.str "any",V.str "one"] (w2:Int) = some (.str (JR any)):=by
      rcases (by omega:w2 = 0 ∨ w2 = 1) with e | e <;> subst e
      · exact ⟨true,rfl⟩
      · exact ⟨false,rfl⟩
    refine ⟨_,rfl,_,_,rfl,rfl,⟨by decide,by decide⟩,_,_,nv w2,rfl,rfl,(by show (0:Int) < 2; decide),congrArg V.int ew2,lw2,_,_,_,rfl,rfl,SqL.of jq,ea,_,rfl,(by show 2 <= sizeLine; decide),fun p hp=>?_⟩
    have s9:=jC hp (.tup [V.str (JR any),V.ref l3])
    have s89:=s8.trans s9
    refine q p _ (.node any ws) ((s3.trans s37).trans s89) ⟨l3,rs,jq,trivial,s89 _ _ e7,hV.imp fun _ _ _ z=>FT.same s89 z⟩ ?_ ?_ hsw
    · show 1 + j7 ws <= 4; omega
    · show 1 + jR ws <= 24; omega
end
end My
set_option Elab.async false
set_option linter.all false
set_option maxRecDepth 100000
set_option maxHeartbeats 4000000
namespace My
open PySem PySem.Spec PyProof.Rows L2 GM
noncomputable def kdOf (ks:List (List Nat)):List Nat->Nat->Prop:=fun k b=>k ∈ ks /\ b = Qq ks k ks.length
noncomputable def fits1 (o:Option Str) (w:Str):Bool:=match o with | none=>true | some s=>decide (s = w)
noncomputable def hasF (ws:List Str) (os:List (Option Str)):Bool:=decide (ws.length = os.length) && ((ws.zip os).all fun p=>fits1 p.2 p.1)
noncomputable def oV:Option Str->V | none=>.non | some s=>.str s
theorem jhS {n:List Nat} (h:JH n = true):jbc n:=by
  have l:=jb7 h
  unfold JH at h
  rw [Bool.and_eq_true] at h
  refine ⟨l.1,l.2,fun c hc=>?_⟩
  have:=List.all_eq_true.mp h.2 c hc
  rw [Bool.and_eq_true] at this
  exact ⟨of_decide_eq_true this.1,of_decide_eq_true this.2⟩
noncomputable def jbC (_K:PySem.W.Frag):Sp:=fun vs H Q _=>∃ m:Int,vs = [.str (Str.ofString (toString m))] /\ 0 <= m /\ m < 10 ^ 10 /\ ∀ H',Same H H'->Q (.bl true) H'
noncomputable def jaH (_K:PySem.W.Frag):Sp:=fun vs H Q _=>∃ m:Int,vs = [.str (Str.ofString (toString m))] /\ 0 <= m /\ m < 10 ^ 10 /\ ∀ H',Same H H'->Q (.int m) H'
noncomputable def jez (K:PySem.W.Frag) (ju jh jb jg jc jd je jf:Addr):Addr->Sp->Prop:=fun C sp=>(C = jf /\ sp = Q7 K jf)
noncomputable def jgV (K:PySem.W.Frag) (ju jh jb jg jc jd je jf:Addr):Addr->Sp->Prop:=fun C sp=>(C = jf /\ sp = yQ K jf)
noncomputable def jbD (_K:PySem.W.Frag) (ju jh jb jg jc jd je jf:Addr):Sp:=fun vs H Q _=>∃ (pl:List Nat) (a:Addr) (ns ks:List (List Nat)) (b:Nat),vs = [.str (tx pl),.ref a] /\ JF jf H a ns ks /\ jaR ns (kdOf ks) b pl /\ ∀ H',Same H H'->Q (nv b) H'
noncomputable def jcR (K:PySem.W.Frag):Sp:=fun vs H Q _=>∃ (wl fl:Addr) (ws:List Str) (os:List (Option Str)),vs = [.ref wl,.ref fl] /\ SqL K H wl (ws.map V.str) /\ SqL K H fl (os.map oV) /\ ws.length <= 20 /\ ∀ H',Same H H'->Q (.bl (hasF ws os)) H'
noncomputable def yw (K:PySem.W.Frag) (ju jh jb jg jc jd je jf:Addr):Sp:=fun vs H Q _=>∃ (wl a:Addr) (ns ks ws:List (List Nat)) (f:Form),vs = [.ref wl,.ref a] /\ SqL K H wl ((ws.map tx).map V.str) /\ JF jf H a ns ks /\ qP f /\ je7 ns (kdOf ks) f ws /\ ∀ x H',Same H H'->IsBid ju jh jb jg H' x f->Q (.ref x) H'
noncomputable def jco (_K:PySem.W.Frag):Sp:=fun vs H Q _=>∃ xs:List (List Nat),vs = [.str (tx (j0 [59,32] xs))] /\ xs ≠ [] /\ (∀ x ∈ xs,Piece x) /\ (∀ c ∈ j0 [59,32] xs,c < 128) /\ (j0 [59,32] xs).length <= 2000 /\ ∀ l H',Same H H'->H l = none->H' l = some (.lst ((xs.map tx).map V.str))->Q (.ref l) H'
noncomputable def spBids (_K:PySem.W.Frag) (ju jh jb jg jc jd je jf:Addr) (d:Nat):Sp:=fun vs H Q _=>∃ (xs:List (List Nat)) (a:Addr) (ns ks:List (List Nat)) (lv:Nat) (ts:List Tr),vs = [.str (tx (j0 [59,32] xs)),.ref a,nv lv] /\ JF jf H a ns ks /\ All2 (fun y t=>Yk ns (kdOf ks) d t y) xs ts /\ lv + d <= 5 /\ j7 ts <= 3 /\ jR ts <= 23 /\ (j0 [59,32] xs).length <= 2000 /\
  ∀ l H' (bs:List Addr),Same H H'->H l = none->H' l = some (.lst (bs.map V.ref))->All2 (IsTr ju jh jb jg jd je (fun x=>H x = none /\ x ≠ l) H' d) bs ts->Q (.ref l) H'
noncomputable def spBid (_K:PySem.W.Frag) (ju jh jb jg jc jd je jf:Addr) (d:Nat):Sp:=fun vs H Q _=>∃ (x:List Nat) (a:Addr) (ns ks:List (List Nat)) (lv:Nat) (t:Tr),vs = [.str (tx x),.ref a,nv lv] /\ JF jf H a ns ks /\ Yk ns (kdOf ks) d t x /\ lv + d <= 5 /\ j9 t <= 4 /\ jW t <= 24 /\ x.length <= 2000 /\ ∀ b H',Same H H'->IsTr ju jh jb jg jd je (fun l=>H l = none) H' d b t->Q (.ref b) H'
noncomputable def jgT (K:PySem.W.Frag) (ju jh jb jg jc jd je jf:Addr):Sp:=spBid K ju jh jb jg jc jd je jf 4
noncomputable def jcU (_K:PySem.W.Frag) (ju jh jb jg jc jd je jf:Addr):Sp:=fun vs H Q _=>∃ (x:List Nat) (a:Addr) (ns ks:List (List Nat)) (t:Tr),vs = [.str (tx x),.ref a] /\ JF jf H a ns ks /\ Yk ns (kdOf ks) 4 t x /\ j9 t <= 4 /\ jW t <= 24 /\ ∀ b H',Same H H'->IsTr ju jh jb jg jd je (fun l=>H l = none) H' 4 b t->Q (.ref b) H'
theorem jkh (c k:Nat):decide (V.str (tx [c]) = V.str (tx [k])) = decide (c = k):=by
  by_cases h:c = k
  · rw [h,decide_eq_true rfl,decide_eq_true rfl]
  · rw [decide_eq_false h,decide_eq_false]
    intro z
    exact h (List.cons.inj (jgE (V.str.inj z))).1
theorem ZZ {H:Hp} {a c:Addr} {ns ks:List (List Nat)} (h:JF c H a ns ks):∀ n ∈ ns,jbc n:=by
  obtain ⟨dx,d1,d2,kk,e1,e2,e3,e4,e5,g6,gok,gnd,gko⟩:=h
  exact fun n hn=>jhS (gok n hn)
theorem cut_any (l:List Nat) (b i:Nat) (h:i <= l.length):cutL l (some (b:Int)) (some (i:Int)) = (l.drop b).take (i - b):=by
  unfold cutL
  rw [L2.Yo,L2.Yo,Nat.min_eq_left h]
  by_cases hb:b <= l.length
  · rw [Nat.min_eq_left hb]
  · rw [Nat.min_eq_right (by omega),show i - b = 0 by omega,show i - l.length = 0 by omega]; simp
theorem jf6 (l:List Nat):∀ i,(prun l i).1.length <= i /\ (prun l i).2.1 <= i + 1
  | 0=>⟨Nat.le_refl 0,by show (0:Nat) <= 1; omega⟩
  | i + 1=>by
    obtain ⟨a,b⟩:=jf6 l i
    show (Yn l i (l.getD i 0) (prun l i)).1.length <= i + 1 /\ _
    show _ /\ (Yn l i (l.getD i 0) (prun l i)).2.1 <= i + 2
    unfold Yn
    split
    · exact ⟨by show (prun l i).1.length <= _; omega,by show (prun l i).2.1 <= _; omega⟩
    split
    · exact ⟨by show (prun l i).1.length <= _; omega,by show (prun l i).2.1 <= _; omega⟩
    split
    · exact ⟨by rw [List.length_append]; show (prun l i).1.length + 1 <= _; omega,Nat.le_refl _⟩
    · exact ⟨by omega,by omega⟩
theorem text_ne {ns:List (List Nat)} {kd:List Nat->Nat->Prop} (hn:∀ n ∈ ns,jbc n) {d:Nat} {t:Tr} {x:List Nat} (h:Yk ns kd d t x):1 <= x.length:=by
  cases d with
  | zero=>exact h.elim
  | succ d =>
    cases t with
    | node any ts =>
      obtain ⟨xs,_,rfl⟩:=h
      rw [List.length_append,List.length_append,jct]; omega
    | leaf f =>
      obtain ⟨ok,ws,hw,rfl⟩:=h
      cases f with
      | none =>
        have hw:ws = [jaL]:=hw
        subst hw; decide
      | only b m=>obtain ⟨pl,hp,rfl⟩:=hw; simp [j0] <;> omega
      | some k l m=>obtain ⟨pl,hp,rfl⟩:=hw; simp [j0] <;> omega
      | most k l m=>obtain ⟨pl,hp,rfl⟩:=hw; simp [j0] <;> omega
section
variable {P:Program} {w:World} {K:PySem.W.Frag} {mg:Str->Option Value} {base:Heap}
variable {ju jh jb jg jc jd je jf:Addr}
theorem jeS {f:Addr} {fd:FuncData} (F:Fun K "is_figures" "is_figures" YB f fd) (jH:mg "is_figures" = some (.ref f)) (jdv:mg "all" = none) (Je:mg "len" = none):jK P w K mg base 1 "is_figures" ["word"] [] (jbC K):=by
  refine F.jX jH (bnd1 F fun _ _ _ _ _ _ _=>rfl) je0 (fun vs H Q E h=>?_) (fun cdv A outer s H vs Q E hr h=>?_)
  · obtain ⟨m,rfl,_⟩:=h; rfl
  obtain ⟨m,rfl,h0,h1,q⟩:=h
  obtain ⟨f1,f2,f3,f4⟩:=jdw h0 h1
  rw [QV]
  refine ⟨_,(R.jk (R.j8 (R.pt (R.jcc (R.qy (R.jdG jhl jhl R.jj (R.Jz zQ rfl Je PySem.boot_len (R.pa_c (R.pv 0) R.ji)) R.jj)) (R.Z8 (R.qy (R.JD (R.Jz (jdX rfl) rfl jdv (boot_all) (R.pa_c (R.Jj (jw YB) ["word"] ["sign"] [] [] rfl rfl rfl ⟨s.heap.objs.size + 1,rfl⟩ rfl rfl (by decide +kernel) (R.jh3 (R.pv 0)) (fun C s2 H2 fp=>(R.jV (i:=0) (show List.Nodup (["sign"]:List Str) from by decide +kernel) rfl (Or.inl rfl))) (fun C s2 H2 fp=>R.JM) (fun C s2 H2 fp=>(R.jb8 jcv jcv R.jG (R.pv 0) R.jG))) R.ji))))))) (R.jr (R.jJ R.jcN)) R.jM)
    (R.jr (R.jJ (R.pe_or (R.zb Jv (R.Jz zQ rfl Je PySem.boot_len (R.pa_c (R.pv 0) R.ji)) R.jj (j5 _)) (R.jb9 (R.jf3 (R.z8 (R.pv 0) R.jG))))))),?_⟩
  have e0:((tx (numL m)).length:Int) = ((numL m).length:Int):=by rw [Jk]
  refine ⟨_,rfl,tx (numL m),rfl,jjt (by omega),1,_,rfl,rfl,_,rfl,?_⟩
  rw [decide_eq_true (show (1:Int) <= ((tx (numL m)).length:Int) by omega)]
  refine iteT ⟨_,_,rfl,rfl,_,rfl,?_⟩
  rw [decide_eq_true (show ((tx (numL m)).length:Int) <= 10 by omega)]
  refine iteF ?_
  refine ⟨_,rfl,numL m,rfl,List.all_eq_true.mpr fun c hc=>decide_eq_true (by have:=f3 c hc; omega),fun p hp=>?_⟩
  refine jdq (numL m) (fun _=>true) (fun _=>.bl true) (by omega) hp (fun x hx H2 s2 C k=>k H2 (Same.refl _)) (fun x hx _ H2 s2 C k=>?_) (fun H2 s2 e2=>?_)
  · have ea:(Str.ofString "0").cps.toList = [48]:=by decide
    have ez:(Str.ofString "9").cps.toList = [57]:=by decide
    have r:=f3 x hx
    refine ⟨_,rfl,_,_,rfl,rfl,_,rfl,?_⟩
    rw [Qa,ea,jhY,decide_eq_false (by omega)]
    refine iteT ⟨_,_,rfl,rfl,?_⟩
    rw [Qa,ez,jhY,decide_eq_false (by omega)]
    exact k H2 (Same.refl _)
  · have e3:H2 p = some (.lst (((numL m).map fun _=>true).map V.bl)):=by
      rw [e2,List.filter_eq_self.mpr (fun _ _=>rfl),List.map_map]; rfl
    refine ⟨p,_,rfl,SqL.of e3,?_⟩
    have ea:((numL m).map fun _=>true).all id = true:=by rw [List.all_map]; exact List.all_eq_true.mpr fun _ _=>rfl
    rw [ea]
    refine ⟨_,rfl,iteF ?_⟩
    refine ⟨_,rfl,tx (numL m),rfl,jjt (by omega),rfl,_,rfl,ite2 (fun _=>q H2 s2) (fun c=>?_)⟩
    have c1:¬ (numL m).length = 1:=fun z=>c (decide_eq_true (by rw [e0,z]; rfl))
    refine ⟨_,rfl,_,rfl,_,rfl,?_⟩
    have es:Txt.startswith (tx (numL m)) (Str.ofString "0") = false:=by
      rw [show Str.ofString "0" = tx [48] from rfl,z9]
      exact beq_eq_false_iff_ne.mpr (f4.resolve_left c1)
    rw [es]
    exact ⟨_,rfl,q H2 s2⟩
theorem jeb {f:Addr} {fd:FuncData} (F:Fun K "number_told" "number_told" zK f fd) (jH:mg "number_told" = some (.ref f)) (jat:mg "int" = none)
    (Zf:jK P w K mg base 1 "is_figures" ["word"] [] (jbC K)):jK P w K mg base 2 "number_told" ["word"] [] (jaH K):=by
  refine F.jX jH (bnd1 F fun _ _ _ _ _ _ _=>rfl) jer (fun vs H Q E h=>?_) (fun cdv A outer s H vs Q E hr h=>?_)
  · obtain ⟨m,rfl,_⟩:=h; rfl
  obtain ⟨m,rfl,h0,h1,q⟩:=h
  refine ⟨_,(R.jk (R.j8 (R.qy (R.JD (R.jz Zf hr (by first | decide | omega) rfl (R.pa_c (R.pv 0) R.ji)))) (R.jr R.JC) R.jM)
    (R.jr (R.jJ (R.Qn jhJ rfl jat (boot_int) (R.pa_c (R.pv 0) R.ji))))),?_⟩
  refine ⟨_,rfl,m,rfl,h0,h1,fun H1 s1=>⟨_,rfl,iteF ?_⟩⟩
  exact ⟨_,rfl,m,rfl,h0,h1,q H1 s1⟩
theorem jeT {f:Addr} {fd:FuncData} (F:Fun K "place_told" "place_told" YC f fd) (jH:mg "place_told" = some (.ref f))
    (Z2:jK P w K mg base 3 "bundle_of" ["numbers"] [] (jcn K))
    (jN:Own K mg "Bid" ju [])
    (jE:Own K mg "Only" jh ["bundle", "amount"])
    (jt:Own K mg "SoMany" jb ["kind", "least", "amount"])
    (jD:Own K mg "UpTo" jg ["kind", "most", "each"])
    (jx:Own K mg "Several" jc ["bids"])
    (jA:Own K mg "AnyOf" jd ["bids"])
    (jB:Own K mg "OneOf" je ["bids"])
    (jy:Own K mg "Stock" jf ["numbers", "kinds"])
    (jc1:∀ C sp,jgV K ju jh jb jg jc jd je jf C sp->∃ ps,J3 P w K mg base 2 C "kind_of" ps sp)
    (jaV:∀ C sp,jez K ju jh jb jg jc jd je jf C sp->∃ ps,J3 P w K mg base 2 C "number_of" ps sp):jK P w K mg base 4 "place_told" ["place", "stock"] [] (jbD K ju jh jb jg jc jd je jf):=by
  refine F.jX jH (bnd2 F fun _ _ _ _ _ _ _ _=>rfl) je2 (fun vs H Q E h=>?_) (fun cdv A outer s H vs Q E hr h=>?_)
  · obtain ⟨pl,a,ns,ks,b,rfl,_⟩:=h; rfl
  obtain ⟨pl,a,ns,ks,b,rfl,hSt,hp,q⟩:=h
  have hn:=ZZ hSt
  have hlen:=(Zw hn hp).2.2
  refine ⟨_,(R.jk (R.j8 (R.JD (R.z8 (R.pv 0) R.jG)) (R.jr (R.jJ (R.Qe (R.pv 1) jc1 hr (by first | decide | omega) (R.pa_c (R.qU jck (R.pv 0) (R.qw R.jj) R.ZS) R.ji)))) R.jM)
    (R.jr (R.jJ (R.jz Z2 hr (by first | decide | omega) rfl (R.pa_c (R.Jj (jw YC) ["place", "stock"] ["name"] ["stock"] [1] rfl rfl rfl ⟨s.heap.objs.size + 1,rfl⟩ rfl rfl (by decide +kernel) (R.JL (R.jdE (R.pv 0) R.jG)) (fun C s2 H2 fp=>(R.jV (i:=0) (show List.Nodup (["name", "stock"]:List Str) from by decide +kernel) rfl (Or.inl rfl))) (fun C s2 H2 fp=>R.JM) (fun C s2 H2 fp=>(R.Qe (R.pv 1) jaV hr (by first | decide | omega) (R.pa_c (R.pv 0) R.ji)))) R.ji))))),?_⟩
  have hG:=hSt
  obtain ⟨dx,d1,d2,kk,e1,e2,e3,e4,e5,g6,gok,gnd,gko⟩:=hG
  rcases hp with ⟨js,h0,h6,hj,ho,rfl,rfl⟩ | ⟨k,⟨hk,rfl⟩,hK,rfl⟩
  · refine ⟨_,rfl,_,rfl,_,rfl,_,rfl,?_⟩
    rw [show Str.ofString "=" = tx [61] from rfl,jif hn h0 hj]
    refine iteF ?_
    refine ⟨_,rfl,_,rfl,by rw [Jk]; omega,_,rfl,rfl,fun l hl=>⟨l,rfl,⟨_,SqL.of jq⟩,fun l2 h2=>?_⟩⟩
    rw [jfN,jiU hn h0 hj] at *
    have s1:=jC hl (.lst (((js.map fun j=>ns.getD j []).map tx).map V.str))
    have el:upd H l (.lst (((js.map fun j=>ns.getD j []).map tx).map V.str)) l = some (.lst (((js.map fun j=>ns.getD j []).map tx).map V.str)):=jq
    generalize upd H l (.lst (((js.map fun j=>ns.getD j []).map tx).map V.str)) = H1 at s1 el h2 ⊢
    refine yh (xs:=((js.map fun j=>ns.getD j []).map tx).map V.str) (fun k H'=>Same H1 H' /\ H' l2 = some (.lst ((js.take k).map nv))) ⟨jC h2 _,jq⟩ (fun k H' _ z=>SqL.of (z.1 _ _ el)) ?_ ?_
    · rintro k v H2 hv ⟨s2,e2'⟩ K1 K0 k1 k0
      rw [List.map_map,List.map_map,List.getElem?_map] at hv
      obtain ⟨j,hjk,rfl⟩:=Option.map_eq_some_iff.mp hv
      have hjm:=hj j (List.mem_of_getElem? hjk)
      have s12:=s1.trans s2
      refine ⟨_,rfl,a,jf,dx,_,Q7 K jf,rfl,s12 _ _ e1,rfl,⟨rfl,rfl⟩,_,rfl,a,ns,ks,ns.getD j [],j,rfl,JF.same s12 hSt,?_,fun H3 s3=>k1 _ _ _ (s3 _ _ e2') ?_ ⟨(s2.trans s3).upd h2 _,?_⟩⟩
      · rw [List.getD_eq_getElem?_getD,List.getElem?_eq_getElem hjm]; rfl
      · rw [List.length_map,List.length_take]; exact Ji (by omega)
      · rw [jq,List.take_succ,hjk,List.map_append]; rfl
    · rintro H2 ⟨s2,e2'⟩
      rw [List.length_map,List.length_map,List.length_map,List.take_length] at e2'
      exact ⟨l2,js,rfl,SqL.of e2',ho,q H2 (s1.trans s2)⟩
  · refine ⟨_,rfl,_,rfl,_,rfl,_,rfl,?_⟩
    have es:Txt.startswith (tx (61 :: k)) (Str.ofString "=") = true:=by
      rw [show Str.ofString "=" = tx [61] from rfl,z9]; rfl
    rw [es]
    refine iteT ?_
    refine ⟨_,rfl,a,jf,dx,_,yQ K jf,rfl,e1,rfl,⟨rfl,rfl⟩,_,rfl,_,rfl,_,rfl,by rw [sizeLine_eq]; omega,a,ns,ks,k,?_,hSt,hk,q⟩
    rw [show cutL (61 :: k) (some 1) none = k from jit (61 :: k) 1 (by simp)]
theorem jgJ {f:Addr} {fd:FuncData} (F:Fun K "has_form" "has_form" zV f fd) (jH:mg "has_form" = some (.ref f)) (jdv:mg "all" = none) (Je:mg "len" = none) (jbm:mg "zip" = none):jK P w K mg base 1 "has_form" ["words", "form"] [] (jcR K):=by
  refine F.jX jH (bnd2 F fun _ _ _ _ _ _ _ _=>rfl) jgO (fun vs H Q E h=>?_) (fun cdv A outer s H vs Q E hr h=>?_)
  · obtain ⟨wl,fl,ws,os,rfl,_⟩:=h; rfl
  obtain ⟨wl,fl,ws,os,rfl,hw,hf,few,q⟩:=h
  refine ⟨_,(R.jk (R.j8 (R.jP op_ne (R.Jz Ja rfl Je PySem.boot_len (R.pa_c (R.pv 0) R.ji)) (R.Jz Ja rfl Je PySem.boot_len (R.pa_c (R.pv 1) R.ji)) (j5 _)) (R.jr (R.jJ R.jcN)) R.jM)
    (R.jr (R.jJ (R.Jz (jdX rfl) rfl jdv (boot_all) (R.pa_c (R.Jj (jw zV) ["words", "form"] ["word", "fixed"] [] [] rfl rfl rfl ⟨s.heap.objs.size + 1,rfl⟩ rfl rfl (by decide +kernel) (R.jeh rfl jbm (R.pa_c (R.pv 0) (R.pa_c (R.pv 1) R.ji))) (fun C s2 H2 fp=>(R.Z7 K 2 rfl (R.JQ (R.jV (i:=0) (show List.Nodup (["word", "fixed"]:List Str) from by decide +kernel) rfl (Or.inl rfl)) (R.JQ (R.jV (i:=1) (show List.Nodup (["word", "fixed"]:List Str) from by decide +kernel) rfl (Or.inl rfl)) R.zc)))) (fun C s2 H2 fp=>R.JM) (fun C s2 H2 fp=>(R.pe_or (R.zb op_isN (R.pv 1) R.Zv (j5 _)) (R.jb9 (R.zb Jv (R.pv 1) (R.pv 0) (j5 _)))))) R.ji))))),?_⟩
  refine ⟨_,rfl,wl,_,rfl,.inl hw,_,rfl,fl,_,rfl,.inl hf,rfl,_,rfl,?_⟩
  rw [List.length_map,List.length_map]
  by_cases hl:ws.length = os.length
  · rw [hl,decide_eq_true rfl]
    refine iteF ?_
    refine ⟨_,rfl,_,rfl,wl,fl,rfl,⟨_,hw⟩,⟨_,hf⟩,fun l h2=>?_⟩
    refine jdZ (xs:=ws.map V.str) (ys:=os.map oV) (by rw [List.length_map,List.length_map,hl]) (fun k H'=>Same H H' /\ H' l = some (.lst ((((ws.zip os).take k).map fun p=>fits1 p.2 p.1).map V.bl))) ⟨jC h2 _,jq⟩ (fun k H' _ ⟨s,_⟩=>⟨s.seq hw,s.seq hf⟩) ?_ ?_
    · rintro k v u p H1 hv hu ⟨s1,e1⟩ hp K1 K0 k1 k0
      rw [List.getElem?_map] at hv hu
      obtain ⟨x,hx,rfl⟩:=Option.map_eq_some_iff.mp hv
      obtain ⟨y,hy,rfl⟩:=Option.map_eq_some_iff.mp hu
      have hz:(ws.zip os)[k]? = some (x,y):=by rw [List.getElem?_zip_eq_some]; exact ⟨hx,hy⟩
      have s2:=jC hp (.tup [V.str x,oV y])
      have fin:∀ b,b = fits1 y x->K1 (V.bl b) (upd H1 p (.tup [V.str x,oV y])):=fun b e=>k1 _ _ _ (s2 _ _ e1) (by rw [List.length_map,List.length_map,List.length_take]; exact Ji (by rw [List.length_zip]; omega)) ⟨(s1.trans s2).upd h2 _,by rw [jq,List.take_succ,hz,List.map_append,List.map_append,e]; rfl⟩
      cases y with
      | none=>exact ⟨_,rfl,rfl,_,rfl,iteT (fin true rfl)⟩
      | some y=>exact ⟨_,rfl,rfl,_,rfl,iteF ⟨_,rfl,_,rfl,rfl,fin _ (by show decide (V.str y = V.str x) = decide (y = x); by_cases z:y = x <;> simp [z])⟩⟩
    · rintro H1 ⟨s1,e1⟩
      rw [List.take_of_length_le (by rw [List.length_map,List.length_zip]; omega)] at e1
      refine ⟨l,_,rfl,SqL.of e1,?_⟩
      have z:=q H1 s1
      unfold hasF at z
      rw [decide_eq_true hl,Bool.true_and] at z
      rw [List.all_map]
      exact z
  · rw [decide_eq_false (show ¬ V.int ((ws.length:Nat):Int) = V.int ((os.length:Nat):Int) from fun z=>hl (by have:=V.int.inj z; omega))]
    refine iteT ?_
    have z:=q H (Same.refl H)
    unfold hasF at z
    rw [decide_eq_false hl,Bool.false_and] at z
    exact z
end
end My
set_option Elab.async false
set_option linter.all false
set_option maxRecDepth 100000
set_option maxHeartbeats 4000000
namespace My
open PySem PySem.Spec PyProof.Rows L2 GM
theorem jfQ (ks:List (List Nat)) (k:List Nat):∀ n,((((List.range n).filter fun i=>decide (ks[i]? = some k)).map fun i=>((2 ^ i:Nat):Int))).sum = ((Qq ks k n:Nat):Int)
  | 0=>rfl
  | n + 1=>by
    rw [List.range_succ,List.filter_append,List.map_append,List.sum_append,jfQ ks k n,jhh]
    by_cases h:ks[n]? = some k
    · rw [if_pos h,List.filter_cons_of_pos (by simpa using h)]
      simp
    · rw [if_neg h,List.filter_cons_of_neg (by simpa using h)]
      simp
theorem cutN (xs:List V) (m:Nat):cutV xs none (some (m:Int)) = xs.take m:=by
  unfold cutV
  rw [HT.Yo,HT.jiW,List.drop_zero,Nat.sub_zero]
  by_cases h:m <= xs.length
  · rw [Nat.min_eq_left h]
  · rw [Nat.min_eq_right (by omega),List.take_length,List.take_of_length_le (by omega)]
theorem seq_join {c:TT} {t u:TS} {D:Ends} {σ:L2.St} {H:Hp} (M:L2.St->Hp->Prop) (h:(∀ σ' H',M σ' H'->u D σ' H')->tIfS c t tNext { D with nx:=u D } σ H) (h2:∀ σ' H',M σ' H'->u D σ' H'):tSeq (tIfS c t tNext) u D σ H:=h h2
theorem cutF (xs:List V) (m:Nat) (h:m <= xs.length):cutV xs (some (m:Int)) none = xs.drop m:=by
  unfold cutV
  rw [HT.Yo,Nat.min_eq_left h]
  show (xs.drop m).take (xs.length - m) = _
  rw [List.take_of_length_le (by rw [List.length_drop]; exact Nat.le_refl _)]
theorem rot_ok:∀ b < 64,∀ k < 6,(once 0 ((things b).drop k ++ (things b).take k) = true /\ bun 0 ((things b).drop k ++ (things b).take k) = b) /\ once 0 ((things b).drop k ++ (things b).take k).reverse = true /\ bun 0 ((things b).drop k ++ (things b).take k).reverse = b:=by decide +kernel
theorem jiI {ks:List (List Nat)} {k:List Nat}:∀ {n:Nat} {j:Nat},j < n->ks[j]? = some k->1 <= Qq ks k n
  | 0,j,h,_=>by omega
  | n + 1,j,h,e=>by
    rw [jhh]
    by_cases hn:j = n
    · subst hn; rw [if_pos e]; have:=Nat.two_pow_pos j; omega
    · have:=jiI (n:=n) (show j < n by omega) e
      split
      · exact Nat.le_trans this (Nat.le_add_right _ _)
      · exact this
noncomputable def NK (H:Hp) (nl kl:Addr) (ns ks:List (List Nat)):Prop:=H nl = some (.lst (ns.map sv)) /\ H kl = some (.lst (ks.map sv)) /\ ks.length = ns.length /\ Good ns ks
theorem NK.same {H H':Hp} {nl kl:Addr} {ns ks:List (List Nat)} (h:NK H nl kl ns ks) (S:Same H H'):NK H' nl kl ns ks:=⟨S _ _ h.1,S _ _ h.2.1,h.2.2⟩
noncomputable def zM (_K:PySem.W.Frag):Sp:=fun vs H Q _=>∃ (b:Nat) (nl kl:Addr) (ns ks:List (List Nat)) (c:Int),vs = [nv b,.ref nl,.ref kl,.int c] /\ 1 <= b /\ b <= 63 /\ NK H nl kl ns ks /\ L2.Sub b ns.length /\ ∀ pl H',Same H H'->jaR ns (kdOf ks) b pl->Q (.str (tx pl)) H'
noncomputable def jff (_K:PySem.W.Frag) (d:Nat):Sp:=fun vs H Q _=>∃ (p kl:Addr) (t:Tr) (A:Addr->Prop) (ks:List (List Nat)) (c:Int),vs = [.ref p,.ref kl,.int c] /\ FT A H d p t /\ H kl = some (.lst (ks.map sv)) /\ ks.length <= 6 /\ L2.Sub (Jb t) ks.length /\ jW t <= 24 /\ ∀ p' H' u,Same H H'->FT (fun x=>H x = none) H' d p' u->j9 u = j9 t->jW u = jW t->L2.Sub (Jb u) ks.length->Q (.ref p') H'
noncomputable def jgS (K:PySem.W.Frag):Sp:=jff K 4
noncomputable def setB:Form->Nat->Form
  | .none,_=>.none
  | .only _ m,b=>.only b m
  | .some _ l m,b=>.some b l m
  | .most _ l m,b=>.most b l m
theorem sv_eq (a b:List Nat):decide (sv a = sv b) = decide (a = b):=by
  by_cases h:a = b
  · rw [decide_eq_true h,decide_eq_true (by rw [h])]
  · rw [decide_eq_false h,decide_eq_false fun z=>h (jgE (V.str.inj z))]
section
variable {P:Program} {w:World} {K:PySem.W.Frag} {mg:Str->Option Value} {base:Heap}
theorem jeO {f:Addr} {fd:FuncData} (F:Fun K "_law_free_place" "_law_free_place" QX f fd) (jH:mg "_law_free_place" = some (.ref f)) (QR:mg "sum" = none) (Je:mg "len" = none) (Qm:mg "list" = none) (jQ:mg "range" = none) (YQ:mg "reversed" = none):jK P w K mg base 1 "_law_free_place" ["_law_bundle", "_law_names_here", "_law_kinds_here", "_law_cell_here"] [] (zM K):=by
  refine F.jX jH (bnd4 F fun _ _ _ _ _ _ _ _ _ _=>rfl) J1 (fun vs H Q E h=>?_) (fun cdv A outer s H vs Q E hr h=>?_)
  · obtain ⟨b,nl,kl,ns,ks,c,rfl,_⟩:=h; rfl
  obtain ⟨b,nl,kl,ns,ks,c,rfl,b1,b2,hNK,hs,q⟩:=h
  refine ⟨_,(R.jk (R.qt PassesOwn.never rfl (R.JL (R.pv 2)) (R.jV (i:=4) J1.nd rfl (Or.inr rfl)) (R.jk (R.jT (i:=5) J1.nd rfl (Or.inl rfl) (R.Jz (jai rfl) rfl QR (boot_sum) (R.pa_c (R.Jj (jw QX) ["_law_bundle", "_law_names_here", "_law_kinds_here", "_law_cell_here", "_law_kind", "_law_same", "_law_row", "_law_at"] ["_law_k"] ["_law_kinds_here", "_law_kind"] [2,4] rfl rfl rfl ⟨s.heap.objs.size + 1,rfl⟩ rfl rfl (by decide +kernel) (R.Jh rfl jQ (R.pa_c (R.Jz Ja rfl Je PySem.boot_len (R.pa_c (R.pv 2) R.ji)) R.ji)) (fun C s2 H2 fp=>(R.jV (i:=0) (show List.Nodup (["_law_k", "_law_kinds_here", "_law_kind"]:List Str) from by decide +kernel) rfl (Or.inl rfl))) (fun C s2 H2 fp=>(R.jc9 (R.jP Jv (R.jY (R.ixL K) (R.pv 1) (R.pv 0) (fun _ _=>rfl)) (R.pv 2) (j5 _)))) (fun C s2 H2 fp=>(R.jF Qt R.jj (R.pv 0)))) R.ji)))
      (R.jr (R.j8 (R.pt (R.jcb (R.jP Jv (R.jF Jm (R.pv 3) R.jj) R.jj (j5 _)) (R.ZV (R.jP Jv (R.pv 5) (R.pv 0) (j5 _))))) (R.jr (R.jJ (R.jF j4 R.jG (R.pv 4)))) R.jM))))
    (R.jk (R.jdF (i:=6) (jw QX) ["_law_bundle", "_law_names_here", "_law_kinds_here", "_law_cell_here", "_law_kind", "_law_same", "_law_row", "_law_at"] ["_law_k"] ["_law_bundle", "_law_names_here"] [0,1] J1.nd rfl (Or.inl rfl) rfl rfl rfl rfl rfl ⟨s.heap.objs.size + 1,rfl⟩ rfl rfl (by decide +kernel) (R.Jh rfl jQ (R.pa_c R.jj R.ji)) (fun C s2 H2 fp=>(R.jV (i:=0) (show List.Nodup (["_law_k", "_law_bundle", "_law_names_here"]:List Str) from by decide +kernel) rfl (Or.inl rfl))) (fun C s2 H2 fp=>(R.jc9 (R.jP Jv (R.jF jaZ (R.jF jke (R.pv 1) (R.pv 0)) R.jj) R.jj (j5 _)))) (fun C s2 H2 fp=>(R.jY (R.ixL K) (R.pv 2) (R.pv 0) (fun _ _=>rfl))))
    (R.jk (R.jT (i:=7) J1.nd rfl (Or.inl rfl) (R.jF (opE Jm) (R.jF Qs (R.pv 3) R.jj) (R.Jz Ja rfl Je PySem.boot_len (R.pa_c (R.pv 6) R.ji))))
    (R.jk (R.jT (i:=6) J1.nd rfl (Or.inl rfl) (R.jF jjF (R.qU jh9 (R.pv 6) (R.qw (R.pv 7)) R.ZS) (R.qU jh9 (R.pv 6) R.ZS (R.qw (R.pv 7)))))
    (R.jk (R.j8 (R.jP Jv (R.jF Jm (R.jF Qs (R.pv 3) R.jj) R.jj) R.jj (j5 _)) (R.jr (R.jT (i:=6) J1.nd rfl (Or.inl rfl) (R.ja2 rfl rfl Qm rfl YQ (R.pv 6)))) R.jM)
    (R.jr (R.jJ (R.ZR K R.jG (R.pv 6))))))))),?_⟩
  obtain ⟨hnl,hkl,hlen,g6,gok,gnd,gko⟩:=id hNK
  have hk6:ks.length <= 6:=by omega
  have hth:=Z0 ns.length (by omega) b (by omega) hs
  refine ⟨_,rfl,kl,rfl,⟨_,SqL.of hkl⟩,?_⟩
  refine yC (xs:=ks.map sv) (fun i σ H2=>(∃ x y,σ = [some (nv b),some (.ref nl),some (.ref kl),some (.int c),x,y,none,none]) /\ Same H H2) ⟨⟨_,_,rfl⟩,Same.refl _⟩ (fun i σ H2 _ hP=>SqL.of (hP.2 _ _ hkl)) (fun i v σ H2 hv hP=>?_) (fun σ H2 hP=>?_)
  · obtain ⟨⟨x,y,rfl⟩,s2⟩:=hP
    rw [List.getElem?_map] at hv
    obtain ⟨k,hk,rfl⟩:=Option.map_eq_some_iff.mp hv
    have hkm:=List.mem_of_getElem? hk
    have en:(((ks.map sv).length:Nat):Int).toNat = ks.length:=by rw [List.length_map]; simp
    refine ⟨_,rfl,kl,_,rfl,.inl (SqL.of (s2 _ _ hkl)),_,rfl,by rw [List.length_map]; omega,by rw [List.length_map]; omega,fun p hp=>?_⟩
    rw [en]
    refine Jl (fun i=>decide (ks[i]? = some k)) (fun i=>.int ((2 ^ i:Nat):Int)) (by omega) hp (fun j H5 hj s5 C kk=>?_) (fun j H5 hj _ s5 C kk=>?_) (fun H5 s5 e5=>?_)
    · have hj2:ks[j]? = some ks[j]:=List.getElem?_eq_getElem hj
      refine ⟨_,rfl,_,rfl,kl,_,_,sv ks[j],rfl,rfl,SqL.of ((s2.trans s5) _ _ hkl),?_,_,rfl,rfl,_,rfl,?_⟩
      · rw [Int.zero_add]; exact Y8 (by rw [List.getElem?_map,hj2]; rfl)
      have z:=kk H5 (Same.refl _)
      have e:decide (ks[j]? = some k) = decide (sv ks[j] = sv k):=by
        rw [hj2,sv_eq]
        by_cases h:ks[j] = k
        · rw [decide_eq_true h,decide_eq_true (by rw [h])]
        · rw [decide_eq_false h,decide_eq_false fun z=>h (Option.some.inj z)]
      rw [e] at z
      exact z
    · exact ⟨_,rfl,j,rfl,by rw [Int.zero_add],by omega,kk H5 (Same.refl _)⟩
    · have s25:=s2.trans s5
      refine ⟨p,((List.range ks.length).filter fun i=>decide (ks[i]? = some k)).map fun i=>((2 ^ i:Nat):Int),rfl,SqL.of (by rw [e5,List.map_map]; rfl),?_⟩
      rw [jfQ]
      refine ⟨_,rfl,_,_,rfl,rfl,(by show (0:Int) < 3; decide),rfl,_,rfl,ite2 (fun _=>?_) (fun _=>?_)⟩
      · refine ⟨_,rfl,_,rfl,rfl,_,rfl,ite2 (fun c2=>?_) (fun _=>⟨⟨_,_,rfl⟩,s25⟩)⟩
        have eb:b = Qq ks k ks.length:=by have:=V.int.inj (of_decide_eq_true c2); omega
        have kl8:=(jb7 (gko k hkm)).2
        refine ⟨_,rfl,Str.ofString "=",tx k,rfl,rfl,(by rw [Jk,show (Str.ofString "=").length = 1 from rfl,sizeLine_eq]; omega),?_⟩
        rw [show Str.ofString "=" = tx [61] from rfl,Jt]
        exact q (61 :: k) H5 s25 (.inr ⟨k,⟨hkm,eb⟩,jhS (gko k hkm),rfl⟩)
      · exact iteF ⟨⟨_,_,rfl⟩,s25⟩
  obtain ⟨⟨x,y,rfl⟩,s2⟩:=hP
  have hnl2:=s2 _ _ hnl
  refine ⟨6,rfl,by decide,by decide,fun l2 h2=>?_⟩
  refine Jl (n:=6) (lo:=0) (fun k=>b.testBit k) (fun k=>sv (ns.getD k [])) (by decide) h2 ?_ ?_ ?_
  · intro k H1 hk6 s1 C hC
    rw [Int.zero_add]
    have z:=hC H1 (Same.refl _)
    refine ⟨_,rfl,_,rfl,b,k,rfl,rfl,_,1,rfl,rfl,rfl,_,rfl,?_⟩
    rw [<- jin b (by omega) k hk6] at z
    rw [show decide (V.int ((b / 2 ^ k &&& 1:Nat):Int) = V.int 1) = decide (b / 2 ^ k &&& 1 = 1) from Zm (b:=1)]
    exact z
  · intro k H1 hk6 hp s1 C hC
    rw [Int.zero_add]
    have hm:k ∈ things b:=List.mem_filter.mpr ⟨List.mem_range.mpr hk6,hp⟩
    have hkn:=hth k hm
    exact ⟨_,rfl,_,rfl,nl,_,_,_,rfl,rfl,SqL.of (s1 _ _ hnl2),Y8 (by rw [List.getElem?_map,List.getElem?_eq_getElem hkn,List.getD_eq_getElem?_getD,List.getElem?_eq_getElem hkn]; rfl),hC _ (Same.refl _)⟩
  intro H3 s3 e3
  have e3:H3 l2 = some (.lst ((things b).map fun k=>sv (ns.getD k []))):=e3
  have ne:=(jeE b (by omega)).2.2 b1
  have tl:=yU b
  have tp:0 < (things b).length:=List.length_pos_iff.mpr ne
  have s23:=s2.trans s3
  obtain ⟨r,er,hr⟩:=Ym (c / 3) (things b).length tp
  have ln:(((things b).map fun k=>sv (ns.getD k [])).length:Int) = ((things b).length:Nat):=by rw [List.length_map]
  refine ⟨_,rfl,_,_,rfl,rfl,⟨by decide,by decide⟩,_,rfl,l2,_,rfl,.inl (SqL.of e3),_,_,nv r,rfl,rfl,?_,?_,?_⟩
  · show (0:Int) < _; rw [ln]; omega
  · show V.int (c / 3 % _) = V.int _; rw [ln]; exact congrArg V.int er
  refine ⟨_,rfl,_,rfl,_,rfl,l2,_,rfl,SqL.of e3,fun l3 h3=>?_⟩
  rw [cutF _ r (by rw [List.length_map]; omega)]
  have s4:=s23.trans (jC h3 (.lst (((things b).map fun k=>sv (ns.getD k [])).drop r)))
  have e4:=jC h3 (.lst (((things b).map fun k=>sv (ns.getD k [])).drop r)) _ _ e3
  have e5:upd H3 l3 (.lst (((things b).map fun k=>sv (ns.getD k [])).drop r)) l3 = some (.lst (((things b).map fun k=>sv (ns.getD k [])).drop r)):=jq
  generalize upd H3 l3 (.lst (((things b).map fun k=>sv (ns.getD k [])).drop r)) = H4 at s4 e4 e5 ⊢
  refine ⟨_,rfl,_,rfl,_,rfl,l2,_,rfl,SqL.of e4,fun l4 h4=>?_⟩
  rw [cutN]
  have s5:=s4.trans (jC h4 (.lst (((things b).map fun k=>sv (ns.getD k [])).take r)))
  have e6:=jC h4 (.lst (((things b).map fun k=>sv (ns.getD k [])).take r)) _ _ e5
  have e7:upd H4 l4 (.lst (((things b).map fun k=>sv (ns.getD k [])).take r)) l4 = some (.lst (((things b).map fun k=>sv (ns.getD k [])).take r)):=jq
  generalize upd H4 l4 (.lst (((things b).map fun k=>sv (ns.getD k [])).take r)) = H5 at s5 e6 e7 ⊢
  refine ⟨l3,l4,_,_,rfl,rfl,e6,e7,by rw [List.length_drop,List.length_take,List.length_map]; exact Nat.le_of_lt (Ji (by omega)),fun l5 h5=>?_⟩
  have ej:((things b).map fun k=>sv (ns.getD k [])).drop r ++ ((things b).map fun k=>sv (ns.getD k [])).take r = ((things b).drop r ++ (things b).take r).map fun k=>sv (ns.getD k []):=by rw [List.map_append,List.map_drop,List.map_take]
  rw [ej]
  have s6:=s5.trans (jC h5 (.lst (((things b).drop r ++ (things b).take r).map fun k=>sv (ns.getD k []))))
  have e8:upd H5 l5 (.lst (((things b).drop r ++ (things b).take r).map fun k=>sv (ns.getD k []))) l5 = some (.lst (((things b).drop r ++ (things b).take r).map fun k=>sv (ns.getD k []))):=jq
  generalize upd H5 l5 (.lst (((things b).drop r ++ (things b).take r).map fun k=>sv (ns.getD k []))) = H6 at s6 e8 ⊢
  obtain ⟨⟨o1,o2⟩,o3,o4⟩:=rot_ok b (by omega) r (by omega)
  have jl:((things b).drop r ++ (things b).take r).length <= 6:=by rw [List.length_append,List.length_drop,List.length_take]; omega
  have jn:(things b).drop r ++ (things b).take r ≠ []:=fun z=>by
    have:=congrArg List.length z
    rw [List.length_append,List.length_drop,List.length_take] at this
    simp at this; omega
  have jm:∀ j ∈ (things b).drop r ++ (things b).take r,j < ns.length:=fun j hj=>by
    rcases List.mem_append.mp hj with hj | hj
    · exact hth j (List.mem_of_mem_drop hj)
    · exact hth j (List.mem_of_mem_take hj)
  generalize (things b).drop r ++ (things b).take r = js at o1 o2 o3 o4 jl jn jm e8 ⊢
  have fin:∀ (is:List Nat) (l:Addr) (H':Hp),is ≠ []->is.length <= 6->(∀ j ∈ is,j < ns.length)->once 0 is = true->bun 0 is = b->Same H H'->H' l = some (.lst (is.map fun k=>sv (ns.getD k [])))->tJoin K (tC (V.str (Str.ofString "+"))) (tC (.ref l)) [] H' Q:=fun is l H' i1 i2 i3 i4 i5 S e=>by
    have em:(is.map fun k=>sv (ns.getD k [])) = ((is.map fun k=>ns.getD k []).map tx).map V.str:=by rw [List.map_map,List.map_map]; rfl
    rw [em] at e
    have jo:=jiF (sep:=Str.ofString "+") (ts:=(is.map fun k=>ns.getD k []).map tx) (B:=20) (N:=6) (fun x hx=>by
      obtain ⟨n,hn,rfl⟩:=List.mem_map.mp hx
      obtain ⟨j,hj,rfl⟩:=List.mem_map.mp hn
      have:=(jb7 (gok _ (getD_mem (i3 j hj)))).2
      rw [Jk]; omega) (by rw [List.length_map,List.length_map]; exact i2)
    have e1:(Str.ofString "+").length = 1:=rfl
    rw [e1] at jo
    refine ⟨Str.ofString "+",rfl,l,_,rfl,SqL.of e,(L2.joinOk_of (by rw [e1]; omega)).1,?_⟩
    rw [jfN,je9]
    exact q _ H' S (.inl ⟨is,i1,i2,i3,i4,i5,rfl⟩)
  dsimp only [YL]
  refine seq_join (fun σ' H'=>∃ (is:List Nat) (l:Addr) (x y:Option V),σ' = [some (nv b),some (.ref nl),some (.ref kl),some (.int c),x,y,some (.ref l),some (nv r)] /\ is ≠ [] /\ is.length <= 6 /\ (∀ j ∈ is,j < ns.length) /\ once 0 is = true /\ bun 0 is = b /\ Same H H' /\ H' l = some (.lst (is.map fun k=>sv (ns.getD k [])))) (fun join=>?_) (fun σ' H' hM=>?_)
  · refine ⟨_,rfl,_,_,rfl,rfl,⟨by decide,by decide⟩,_,_,rfl,rfl,(by show (0:Int) < 2; decide),rfl,_,rfl,ite2 (fun _=>?_) (fun _=>?_)⟩
    · refine ⟨_,rfl,l5,_,rfl,e8,fun l6 h6=>join _ _ ⟨js.reverse,l6,_,_,rfl,fun z=>jn (List.reverse_eq_nil_iff.mp z),by rw [List.length_reverse]; exact jl,fun j hj=>jm j (List.mem_reverse.mp hj),o3,o4,s6.trans (jC h6 _),?_⟩⟩
      rw [jq,List.map_reverse]
    · exact join _ _ ⟨js,l5,_,_,rfl,jn,jl,jm,o1,o2,s6,e8⟩
  obtain ⟨is,l,x',y',rfl,i1,i2,i3,i4,i5,S,e⟩:=hM
  obtain ⟨sep,es,a,nn,ea,f1,f2,f3⟩:=fin is l H' i1 i2 i3 i4 i5 S e
  exact ⟨sep,es,_,rfl,a,nn,ea,f1,f2,f3⟩
end
end My
set_option Elab.async false
set_option linter.all false
set_option maxRecDepth 100000
set_option maxHeartbeats 4000000
namespace My
open PySem PySem.Spec PyProof.Rows L2 GM
theorem setB_at {H:Hp} {p:Addr} {f:Form} {b k l:Nat} {z:Int} (hf:f ≠ .none) (okf:qP f) (fit:Fits f k l z) (h1:1 <= b) (h2:b <= 63) (e:H p = some (.tup [.str (word f),nv b,nv l,.int z])):qP (setB f b) /\ jdU H p (setB f b) /\ qL (setB f b) = b:=by
  cases f with
  | none=>exact absurd rfl hf
  | only x m=>obtain ⟨rfl,rfl⟩:=fit; exact ⟨⟨h1,h2,okf.2.2⟩,⟨b,l,_,e,h2,rfl,rfl⟩,rfl⟩
  | some x y m=>obtain ⟨rfl,rfl,rfl⟩:=fit; exact ⟨⟨h1,h2,okf.2.2⟩,⟨b,_,_,e,h2,rfl,rfl,rfl⟩,rfl⟩
  | most x y m=>obtain ⟨rfl,rfl,rfl⟩:=fit; exact ⟨⟨h1,h2,okf.2.2⟩,⟨b,_,_,e,h2,rfl,rfl,rfl⟩,rfl⟩
theorem sub_pos {x m:Nat} (h:L2.Sub x m) (h1:1 <= x):0 < m:=by
  cases m with
  | zero =>
    unfold L2.Sub at h
    simp at h
    omega
  | succ m=>exact Nat.succ_pos m
theorem jhy:∀ {ts:List Tr} {xs:List (List Nat)},All2 (fun y t=>y.length + 2 <= 86 * jW t) xs ts->((xs.map tx).map (·.length)).sum + (xs.map tx).length * 2 <= 86 * jR ts
  | [],[],_=>Nat.zero_le _
  | [],x :: xs,h=>absurd h.1 (by simp)
  | t :: ts,[],h=>absurd h.1 (by simp)
  | t :: ts,x :: xs,h=>by
    have a:=h.2 0 x t rfl rfl
    have b:=jhy (ts:=ts) (xs:=xs) ⟨Nat.succ.inj h.1,fun i y u e1 e2=>h.2 (i + 1) y u e1 e2⟩
    show _ <= 86 * (jW t + jR ts)
    rw [List.map_cons,List.map_cons,List.sum_cons,List.length_cons,Jk,Nat.succ_mul]
    omega
noncomputable def jib (_K:PySem.W.Frag) (d:Nat):Sp:=fun vs H Q _=>∃ (p nl kl:Addr) (t:Tr) (A:Addr->Prop) (ns ks:List (List Nat)) (c:Int),vs = [.ref p,.ref nl,.ref kl,.int c] /\ FT A H d p t /\ NK H nl kl ns ks /\ L2.Sub (Jb t) ns.length /\ jW t <= 24 /\ ∀ x H',Same H H'->Yk ns (kdOf ks) d t x->Q (.str (tx x)) H'
noncomputable def jgt (K:PySem.W.Frag):Sp:=jib K 4
section
variable {P:Program} {w:World} {K:PySem.W.Frag} {mg:Str->Option Value} {base:Heap}
theorem jgH (d:Nat) {f:Addr} {fd:FuncData} (F:Fun K "_law_of_kinds" "_law_of_kinds" Yp f fd) (jH:mg "_law_of_kinds" = some (.ref f)) (QR:mg "sum" = none) (jQ:mg "range" = none) (Je:mg "len" = none)
    (Yg:jK P w K mg base (2 + d) "_law_of_kinds" ["_law_form_here", "_law_kinds_here", "_law_cell_here"] [] (jff K d)):jK P w K mg base (2 + d + 1) "_law_of_kinds" ["_law_form_here", "_law_kinds_here", "_law_cell_here"] [] (jff K (d + 1)):=by
  refine F.jX jH (bnd3 F fun _ _ _ _ _ _ _ _ _=>rfl) qN (fun vs H Q E h=>?_) (fun cdv A outer s H vs Q E hr h=>?_)
  · obtain ⟨p,kl,t,A,ks,c,rfl,_⟩:=h; rfl
  obtain ⟨p,kl,t,A,ks,c,rfl,hF,hkl,hk6,hs,few,q⟩:=h
  refine ⟨_,(R.jk (R.j8 (R.jP Jv (R.jY (R.ixT K) (R.pv 0) R.jj (fun _ _=>rfl)) R.jG (j5 _)) (R.jr (R.jJ (R.pv 0))) R.jM)
    (R.jk (R.j8 (R.jP jed (R.jY (R.ixT K) (R.pv 0) R.jj (fun _ _=>rfl)) (R.Qo (R.pa_c R.jG (R.pa_c R.jG R.ji))) (by with_unfolding_all rfl)) (R.jk (R.jT (i:=3) qN.nd rfl (Or.inl rfl) (R.JK R.ji))
      (R.jk (R.qt PassesOwn.never rfl (R.Jh rfl jQ (R.pa_c (R.Jz Ja rfl Je PySem.boot_len (R.pa_c (R.jY (R.ixT K) (R.pv 0) R.jj (fun _ _=>rfl)) R.ji)) R.ji)) (R.jV (i:=4) qN.nd rfl (Or.inl rfl)) (R.jk (R.jT (i:=5) qN.nd rfl (Or.inl rfl) (R.jF Jm (R.jF qG (R.jF Jm (R.jF JB (R.pv 2) (R.jF qG R.jj (R.pv 4))) R.jj) R.jj) R.jj))
        (R.jr (R.JW (R.qC (R.pv 3) (R.pa_c (R.jz Yg hr (by first | decide | omega) rfl (R.pa_c (R.jY (R.ixL K) (R.jY (R.ixT K) (R.pv 0) R.jj (fun _ _=>rfl)) (R.pv 4) (fun _ _=>rfl)) (R.pa_c (R.pv 1) (R.pa_c (R.pv 5) R.ji)))) R.ji))))))
      (R.jr (R.jJ (R.Qo (R.pa_c (R.jY (R.ixT K) (R.pv 0) R.jj (fun _ _=>rfl)) (R.pa_c (R.pv 3) R.ji))))))) R.jM)
    (R.jk (R.j8 (R.jP Jv (R.jF Jm (R.pv 2) R.jj) R.jj (j5 _)) (R.jr (R.jJ (R.pv 0))) R.jM)
    (R.jk (R.jT (i:=6) qN.nd rfl (Or.inr rfl) (R.jY (R.ixL K) (R.pv 1) (R.jF (opE Jm) (R.jF Qs (R.pv 2) R.jj) (R.Jz Ja rfl Je PySem.boot_len (R.pa_c (R.pv 1) R.ji))) (fun _ _=>rfl)))
    (R.jk (R.jT (i:=7) qN.nd rfl (Or.inl rfl) (R.Jz (jai rfl) rfl QR (boot_sum) (R.pa_c (R.Jj (jw Yp) ["_law_form_here", "_law_kinds_here", "_law_cell_here", "_law_parts", "_law_k", "_law_number", "_law_kind", "_law_bundle"] ["_law_k"] ["_law_kinds_here", "_law_kind"] [1,6] rfl rfl rfl ⟨s.heap.objs.size + 1,rfl⟩ rfl rfl (by decide +kernel) (R.Jh rfl jQ (R.pa_c (R.Jz Ja rfl Je PySem.boot_len (R.pa_c (R.pv 1) R.ji)) R.ji)) (fun C s2 H2 fp=>(R.jV (i:=0) (show List.Nodup (["_law_k", "_law_kinds_here", "_law_kind"]:List Str) from by decide +kernel) rfl (Or.inl rfl))) (fun C s2 H2 fp=>(R.jc9 (R.jP Jv (R.jY (R.ixL K) (R.pv 1) (R.pv 0) (fun _ _=>rfl)) (R.pv 2) (j5 _)))) (fun C s2 H2 fp=>(R.jF Qt R.jj (R.pv 0)))) R.ji)))
    (R.jr (R.jJ (R.Qo (R.pa_c (R.jY (R.ixT K) (R.pv 0) R.jj (fun _ _=>rfl)) (R.pa_c (R.pv 7) (R.pa_c (R.jY (R.ixT K) (R.pv 0) R.jj (fun _ _=>rfl)) (R.pa_c (R.jY (R.ixT K) (R.pv 0) R.jj (fun _ _=>rfl)) R.ji)))))))))))),?_⟩
  cases t with
  | leaf f =>
    obtain ⟨okf,k0,l0,z0,hp,h63,fit⟩:=hF
    have hs':L2.Sub (qL f) ks.length:=hs
    by_cases hf:f = .none
    · subst hf
      exact ⟨_,rfl,p,_,_,_,rfl,rfl,SqT.of hp,rfl,rfl,_,rfl,iteT ⟨_,rfl,q p H (.leaf .none) (Same.refl _) ⟨trivial,k0,l0,z0,hp,h63,fit⟩ rfl rfl hs⟩⟩
    have c1:decide (V.str (word f) = V.str "none") = false:=by cases f <;> first | exact absurd rfl hf | rfl
    have c2:inV (V.str (word f)) [V.str "any",V.str "one"] = false:=by cases f <;> first | exact absurd rfl hf | rfl
    have b1:1 <= qL f:=by cases f <;> first | exact absurd rfl hf | exact okf.1
    have kpos:=sub_pos hs' b1
    refine ⟨_,rfl,p,_,_,_,rfl,rfl,SqT.of hp,rfl,rfl,_,rfl,?_⟩
    rw [c1]
    refine iteF ?_
    refine ⟨_,rfl,p,_,_,_,rfl,rfl,SqT.of hp,rfl,(by show 2 <= sizeLine; decide),fun tt htt=>⟨tt,_,rfl,.inr (SqT.of jq),rfl,rfl,_,rfl,?_⟩⟩
    rw [if_neg Bool.false_ne_true,c2]
    refine iteF ?_
    have s1:=jC htt (.tup [V.str "any",V.str "one"])
    have hp1:=s1 _ _ hp
    have hk1:=s1 _ _ hkl
    generalize upd H tt (.tup [V.str "any",V.str "one"]) = H1 at s1 hp1 hk1 ⊢
    refine ⟨_,rfl,_,_,rfl,rfl,(by show (0:Int) < 2; decide),rfl,_,rfl,ite2 (fun _=>⟨_,rfl,q p H1 (.leaf f) s1 ⟨okf,k0,l0,z0,hp1,h63,fit⟩ rfl rfl hs⟩) (fun _=>?_)⟩
    obtain ⟨r,er,hr'⟩:=Ym (c / 2) ks.length kpos
    have hkr:ks[r]? = some ks[r]:=List.getElem?_eq_getElem hr'
    generalize ks[r] = kd at hkr
    refine ⟨_,rfl,_,rfl,_,_,rfl,rfl,⟨by decide,by decide⟩,_,rfl,kl,_,rfl,.inl (SqL.of hk1),_,_,nv r,rfl,rfl,?_,?_,kl,_,_,sv kd,rfl,rfl,SqL.of hk1,Y8 (by rw [List.getElem?_map,hkr]; rfl),?_⟩
    · show (0:Int) < (((ks.map sv).length:Nat):Int); rw [List.length_map]; omega
    · show V.int (c / 2 % (((ks.map sv).length:Nat):Int)) = V.int _; rw [List.length_map]; exact congrArg V.int er
    have en:(((ks.map sv).length:Nat):Int).toNat = ks.length:=by rw [List.length_map]; simp
    refine ⟨_,rfl,kl,_,rfl,.inl (SqL.of hk1),_,rfl,by rw [List.length_map]; omega,by rw [List.length_map]; omega,fun pq hpq=>?_⟩
    rw [en]
    refine Jl (fun i=>decide (ks[i]? = some kd)) (fun i=>.int ((2 ^ i:Nat):Int)) (by omega) hpq (fun j H5 hj s5 C kk=>?_) (fun j H5 hj _ s5 C kk=>?_) (fun H5 s5 e5=>?_)
    · have hj2:ks[j]? = some ks[j]:=List.getElem?_eq_getElem hj
      refine ⟨_,rfl,_,rfl,kl,_,_,sv ks[j],rfl,rfl,SqL.of (s5 _ _ hk1),?_,_,rfl,rfl,_,rfl,?_⟩
      · rw [Int.zero_add]; exact Y8 (by rw [List.getElem?_map,hj2]; rfl)
      have z:=kk H5 (Same.refl _)
      have e:decide (ks[j]? = some kd) = decide (sv ks[j] = sv kd):=by
        rw [hj2,sv_eq]
        by_cases h:ks[j] = kd
        · rw [decide_eq_true h,decide_eq_true (by rw [h])]
        · rw [decide_eq_false h,decide_eq_false fun z=>h (Option.some.inj z)]
      rw [e] at z
      exact z
    · exact ⟨_,rfl,j,rfl,by rw [Int.zero_add],by omega,kk H5 (Same.refl _)⟩
    · have hp5:=s5 _ _ hp1
      refine ⟨pq,((List.range ks.length).filter fun i=>decide (ks[i]? = some kd)).map fun i=>((2 ^ i:Nat):Int),rfl,SqL.of (by rw [e5,List.map_map]; rfl),?_⟩
      rw [jfQ]
      have mp:=jiI hr' hkr
      have ml:=jfP ks kd ks.length
      generalize Qq ks kd ks.length = b at mp ml ⊢
      have m63:b <= 63 /\ 2 ^ ks.length <= 64:=by
        have:=Nat.pow_le_pow_right (show 0 < 2 by decide) hk6
        omega
      refine ⟨_,rfl,p,_,_,_,rfl,rfl,SqT.of hp5,rfl,_,rfl,_,rfl,p,_,_,_,rfl,rfl,SqT.of hp5,rfl,_,rfl,p,_,_,_,rfl,rfl,SqT.of hp5,rfl,(by show 4 <= sizeLine; decide),fun p' hp'=>?_⟩
      obtain ⟨g1,g2,g3⟩:=setB_at (H:=upd H5 p' (.tup [.str (word f),nv b,nv l0,.int z0])) (p:=p') hf okf fit mp m63.1 jq
      refine q p' _ (.leaf (setB f b)) ((s1.trans s5).trans (jC hp' _)) ⟨g1,g2⟩ rfl rfl ?_
      show L2.Sub (qL (setB f b)) ks.length
      rw [g3]
      exact sub_le ks.length (by omega) b (by omega) (by omega)
  | node any ts =>
    obtain ⟨l,ps,hp,hA,hl,hPs⟩:=hF
    have few':1 + jR ts <= 24:=few
    have tl:=Ql ts
    have hs':L2.Sub (Jg ts) ks.length:=hs
    have c1:decide (V.str (JR any) = V.str "none") = false:=by cases any <;> decide
    have c2:inV (V.str (JR any)) [V.str "any",V.str "one"] = true:=by cases any <;> decide
    refine ⟨_,rfl,p,_,_,_,rfl,rfl,SqT.of hp,rfl,rfl,_,rfl,?_⟩
    rw [c1]
    refine iteF ?_
    refine ⟨_,rfl,p,_,_,_,rfl,rfl,SqT.of hp,rfl,(by show 2 <= sizeLine; decide),fun tt htt=>⟨tt,_,rfl,.inr (SqT.of jq),rfl,rfl,_,rfl,?_⟩⟩
    rw [if_neg Bool.false_ne_true,c2]
    refine iteT ?_
    have s1:=jC htt (.tup [V.str "any",V.str "one"])
    have hp1:=s1 _ _ hp
    have hl1:=s1 _ _ hl
    have hk1:=s1 _ _ hkl
    generalize upd H tt (.tup [V.str "any",V.str "one"]) = H1 at s1 hp1 hl1 hk1 ⊢
    refine ⟨(by show 0 <= sizeLine; decide),fun lp hlp=>?_⟩
    have s2:=jC hlp (.lst [])
    have pl:(ps.map V.ref).length = ts.length:=by rw [List.length_map,hPs.1]
    refine ⟨_,rfl,p,_,_,_,rfl,rfl,SqT.of (s2 _ _ hp1),rfl,l,_,rfl,.inl (SqL.of (s2 _ _ hl1)),_,rfl,by omega,by omega,?_⟩
    rw [Int.toNat_natCast,pl]
    refine yX (n:=ts.length) (lo:=0) (fun i σ H'=>Same H1 H' /\ (∃ (qs:List Addr) (us:List Tr),H' lp = some (.lst (qs.map V.ref)) /\ All2 (FT (fun x=>H x = none /\ x ≠ lp) H' d) qs us /\ us.length = i /\ j7 us = j7 (ts.take i) /\ jR us = jR (ts.take i) /\ L2.Sub (Jg us) ks.length) /\ ∃ y4 y5,σ = [some (.ref p),some (.ref kl),some (.int c),some (.ref lp),y4,y5,none,none]) ?_ ?_ ?_
    · exact ⟨s2,⟨[],[],jq,All2.nil,rfl,rfl,rfl,by unfold L2.Sub; exact Nat.zero_or _⟩,_,_,rfl⟩
    · rintro k σ H3 hk ⟨s3,⟨qs,us,e3,hU,ul,ud,ut,us'⟩,y4,y5,rfl⟩
      rw [Int.zero_add]
      have ht:ts[k]? = some ts[k]:=List.getElem?_eq_getElem hk
      have hkp:k < ps.length:=by rw [hPs.1]; exact hk
      have hpk:ps[k]? = some ps[k]:=List.getElem?_eq_getElem hkp
      have ib:=hPs.2 k _ _ hpk ht
      have mt:=qD (List.mem_of_getElem? ht)
      have s03:=s1.trans s3
      refine ⟨_,rfl,_,rfl,_,_,rfl,rfl,Zo (by decide),_,_,rfl,rfl,_,_,rfl,rfl,(by show (0:Int) < 1000003; decide),_,_,rfl,rfl,JP (by decide),_,_,rfl,rfl,(by show (0:Int) < 2147483647; decide),?_⟩
      refine ⟨_,rfl,.inl ⟨rfl,_,SqL.of e3⟩,_,rfl,p,_,_,_,rfl,rfl,SqT.of (s3 _ _ hp1),rfl,_,rfl,l,_,_,_,rfl,rfl,SqL.of (s3 _ _ hl1),Y8 (by rw [List.getElem?_map,hpk]; rfl),_,rfl,_,rfl,ps[k],kl,ts[k],A,ks,_,rfl,FT.same s03 ib,s3 _ _ hk1,hk6,hs'.mem _ (List.mem_of_getElem? ht),by omega,fun p' H4 u s4 hF4 ud4 ut4 us4=>?_⟩
      have e4:=s4 _ _ e3
      have nA:¬ (H lp = none /\ lp ≠ lp):=fun z=>z.2 rfl
      refine ⟨lp,_,_,rfl,rfl,e4,by rw [List.length_map,hU.1,ul]; exact Ji (by omega),(s3.trans s4).upd hlp _,⟨qs ++ [p'],us ++ [u],by rw [jq,List.map_append]; rfl,?_,by rw [List.length_append,ul]; rfl,?_,?_,?_⟩,_,_,rfl⟩
      · exact (hU.imp fun _ _ _ z=>(FT.same s4 z).put e4 nA).snoc ((hF4.imp fun x zs hx _=>⟨s03.free hx,fun z=>by rw [z,e3] at hx; cases hx⟩).put e4 nA)
      · rw [List.take_succ,ht,Qi,Qi,ud]
        show max _ (max (j9 u) 0) = max _ (max (j9 ts[k]) 0)
        rw [ud4]
      · rw [List.take_succ,ht,qO,qO,ut]
        show _ + (jW u + 0) = _ + (jW ts[k] + 0)
        rw [ut4]
      · rw [jeJ]; exact Sub.or2 us' us4
    · rintro σ H3 ⟨s3,⟨qs,us,e3,hU,ul,ud,ut,us'⟩,y4,y5,rfl⟩
      rw [List.take_length] at ud ut
      refine ⟨_,rfl,p,_,_,_,rfl,rfl,SqT.of (s3 _ _ hp1),rfl,_,rfl,(by show 2 <= sizeLine; decide),fun p' hp'=>?_⟩
      have s4:=jC hp' (.tup [V.str (JR any),.ref lp])
      exact q p' _ (.node any us) ((s1.trans s3).trans s4) ⟨lp,qs,jq,s1.free hlp,s4 _ _ e3,hU.imp fun _ _ _ z=>(FT.same s4 z).imp fun x zs hx _=>hx.1⟩ (congrArg (1 + ·) ud) (congrArg (1 + ·) ut) us'
theorem jfB {f:Addr} {fd:FuncData} (F:Fun K "_law_of_kinds" "_law_of_kinds" Yp f fd) (jH:mg "_law_of_kinds" = some (.ref f)) (QR:mg "sum" = none) (jQ:mg "range" = none) (Je:mg "len" = none):∀ d,jK P w K mg base (2 + d) "_law_of_kinds" ["_law_form_here", "_law_kinds_here", "_law_cell_here"] [] (jff K d):=by
  intro d
  induction d with
  | zero =>
    refine F.jX jH (bnd3 F fun _ _ _ _ _ _ _ _ _=>rfl) qN (fun vs H Q E h=>?_) (fun cdv A outer s H vs Q E hr h=>?_)
    · obtain ⟨p,kl,t,A,ks,c,rfl,_⟩:=h; rfl
    · obtain ⟨p,kl,t,A,ks,c,rfl,hT,_⟩:=h; exact hT.elim
  | succ d ih=>exact jgH d F jH QR jQ Je ih
theorem jfT (d:Nat) {f:Addr} {fd:FuncData} (F:Fun K "_law_free_text" "_law_free_text" zf f fd) (jH:mg "_law_free_text" = some (.ref f)) (jQ:mg "range" = none) (Je:mg "len" = none) (Qp:mg "str" = none)
    (QD:jK P w K mg base 1 "_law_free_place" ["_law_bundle", "_law_names_here", "_law_kinds_here", "_law_cell_here"] [] (zM K)) (yz:jK P w K mg base (4 + d) "_law_free_text" ["_law_form_here", "_law_names_here", "_law_kinds_here", "_law_cell_here"] [] (jib K d)):jK P w K mg base (4 + d + 1) "_law_free_text" ["_law_form_here", "_law_names_here", "_law_kinds_here", "_law_cell_here"] [] (jib K (d + 1)):=by
  refine F.jX jH (bnd4 F fun _ _ _ _ _ _ _ _ _ _=>rfl) qW (fun vs H Q E h=>?_) (fun cdv A outer s H vs Q E hr h=>?_)
  · obtain ⟨p,nl,kl,t,A,ns,ks,c,rfl,_⟩:=h; rfl
  obtain ⟨p,nl,kl,t,A,ns,ks,c,rfl,hF,hNK,hs,few,q⟩:=h
  refine ⟨_,(R.jk (R.j8 (R.jP Jv (R.jY (R.ixT K) (R.pv 0) R.jj (fun _ _=>rfl)) R.jG (j5 _)) (R.jr (R.jJ R.jG)) R.jM)
    (R.jk (R.j8 (R.jP jed (R.jY (R.ixT K) (R.pv 0) R.jj (fun _ _=>rfl)) (R.Qo (R.pa_c R.jG (R.pa_c R.jG R.ji))) (by with_unfolding_all rfl)) (R.jk (R.jT (i:=4) qW.nd rfl (Or.inl rfl) (R.JK R.ji))
      (R.jk (R.qt PassesOwn.never rfl (R.Jh rfl jQ (R.pa_c (R.Jz Ja rfl Je PySem.boot_len (R.pa_c (R.jY (R.ixT K) (R.pv 0) R.jj (fun _ _=>rfl)) R.ji)) R.ji)) (R.jV (i:=5) qW.nd rfl (Or.inl rfl)) (R.jk (R.jT (i:=6) qW.nd rfl (Or.inl rfl) (R.jF Jm (R.jF qG (R.jF Jm (R.jF JB (R.pv 3) (R.jF qG R.jj (R.pv 5))) R.jj) R.jj) R.jj))
        (R.jr (R.JW (R.qC (R.pv 4) (R.pa_c (R.jz yz hr (by first | decide | omega) rfl (R.pa_c (R.jY (R.ixL K) (R.jY (R.ixT K) (R.pv 0) R.jj (fun _ _=>rfl)) (R.pv 5) (fun _ _=>rfl)) (R.pa_c (R.pv 1) (R.pa_c (R.pv 2) (R.pa_c (R.pv 6) R.ji))))) R.ji))))))
      (R.jr (R.jJ (R.jF j4 (R.jF j4 (R.jF j4 (R.jY (R.ixT K) (R.pv 0) R.jj (fun _ _=>rfl)) R.jG) (R.ZR K R.jG (R.pv 4))) R.jG))))) R.jM)
    (R.jk (R.jT (i:=7) qW.nd rfl (Or.inl rfl) (R.jz QD hr (by first | decide | omega) rfl (R.pa_c (R.jY (R.ixT K) (R.pv 0) R.jj (fun _ _=>rfl)) (R.pa_c (R.pv 1) (R.pa_c (R.pv 2) (R.pa_c (R.pv 3) R.ji))))))
    (R.jk (R.j8 (R.jP Jv (R.jY (R.ixT K) (R.pv 0) R.jj (fun _ _=>rfl)) R.jG (j5 _)) (R.jr (R.jJ (R.jF j4 (R.jF j4 (R.pv 7) R.jG) (R.Qn JT rfl Qp (boot_str) (R.pa_c (R.jY (R.ixT K) (R.pv 0) R.jj (fun _ _=>rfl)) R.ji))))) R.jM)
    (R.jk (R.j8 (R.jP Jv (R.jY (R.ixT K) (R.pv 0) R.jj (fun _ _=>rfl)) R.jG (j5 _)) (R.jr (R.jJ (R.jF j4 (R.jF j4 (R.jF j4 (R.jF j4 (R.Qn JT rfl Qp (boot_str) (R.pa_c (R.jY (R.ixT K) (R.pv 0) R.jj (fun _ _=>rfl)) R.ji)) R.jG) (R.pv 7)) R.jG) (R.Qn JT rfl Qp (boot_str) (R.pa_c (R.jY (R.ixT K) (R.pv 0) R.jj (fun _ _=>rfl)) R.ji))))) R.jM)
    (R.jr (R.jJ (R.jF j4 (R.jF j4 (R.jF j4 (R.jF j4 (R.jF j4 (R.jF j4 R.jG (R.Qn JT rfl Qp (boot_str) (R.pa_c (R.jY (R.ixT K) (R.pv 0) R.jj (fun _ _=>rfl)) R.ji))) R.jG) (R.pv 7)) R.jG) (R.Qn JT rfl Qp (boot_str) (R.pa_c (R.jY (R.ixT K) (R.pv 0) R.jj (fun _ _=>rfl)) R.ji))) R.jG)))))))),?_⟩
  obtain ⟨n1,n2,n3,n4,n5,n6,n7,n8,n9⟩:=lens
  have hn:∀ n ∈ ns,jbc n:=fun n hn=>jhS (hNK.2.2.2.2.1 n hn)
  cases t with
  | leaf f =>
    obtain ⟨okf,k0,l0,z0,hp,h63,fit⟩:=hF
    cases f with
    | none=>exact ⟨_,rfl,p,_,_,_,rfl,rfl,SqT.of hp,rfl,rfl,_,rfl,iteT (q (j0 [32] [jaL]) H (Same.refl H) ⟨trivial,_,rfl,rfl⟩)⟩
    | only b z =>
      obtain ⟨rfl,rfl⟩:=fit
      have ok2:=okf
      obtain ⟨b1,b2,hz⟩:=okf
      have zl:=JZ hz.lo hz.hi
      refine ⟨_,rfl,p,_,_,_,rfl,rfl,SqT.of hp,rfl,rfl,_,rfl,iteF ?_⟩
      refine ⟨_,rfl,p,_,_,_,rfl,rfl,SqT.of hp,rfl,(by show 2 <= sizeLine; decide),fun tt htt=>⟨tt,_,rfl,.inr (SqT.of jq),rfl,rfl,_,rfl,iteF ?_⟩⟩
      have s1:=jC htt (.tup [V.str "any",V.str "one"])
      refine ⟨_,rfl,p,_,_,_,rfl,rfl,SqT.of (s1 _ _ hp),rfl,_,rfl,_,rfl,_,rfl,b,nl,kl,ns,ks,c,rfl,b1,b2,hNK.same s1,hs,fun pl H2 s2 hP=>?_⟩
      have pk:=(Zw hn hP).2.2
      have hp2:=s2 _ _ (s1 _ _ hp)
      refine ⟨_,rfl,p,_,_,_,rfl,rfl,SqT.of hp2,rfl,rfl,_,rfl,iteT ?_⟩
      refine ⟨_,rfl,tx pl,Str.ofString " for ",rfl,rfl,sz (by rw [Jk]; omega),_,rfl,p,_,_,_,rfl,rfl,SqT.of hp2,rfl,z,rfl,qY hz.lo hz.hi,_,Str.ofString (toString z),rfl,rfl,sz (by rw [strLen_append,Jk]; omega),?_⟩
      have zz:=q _ H2 (s1.trans s2) ⟨ok2,_,⟨pl,hP,rfl⟩,rfl⟩
      have e:tx pl ++ Str.ofString " for " ++ Str.ofString (toString z) = tx (j0 [32] [pl,wFor,numL z]):=by
        rw [jcu,QV,Jt,Jt]; congr 1; simp [j0]
      rw [<- e] at zz
      exact zz
    | some b l z =>
      obtain ⟨rfl,rfl,rfl⟩:=fit
      have ok2:=okf
      obtain ⟨b1,b2,c1,c2,hz⟩:=okf
      have zl:=JZ hz.lo hz.hi
      have lo:(0:Int) <= ((l:Nat):Int):=by omega
      have hi:((l:Nat):Int) <= 10 ^ 9:=by omega
      have ll:=JZ lo hi
      refine ⟨_,rfl,p,_,_,_,rfl,rfl,SqT.of hp,rfl,rfl,_,rfl,iteF ?_⟩
      refine ⟨_,rfl,p,_,_,_,rfl,rfl,SqT.of hp,rfl,(by show 2 <= sizeLine; decide),fun tt htt=>⟨tt,_,rfl,.inr (SqT.of jq),rfl,rfl,_,rfl,iteF ?_⟩⟩
      have s1:=jC htt (.tup [V.str "any",V.str "one"])
      refine ⟨_,rfl,p,_,_,_,rfl,rfl,SqT.of (s1 _ _ hp),rfl,_,rfl,_,rfl,_,rfl,b,nl,kl,ns,ks,c,rfl,b1,b2,hNK.same s1,hs,fun pl H2 s2 hP=>?_⟩
      have pk:=(Zw hn hP).2.2
      have hp2:=s2 _ _ (s1 _ _ hp)
      refine ⟨_,rfl,p,_,_,_,rfl,rfl,SqT.of hp2,rfl,rfl,_,rfl,iteF ?_⟩
      refine ⟨_,rfl,p,_,_,_,rfl,rfl,SqT.of hp2,rfl,rfl,_,rfl,iteT ?_⟩
      refine ⟨_,rfl,p,_,_,_,rfl,rfl,SqT.of hp2,rfl,_,rfl,qY lo hi,Str.ofString (toString ((l:Nat):Int)),Str.ofString " of ",rfl,rfl,sz (by omega),?_⟩
      refine ⟨_,rfl,_,tx pl,rfl,rfl,sz (by rw [strLen_append,Jk]; omega),_,Str.ofString " for ",rfl,rfl,sz (by rw [strLen_append,strLen_append,Jk]; omega),?_⟩
      refine ⟨_,rfl,p,_,_,_,rfl,rfl,SqT.of hp2,rfl,z,rfl,qY hz.lo hz.hi,_,Str.ofString (toString z),rfl,rfl,sz (by rw [strLen_append,strLen_append,strLen_append,Jk]; omega),?_⟩
      have zz:=q _ H2 (s1.trans s2) ⟨ok2,_,⟨pl,hP,rfl⟩,rfl⟩
      have e:Str.ofString (toString ((l:Nat):Int)) ++ Str.ofString " of " ++ tx pl ++ Str.ofString " for " ++ Str.ofString (toString z) = tx (j0 [32] [numL (l:Nat),wOf,pl,wFor,numL z]):=by
        rw [jcu,jhQ,QV,QV,Jt,Jt,Jt,Jt]; congr 1; simp [j0]
      rw [<- e] at zz
      exact zz
    | most b l z =>
      obtain ⟨rfl,rfl,rfl⟩:=fit
      have ok2:=okf
      obtain ⟨b1,b2,c1,c2,hz⟩:=okf
      have zl:=JZ hz.lo hz.hi
      have lo:(0:Int) <= ((l:Nat):Int):=by omega
      have hi:((l:Nat):Int) <= 10 ^ 9:=by omega
      have ll:=JZ lo hi
      refine ⟨_,rfl,p,_,_,_,rfl,rfl,SqT.of hp,rfl,rfl,_,rfl,iteF ?_⟩
      refine ⟨_,rfl,p,_,_,_,rfl,rfl,SqT.of hp,rfl,(by show 2 <= sizeLine; decide),fun tt htt=>⟨tt,_,rfl,.inr (SqT.of jq),rfl,rfl,_,rfl,iteF ?_⟩⟩
      have s1:=jC htt (.tup [V.str "any",V.str "one"])
      refine ⟨_,rfl,p,_,_,_,rfl,rfl,SqT.of (s1 _ _ hp),rfl,_,rfl,_,rfl,_,rfl,b,nl,kl,ns,ks,c,rfl,b1,b2,hNK.same s1,hs,fun pl H2 s2 hP=>?_⟩
      have pk:=(Zw hn hP).2.2
      have hp2:=s2 _ _ (s1 _ _ hp)
      refine ⟨_,rfl,p,_,_,_,rfl,rfl,SqT.of hp2,rfl,rfl,_,rfl,iteF ?_⟩
      refine ⟨_,rfl,p,_,_,_,rfl,rfl,SqT.of hp2,rfl,rfl,_,rfl,iteF ?_⟩
      refine ⟨_,rfl,p,_,_,_,rfl,rfl,SqT.of hp2,rfl,_,rfl,qY lo hi,Str.ofString "up to ",Str.ofString (toString ((l:Nat):Int)),rfl,rfl,sz (by omega),?_⟩
      refine ⟨_,Str.ofString " of ",rfl,rfl,sz (by rw [strLen_append]; omega),?_⟩
      refine ⟨_,rfl,_,tx pl,rfl,rfl,sz (by rw [strLen_append,strLen_append,Jk]; omega),_,Str.ofString " for ",rfl,rfl,sz (by rw [strLen_append,strLen_append,strLen_append,Jk]; omega),?_⟩
      refine ⟨_,rfl,p,_,_,_,rfl,rfl,SqT.of hp2,rfl,z,rfl,qY hz.lo hz.hi,_,Str.ofString (toString z),rfl,rfl,sz (by rw [strLen_append,strLen_append,strLen_append,strLen_append,Jk]; omega),_,Str.ofString " each",rfl,rfl,sz (by rw [strLen_append,strLen_append,strLen_append,strLen_append,strLen_append,Jk]; omega),?_⟩
      have zz:=q _ H2 (s1.trans s2) ⟨ok2,_,⟨pl,hP,rfl⟩,rfl⟩
      have e:Str.ofString "up to " ++ Str.ofString (toString ((l:Nat):Int)) ++ Str.ofString " of " ++ tx pl ++ Str.ofString " for " ++ Str.ofString (toString z) ++ Str.ofString " each" = tx (j0 [32] [wUp,wTo,numL (l:Nat),wOf,pl,wFor,numL z,jhC]):=by
        rw [jcu,jhQ,lit_up,jiG,QV,QV,Jt,Jt,Jt,Jt,Jt,Jt]; congr 1; simp [j0]
      rw [<- e] at zz
      exact zz
  | node any ts =>
    obtain ⟨l,ps,hp,hA,hl,hPs⟩:=hF
    have few':1 + jR ts <= 24:=few
    have tl:=Ql ts
    have hs':L2.Sub (Jg ts) ns.length:=hs
    have wl:=ji9 any
    have c1:decide (V.str (JR any) = V.str "none") = false:=by cases any <;> decide
    have c2:inV (V.str (JR any)) [V.str "any",V.str "one"] = true:=by cases any <;> decide
    refine ⟨_,rfl,p,_,_,_,rfl,rfl,SqT.of hp,rfl,rfl,_,rfl,?_⟩
    rw [c1]
    refine iteF ?_
    refine ⟨_,rfl,p,_,_,_,rfl,rfl,SqT.of hp,rfl,(by show 2 <= sizeLine; decide),fun tt htt=>⟨tt,_,rfl,.inr (SqT.of jq),rfl,rfl,_,rfl,?_⟩⟩
    rw [if_neg Bool.false_ne_true,c2]
    refine iteT ?_
    have s1:=jC htt (.tup [V.str "any",V.str "one"])
    have hp1:=s1 _ _ hp
    have hl1:=s1 _ _ hl
    generalize upd H tt (.tup [V.str "any",V.str "one"]) = H1 at s1 hp1 hl1 ⊢
    refine ⟨(by show 0 <= sizeLine; decide),fun lp hlp=>?_⟩
    have s2:=jC hlp (.lst [])
    have pl:(ps.map V.ref).length = ts.length:=by rw [List.length_map,hPs.1]
    refine ⟨_,rfl,p,_,_,_,rfl,rfl,SqT.of (s2 _ _ hp1),rfl,l,_,rfl,.inl (SqL.of (s2 _ _ hl1)),_,rfl,by omega,by omega,?_⟩
    rw [Int.toNat_natCast,pl]
    refine yX (n:=ts.length) (lo:=0) (fun i σ H'=>Same H1 H' /\ (∃ xs:List (List Nat),H' lp = some (.lst ((xs.map tx).map V.str)) /\ All2 (fun y t=>Yk ns (kdOf ks) d t y) xs (ts.take i)) /\ ∃ y5 y6,σ = [some (.ref p),some (.ref nl),some (.ref kl),some (.int c),some (.ref lp),y5,y6,none]) ?_ ?_ ?_
    · exact ⟨s2,⟨[],jq,All2.nil⟩,_,_,rfl⟩
    · rintro k σ H3 hk ⟨s3,⟨xs,e3,hX⟩,y5,y6,rfl⟩
      rw [Int.zero_add]
      have ht:ts[k]? = some ts[k]:=List.getElem?_eq_getElem hk
      have hkp:k < ps.length:=by rw [hPs.1]; exact hk
      have hpk:ps[k]? = some ps[k]:=List.getElem?_eq_getElem hkp
      have ib:=hPs.2 k _ _ hpk ht
      have mt:=qD (List.mem_of_getElem? ht)
      have s03:=s1.trans s3
      refine ⟨_,rfl,_,rfl,_,_,rfl,rfl,Zo (by decide),_,_,rfl,rfl,_,_,rfl,rfl,(by show (0:Int) < 1000003; decide),_,_,rfl,rfl,JP (by decide),_,_,rfl,rfl,(by show (0:Int) < 2147483647; decide),?_⟩
      refine ⟨_,rfl,.inl ⟨rfl,_,SqL.of e3⟩,_,rfl,p,_,_,_,rfl,rfl,SqT.of (s3 _ _ hp1),rfl,_,rfl,l,_,_,_,rfl,rfl,SqL.of (s3 _ _ hl1),Y8 (by rw [List.getElem?_map,hpk]; rfl),_,rfl,_,rfl,_,rfl,ps[k],nl,kl,ts[k],A,ns,ks,_,rfl,FT.same s03 ib,hNK.same s03,hs'.mem _ (List.mem_of_getElem? ht),by omega,fun x H4 s4 hx=>?_⟩
      refine ⟨lp,_,_,rfl,rfl,s4 _ _ e3,by rw [List.length_map,List.length_map,hX.1,List.length_take]; exact Ji (by omega),(s3.trans s4).upd hlp _,⟨xs ++ [x],by rw [jq,List.map_append,List.map_append]; rfl,?_⟩,_,_,rfl⟩
      rw [List.take_succ,ht]
      exact hX.snoc hx
    · rintro σ H3 ⟨s3,⟨xs,e3,hX⟩,y5,y6,rfl⟩
      rw [List.take_length] at hX
      have tot:=jhy (ts:=ts) (xs:=xs) (hX.imp fun y t _ z=>(yc hn d t y z).2.2)
      obtain ⟨jo,jl⟩:=L2.joinOk_of (sep:=Str.ofString "; ") (ts:=xs.map tx) (by rw [n7]; omega)
      rw [n7] at jl
      refine ⟨_,rfl,p,_,_,_,rfl,rfl,SqT.of (s3 _ _ hp1),rfl,JR any,Str.ofString "(",rfl,rfl,sz (by rw [jcw]; omega),?_⟩
      refine ⟨Str.ofString "; ",rfl,_,rfl,lp,_,rfl,SqL.of e3,jo,_,_,rfl,rfl,sz (by rw [strLen_append,jcw]; omega),_,Str.ofString ")",rfl,rfl,sz (by rw [strLen_append,strLen_append,jcw]; omega),?_⟩
      have zz:=q _ H3 (s1.trans s3) ⟨xs,hX,rfl⟩
      have e:JR any ++ Str.ofString "(" ++ Txt.join (Str.ofString "; ") (xs.map tx) ++ Str.ofString ")" = tx (Zk any ++ j0 [59,32] xs ++ [41]):=by
        rw [jhD,jfO,je9,jka,jhg,Jt,Jt]
      rw [<- e] at zz
      exact zz
theorem jeM {f:Addr} {fd:FuncData} (F:Fun K "_law_free_text" "_law_free_text" zf f fd) (jH:mg "_law_free_text" = some (.ref f)) (jQ:mg "range" = none) (Je:mg "len" = none) (Qp:mg "str" = none)
    (QD:jK P w K mg base 1 "_law_free_place" ["_law_bundle", "_law_names_here", "_law_kinds_here", "_law_cell_here"] [] (zM K)):∀ d,jK P w K mg base (4 + d) "_law_free_text" ["_law_form_here", "_law_names_here", "_law_kinds_here", "_law_cell_here"] [] (jib K d):=by
  intro d
  induction d with
  | zero =>
    refine F.jX jH (bnd4 F fun _ _ _ _ _ _ _ _ _ _=>rfl) qW (fun vs H Q E h=>?_) (fun cdv A outer s H vs Q E hr h=>?_)
    · obtain ⟨p,nl,kl,t,A,ns,ks,c,rfl,_⟩:=h; rfl
    · obtain ⟨p,nl,kl,t,A,ns,ks,c,rfl,hT,_⟩:=h; exact hT.elim
  | succ d ih=>exact jfT d F jH jQ Je Qp QD ih
end
end My
set_option Elab.async false
set_option linter.all false
set_option maxRecDepth 100000
set_option maxHeartbeats 4000000
namespace My
open PySem PySem.Spec PyProof.Rows L2 GM
noncomputable def jhH (g:Nat->Int) (n:Nat) (H:Hp) (Q:VK):Prop:=∀ l H',Same H H'->H l = none->H' l = some (.lst ((tab g n).map V.int))->Q (.ref l) H'
noncomputable def jbA (K:PySem.W.Frag):Sp:=fun vs H Q _=>∃ (a b:Addr) (g h:Nat->Int) (n x:Nat),vs = [.ref a,.ref b,nv x] /\ n <= 6 /\ x < 2 ^ n /\ L2.Good g /\ L2.Good h /\ SqL K H a ((tab g n).map V.int) /\ SqL K H b ((tab h n).map V.int) /\ ∀ H',Same H H'->Q (.int (conv g h x)) H'
noncomputable def jid (K:PySem.W.Frag) (op:(Nat->Int)->(Nat->Int)->Nat->Int):Sp:=fun vs H Q _=>∃ (a b:Addr) (g h:Nat->Int) (n:Nat),vs = [.ref a,.ref b] /\ n <= 6 /\ L2.Good g /\ L2.Good h /\ SqL K H a ((tab g n).map V.int) /\ SqL K H b ((tab h n).map V.int) /\ jhH (op g h) n H Q
noncomputable def zO (K:PySem.W.Frag):Sp:=jid K conv
noncomputable def zN (K:PySem.W.Frag):Sp:=jid K mx
noncomputable def jcl (K:PySem.W.Frag):Sp:=jid K conv
noncomputable def spW (any:Bool) (ju jh jb jg jc jd je jf:Addr) (d:Nat):Sp:=fun vs H Q _=>∃ (a:Addr) (n:Nat) (ts:List Tr) (A:Addr->Prop),vs = [.ref a,nv n] /\ n <= 6 /\ IsTr ju jh jb jg jd je A H d a (.node any ts) /\ jhH (Qc (.node any ts)) n H Q
noncomputable def TW (K:PySem.W.Frag) (ju jh jb jg jc jd je jf:Addr) (d:Nat):Addr->Sp->Prop:=fun C sp=>(C = ju /\ sp = jbx K ju) ∨ (C = jh /\ sp = jaE K jh) ∨ (C = jb /\ sp = ZD K jb) ∨ (C = jg /\ sp = jaG K jg) ∨ (C = jd /\ sp = spW true ju jh jb jg jc jd je jf d) ∨ (C = je /\ sp = spW false ju jh jb jg jc jd je jf d)
noncomputable def T_worths (K:PySem.W.Frag) (ju jh jb jg jc jd je jf:Addr):Addr->Sp->Prop:=TW K ju jh jb jg jc jd je jf 4
noncomputable def spTab (d:Nat):Sp:=fun vs H Q _=>∃ (p:Addr) (t:Tr) (A:Addr->Prop) (n:Nat),vs = [.ref p,nv n] /\ n <= 6 /\ FT A H d p t /\ jhH (Qc t) n H Q
noncomputable def jjO (_K:PySem.W.Frag):Sp:=spTab 4
theorem jjG:∀ b < 64,partsOf b = jba b:=by decide +kernel
theorem subs_len:∀ b < 64,0 < (jba b).length /\ (jba b).length <= 64:=by decide +kernel
theorem zE {g:Nat->Int} {n x:Nat} (h:x < 2 ^ n):atI ((tab g n).map V.int) (x:Int) = some (V.int (g x)):=by
  have z:=getD_at (ws:=tab g n) (b:=x) (by rw [zu]; exact h)
  rw [tab_at h] at z; exact z
section
variable {P:Program} {w:World} {K:PySem.W.Frag} {mg:Str->Option Value} {base:Heap}
variable {ju jh jb jg jc jd je jf:Addr}
theorem jeP {f:Addr} {fd:FuncData} (F:Fun K "best_share" "best_share" Yx f fd) (jH:mg "best_share" = some (.ref f)) (QQ:mg "max" = none)
    (jaP:jK P w K mg base 3 "parts_of" ["bundle"] [] (jcT K)):jK P w K mg base 4 "best_share" ["one", "other", "bundle"] [] (jbA K):=by
  refine F.jX jH (bnd3 F fun _ _ _ _ _ _ _ _ _=>rfl) jeX (fun vs H Q E h=>?_) (fun cdv A outer s H vs Q E hr h=>?_)
  · obtain ⟨a,b,g,h,n,x,rfl,_⟩:=h; rfl
  obtain ⟨a,b,g,h,n,x,rfl,hn,hx,hg,hh,ha,hb,q⟩:=h
  obtain ⟨f1,f2⟩:=pow6 hn
  have x64:x < 64:=by omega
  obtain ⟨p0,p64⟩:=subs_len x x64
  have pe:=jjG x x64
  refine ⟨_,(R.jr (R.jJ (R.Jz (jkr rfl) rfl QQ (boot_max) (R.pa_c (R.Jj (jw Yx) ["one", "other", "bundle"] ["part"] ["one", "other", "bundle"] [0,1,2] rfl rfl rfl ⟨s.heap.objs.size + 1,rfl⟩ rfl rfl (by decide +kernel) (R.JL (R.jz jaP hr (by first | decide | omega) rfl (R.pa_c (R.pv 2) R.ji))) (fun C s2 H2 fp=>(R.jV (i:=0) (show List.Nodup (["part", "one", "other", "bundle"]:List Str) from by decide +kernel) rfl (Or.inl rfl))) (fun C s2 H2 fp=>R.JM) (fun C s2 H2 fp=>(R.jF JB (R.jY (R.ixL K) (R.pv 1) (R.pv 0) (fun _ _=>rfl)) (R.jY (R.ixL K) (R.pv 2) (R.jF (opE0 jef) (R.pv 3) (R.pv 0)) (fun _ _=>rfl))))) R.ji)))),?_⟩
  refine ⟨_,rfl,x,rfl,x64,fun l H1 s1 hl e1=>⟨l,rfl,⟨_,SqL.of e1⟩,fun l2 h2=>?_⟩⟩
  refine zR nv (partsOf x) (fun _=>true) (fun p=>.int (g p + h (x - p))) (SqL.of e1) (by rw [pe]; omega) h2 ?_ ?_ ?_
  · intro p hp H2 s2 C hC; exact hC _ (Same.refl _)
  · intro p hp _ H2 s2 C hC
    rw [pe] at hp
    have hp':=jaJ.mp hp
    have ple:p <= x:=by rw [<- hp']; exact Nat.and_le_left
    have S2:=s1.trans s2
    refine ⟨_,rfl,_,rfl,a,_,_,_,rfl,rfl,S2.seq ha,zE (by omega),_,rfl,_,rfl,_,rfl,_,_,nv (x - p),rfl,rfl,?_,b,_,_,_,rfl,rfl,S2.seq hb,zE (by omega),_,_,rfl,rfl,hC _ (Same.refl _)⟩
    show V.int ((x:Int) - (p:Int)) = V.int ((x - p:Nat):Int)
    congr 1; omega
  · intro H2 s2 e2
    refine ⟨l2,(partsOf x).map (fun p=>g p + h (x - p)),rfl,SqL.of ?_,?_,fun m hm=>?_⟩
    · rw [e2,List.map_map,List.filter_eq_self.mpr (fun _ _=>rfl)]; rfl
    · rw [List.length_map,pe]; exact p0
    · rw [pe] at hm
      have em:m = conv g h x:=jhz (fun z hz=>by
        obtain ⟨p,hp,rfl⟩:=List.mem_map.mp hz
        exact jiR hg hh x64 (jaJ.mp hp)) hm
      rw [em]
      exact q _ (s1.trans s2)
theorem jeU {f:Addr} {fd:FuncData} (F:Fun K "shared_out" "shared_out" YD f fd) (jH:mg "shared_out" = some (.ref f)) (jQ:mg "range" = none) (Je:mg "len" = none)
    (Zd:jK P w K mg base 4 "best_share" ["one", "other", "bundle"] [] (jbA K)):jK P w K mg base 5 "shared_out" ["one", "other"] [] (zO K):=by
  refine F.jX jH (bnd2 F fun _ _ _ _ _ _ _ _=>rfl) je3 (fun vs H Q E h=>?_) (fun cdv A outer s H vs Q E hr h=>?_)
  · obtain ⟨a,b,g,h,n,rfl,_⟩:=h; rfl
  obtain ⟨a,b,g,h,n,rfl,hn,hg,hh,ha,hb,q⟩:=h
  obtain ⟨f1,f2⟩:=pow6 hn
  have ln:((tab g n).map V.int).length = 2 ^ n:=by rw [List.length_map,zu]
  refine ⟨_,(R.jr (R.jJ (R.Jj (jw YD) ["one", "other"] ["bundle"] ["one", "other"] [0,1] rfl rfl rfl ⟨s.heap.objs.size + 1,rfl⟩ rfl rfl (by decide +kernel) (R.Jh rfl jQ (R.pa_c (R.Jz Ja rfl Je PySem.boot_len (R.pa_c (R.pv 0) R.ji)) R.ji)) (fun C s2 H2 fp=>(R.jV (i:=0) (show List.Nodup (["bundle", "one", "other"]:List Str) from by decide +kernel) rfl (Or.inl rfl))) (fun C s2 H2 fp=>R.JM) (fun C s2 H2 fp=>(R.jz Zd hr (by first | decide | omega) rfl (R.pa_c (R.pv 1) (R.pa_c (R.pv 2) (R.pa_c (R.pv 0) R.ji)))))))),?_⟩
  refine ⟨_,rfl,a,_,rfl,.inl ha,_,rfl,by omega,by omega,fun l hl=>?_⟩
  rw [Int.toNat_natCast,ln]
  refine Jl (n:=2 ^ n) (fun _=>true) (fun x=>V.int (conv g h x)) (by omega) hl ?_ ?_ ?_
  · intro x H1 hx s1 C hC; exact hC _ (Same.refl _)
  · intro x H1 hx _ s1 C hC
    rw [Int.zero_add]
    exact ⟨_,rfl,_,rfl,_,rfl,a,b,g,h,n,x,rfl,hn,hx,hg,hh,s1.seq ha,s1.seq hb,fun H2 s2=>hC _ s2⟩
  · intro H1 s1 e1
    refine q l H1 s1 hl ?_
    rw [e1,List.filter_eq_self.mpr (fun _ _=>rfl)]
    unfold tab
    rw [List.map_map]; rfl
theorem jkl {g:Nat->Int} {n k:Nat} {x:Int} (h:(tab g n)[k]? = some x):k < 2 ^ n /\ x = g k:=by
  have hk:=(List.getElem?_eq_some_iff.mp h).1
  rw [zu] at hk
  refine ⟨hk,?_⟩
  unfold tab at h
  rw [List.getElem?_map,List.getElem?_eq_getElem (by rw [List.length_range]; exact hk),List.getElem_range] at h
  exact (Option.some.inj h).symm
theorem jj9 {g:Nat->Int} {n k:Nat} (hk:k < 2 ^ n):(tab g n)[k]? = some (g k):=by
  unfold tab
  rw [List.getElem?_map,List.getElem?_eq_getElem (by rw [List.length_range]; exact hk),List.getElem_range]; rfl
theorem jeR {f:Addr} {fd:FuncData} (F:Fun K "greater_of" "greater_of" Yz f fd) (jH:mg "greater_of" = some (.ref f)) (QQ:mg "max" = none) (jbm:mg "zip" = none):jK P w K mg base 1 "greater_of" ["one", "other"] [] (zN K):=by
  refine F.jX jH (bnd2 F fun _ _ _ _ _ _ _ _=>rfl) jeZ (fun vs H Q E h=>?_) (fun cdv A outer s H vs Q E hr h=>?_)
  · obtain ⟨a,b,g,h,n,rfl,_⟩:=h; rfl
  obtain ⟨a,b,g,h,n,rfl,hn,hg,hh,ha,hb,q⟩:=h
  obtain ⟨f1,f2⟩:=pow6 hn
  refine ⟨_,(R.jr (R.jJ (R.Jj (jw Yz) ["one", "other"] ["first", "second"] [] [] rfl rfl rfl ⟨s.heap.objs.size + 1,rfl⟩ rfl rfl (by decide +kernel) (R.jeh rfl jbm (R.pa_c (R.pv 0) (R.pa_c (R.pv 1) R.ji))) (fun C s2 H2 fp=>(R.Z7 K 2 rfl (R.JQ (R.jV (i:=0) (show List.Nodup (["first", "second"]:List Str) from by decide +kernel) rfl (Or.inl rfl)) (R.JQ (R.jV (i:=1) (show List.Nodup (["first", "second"]:List Str) from by decide +kernel) rfl (Or.inl rfl)) R.zc)))) (fun C s2 H2 fp=>R.JM) (fun C s2 H2 fp=>(R.Jz (jg4 rfl) rfl QQ (boot_max) (R.pa_c (R.pv 0) (R.pa_c (R.pv 1) R.ji))))))),?_⟩
  refine ⟨_,rfl,_,rfl,a,b,rfl,⟨_,ha⟩,⟨_,hb⟩,fun l hl=>?_⟩
  refine jdZ (xs:=(tab g n).map V.int) (ys:=(tab h n).map V.int) (by rw [List.length_map,List.length_map,zu,zu]) (fun k H'=>Same H H' /\ H' l = some (.lst (((tab (mx g h) n).take k).map V.int))) ⟨jC hl _,jq⟩ (fun k H' _ ⟨s,_⟩=>⟨s.seq ha,s.seq hb⟩) ?_ ?_
  · rintro k v u p H1 hv hu ⟨s1,e1⟩ hp K1 K0 k1 k0
    rw [List.getElem?_map] at hv hu
    obtain ⟨x,hx,rfl⟩:=Option.map_eq_some_iff.mp hv
    obtain ⟨y,hy,rfl⟩:=Option.map_eq_some_iff.mp hu
    obtain ⟨hk,rfl⟩:=jkl hx
    obtain ⟨_,rfl⟩:=jkl hy
    have s2:=jC hp (.tup [V.int (g k),V.int (h k)])
    refine ⟨_,rfl,_,rfl,_,_,rfl,k1 _ _ _ (s2 _ _ e1) ?_ ⟨(s1.trans s2).upd hl _,?_⟩⟩
    · rw [List.length_map,List.length_take]
      exact Ji (by omega)
    · rw [jq,List.take_succ,jj9 hk,List.map_append]; rfl
  · rintro H1 ⟨s1,e1⟩
    refine q l H1 s1 hl ?_
    rw [e1,List.take_of_length_le (by rw [zu,List.length_map,zu]; exact Nat.le_refl _)]
theorem jc0 (K:PySem.W.Frag) {ju jh jb jg jc jd je jf:Addr} {A:Addr->Prop} {H:Hp} {d n:Nat} {b:Addr} {t:Tr} (hn:n <= 6) (hb:IsTr ju jh jb jg jd je A H d b t) :
    ∃ (C dx:Addr) (fs:List (Str × V)) (sp:Sp),H b = some (.ins C dx fs) /\ fs.lookup ("worths" : Str) = none /\ TW K ju jh jb jg jc jd je jf d C sp /\ ∀ Q:VK,jhH (Qc t) n H Q->sp [.ref b,nv n] H Q E0:=by
  cases d with
  | zero=>exact hb.elim
  | succ d =>
    cases t with
    | leaf f =>
      obtain ⟨ok,hb⟩:=hb
      rw [jcs]
      cases f with
      | none =>
        obtain ⟨dx,e⟩:=hb
        exact ⟨_,dx,_,_,e,rfl,.inl ⟨rfl,rfl⟩,fun Q q=>⟨b,dx,n,rfl,hn,e,q⟩⟩
      | only x m =>
        obtain ⟨dx,e⟩:=hb
        exact ⟨_,dx,_,_,e,rfl,.inr (.inl ⟨rfl,rfl⟩),fun Q q=>⟨b,dx,n,x,m,rfl,hn,ok.2.1,e,q⟩⟩
      | some k l m =>
        obtain ⟨dx,e⟩:=hb
        exact ⟨_,dx,_,_,e,rfl,.inr (.inr (.inl ⟨rfl,rfl⟩)),fun Q q=>⟨b,dx,n,k,l,m,rfl,hn,ok.2.1,e,q⟩⟩
      | most k l m =>
        obtain ⟨dx,e⟩:=hb
        exact ⟨_,dx,_,_,e,rfl,.inr (.inr (.inr (.inl ⟨rfl,rfl⟩))),fun Q q=>⟨b,dx,n,k,l,m,rfl,hn,ok.2.1,e,q⟩⟩
    | node any ts =>
      have hb':=hb
      obtain ⟨dx,l,bs,e1,e2,e3,e4⟩:=hb
      cases any
      · exact ⟨_,dx,_,_,e1,rfl,.inr (.inr (.inr (.inr (.inr ⟨rfl,rfl⟩)))),fun Q q=>⟨b,n,ts,A,rfl,hn,hb',q⟩⟩
      · exact ⟨_,dx,_,_,e1,rfl,.inr (.inr (.inr (.inr (.inl ⟨rfl,rfl⟩)))),fun Q q=>⟨b,n,ts,A,rfl,hn,hb',q⟩⟩
theorem jdx (d:Nat) {f:Addr} {fd:FuncData} (F:Fun K "worths" "AnyOf.worths" yo f fd)
    (j6:jK P w K mg base 1 "worths_of_nothing" ["many"] [] (JN K))
    (QL:jK P w K mg base 5 "shared_out" ["one", "other"] [] (zO K))
    (jN:Own K mg "Bid" ju [])
    (jE:Own K mg "Only" jh ["bundle", "amount"])
    (jt:Own K mg "SoMany" jb ["kind", "least", "amount"])
    (jD:Own K mg "UpTo" jg ["kind", "most", "each"])
    (jx:Own K mg "Several" jc ["bids"])
    (jA:Own K mg "AnyOf" jd ["bids"])
    (jB:Own K mg "OneOf" je ["bids"])
    (jy:Own K mg "Stock" jf ["numbers", "kinds"])
    (YM:∀ C sp,TW K ju jh jb jg jc jd je jf d C sp->∃ ps,J3 P w K mg base (d + 6) C "worths" ps sp) :
    FnOk P w K mg base CX0 (d + 7) f fd ["self", "many"] (spW true ju jh jb jg jc jd je jf (d + 1)):=by
  refine F.okQ qI (fun vs H Q E h=>?_) (fun cdv A outer s H vs Q E hr h=>?_)
  · obtain ⟨a,n,ts,A,rfl,_⟩:=h; rfl
  obtain ⟨a,n,ts,A,rfl,hn,hT,q⟩:=h
  have okt:=yD.mp (IsTr.ok _ hT)
  refine ⟨_,(R.jk (R.jT (i:=2) qI.nd rfl (Or.inl rfl) (R.jz j6 hr (by first | decide | omega) rfl (R.pa_c (R.pv 1) R.ji)))
    (R.jk (R.qt PassesOwn.never rfl (R.JL (R.Jp K (R.pv 0))) (R.jV (i:=3) qI.nd rfl (Or.inl rfl)) (R.jr (R.jT (i:=2) qI.nd rfl (Or.inl rfl) (R.jz QL hr (by first | decide | omega) rfl (R.pa_c (R.pv 2) (R.pa_c (R.Qe (R.pv 3) YM hr (by first | decide | omega) (R.pa_c (R.pv 1) R.ji)) R.ji))))))
    (R.jr (R.jJ (R.pv 2))))),?_⟩
  obtain ⟨dx,lb,bs,e1,eA,e2,hB⟩:=hT
  obtain ⟨f1,f2⟩:=pow6 hn
  refine ⟨_,rfl,n,rfl,hn,fun l0 H1 s1 h0 w1=>?_⟩
  refine ⟨_,rfl,a,jd,dx,_,.ref lb,rfl,s1 _ _ e1,jA.cls,jA.no _ (Js 0 rfl),rfl,lb,rfl,⟨_,SqL.of (s1 _ _ e2)⟩,?_⟩
  refine yC (xs:=bs.map V.ref) (fun i σ H'=>Same H H' /\ ∃ l y,H l = none /\ H' l = some (.lst ((tab (qX true (ts.take i) fun _=>0) n).map V.int)) /\ σ = [some (.ref a),some (nv n),some (.ref l),y]) ?_ ?_ ?_ ?_
  · refine ⟨s1,l0,none,h0,?_,rfl⟩
    rw [List.take_zero,jah]; exact w1
  · rintro i σ H' _ ⟨s',_⟩; exact SqL.of (s' _ _ e2)
  · rintro i v σ H2 hv ⟨s2,l,y,hl,el,rfl⟩
    obtain ⟨b,t,rfl,hb,ht,ib⟩:=hB.at hv
    obtain ⟨C,dx',ff,sp,g1,g2,g3,g4⟩:=jc0 K (jc:=jc) hn (ib.same s2)
    refine ⟨_,rfl,_,rfl,b,C,dx',ff,sp,rfl,g1,g2,g3,_,rfl,g4 _ fun l3 H3 s3 h3 w3=>?_⟩
    refine ⟨l,l3,_,Qc t,n,rfl,hn,Zi true _ _ good0 (jfS okt i),Z1 t (za okt t (List.mem_of_getElem? ht)),SqL.of (s3 _ _ el),SqL.of w3,fun l4 H4 s4 h4 w4=>?_⟩
    refine ⟨(s2.trans s3).trans s4,l4,some (.ref b),(s2.trans s3).free h4,?_,rfl⟩
    rw [jaS true ts i t ht]; exact w4
  · rintro σ H2 ⟨s2,l,y,hl,el,rfl⟩
    rw [List.length_map,hB.1,List.take_length,<- zF] at el
    exact ⟨_,rfl,q l H2 s2 hl el⟩
theorem jdy (d:Nat) {f:Addr} {fd:FuncData} (F:Fun K "worths" "OneOf.worths" yp f fd)
    (j6:jK P w K mg base 1 "worths_of_nothing" ["many"] [] (JN K))
    (QJ:jK P w K mg base 1 "greater_of" ["one", "other"] [] (zN K))
    (jN:Own K mg "Bid" ju [])
    (jE:Own K mg "Only" jh ["bundle", "amount"])
    (jt:Own K mg "SoMany" jb ["kind", "least", "amount"])
    (jD:Own K mg "UpTo" jg ["kind", "most", "each"])
    (jx:Own K mg "Several" jc ["bids"])
    (jA:Own K mg "AnyOf" jd ["bids"])
    (jB:Own K mg "OneOf" je ["bids"])
    (jy:Own K mg "Stock" jf ["numbers", "kinds"])
    (YM:∀ C sp,TW K ju jh jb jg jc jd je jf d C sp->∃ ps,J3 P w K mg base (d + 6) C "worths" ps sp) :
    FnOk P w K mg base CX0 (d + 7) f fd ["self", "many"] (spW false ju jh jb jg jc jd je jf (d + 1)):=by
  refine F.okQ qJ (fun vs H Q E h=>?_) (fun cdv A outer s H vs Q E hr h=>?_)
  · obtain ⟨a,n,ts,A,rfl,_⟩:=h; rfl
  obtain ⟨a,n,ts,A,rfl,hn,hT,q⟩:=h
  have okt:=yD.mp (IsTr.ok _ hT)
  refine ⟨_,(R.jk (R.jT (i:=2) qJ.nd rfl (Or.inl rfl) (R.jz j6 hr (by first | decide | omega) rfl (R.pa_c (R.pv 1) R.ji)))
    (R.jk (R.qt PassesOwn.never rfl (R.JL (R.Jp K (R.pv 0))) (R.jV (i:=3) qJ.nd rfl (Or.inl rfl)) (R.jr (R.jT (i:=2) qJ.nd rfl (Or.inl rfl) (R.jz QJ hr (by first | decide | omega) rfl (R.pa_c (R.pv 2) (R.pa_c (R.Qe (R.pv 3) YM hr (by first | decide | omega) (R.pa_c (R.pv 1) R.ji)) R.ji))))))
    (R.jr (R.jJ (R.pv 2))))),?_⟩
  obtain ⟨dx,lb,bs,e1,eA,e2,hB⟩:=hT
  obtain ⟨f1,f2⟩:=pow6 hn
  refine ⟨_,rfl,n,rfl,hn,fun l0 H1 s1 h0 w1=>?_⟩
  refine ⟨_,rfl,a,je,dx,_,.ref lb,rfl,s1 _ _ e1,jB.cls,jB.no _ (Js 0 rfl),rfl,lb,rfl,⟨_,SqL.of (s1 _ _ e2)⟩,?_⟩
  refine yC (xs:=bs.map V.ref) (fun i σ H'=>Same H H' /\ ∃ l y,H l = none /\ H' l = some (.lst ((tab (qX false (ts.take i) fun _=>0) n).map V.int)) /\ σ = [some (.ref a),some (nv n),some (.ref l),y]) ?_ ?_ ?_ ?_
  · refine ⟨s1,l0,none,h0,?_,rfl⟩
    rw [List.take_zero,jah]; exact w1
  · rintro i σ H' _ ⟨s',_⟩; exact SqL.of (s' _ _ e2)
  · rintro i v σ H2 hv ⟨s2,l,y,hl,el,rfl⟩
    obtain ⟨b,t,rfl,hb,ht,ib⟩:=hB.at hv
    obtain ⟨C,dx',ff,sp,g1,g2,g3,g4⟩:=jc0 K (jc:=jc) hn (ib.same s2)
    refine ⟨_,rfl,_,rfl,b,C,dx',ff,sp,rfl,g1,g2,g3,_,rfl,g4 _ fun l3 H3 s3 h3 w3=>?_⟩
    refine ⟨l,l3,_,Qc t,n,rfl,hn,Zi false _ _ good0 (jfS okt i),Z1 t (za okt t (List.mem_of_getElem? ht)),SqL.of (s3 _ _ el),SqL.of w3,fun l4 H4 s4 h4 w4=>?_⟩
    refine ⟨(s2.trans s3).trans s4,l4,some (.ref b),(s2.trans s3).free h4,?_,rfl⟩
    rw [jaS false ts i t ht]; exact w4
  · rintro σ H2 ⟨s2,l,y,hl,el,rfl⟩
    rw [List.length_map,hB.1,List.take_length,<- zF] at el
    exact ⟨_,rfl,q l H2 s2 hl el⟩
theorem jjn {f1 f2 f3 f4 f5 f6:Addr} {d1 d2 d3 d4 d5 d6:FuncData} (F1:Fun K "worths" "Bid.worths" Yr f1 d1) (F2:Fun K "worths" "Only.worths" Qf f2 d2) (F3:Fun K "worths" "SoMany.worths" qH f3 d3) (F4:Fun K "worths" "UpTo.worths" Qg f4 d4)
    (F5:Fun K "worths" "AnyOf.worths" yo f5 d5) (F6:Fun K "worths" "OneOf.worths" yp f6 d6)
    (j6:jK P w K mg base 1 "worths_of_nothing" ["many"] [] (JN K))
    (qz:jK P w K mg base 1 "holds" ["one", "other"] [] (ZF K)) (qb:jK P w K mg base 3 "size_of" ["bundle"] [] (zY K))
    (QL:jK P w K mg base 5 "shared_out" ["one", "other"] [] (zO K))
    (QJ:jK P w K mg base 1 "greater_of" ["one", "other"] [] (zN K)) (jQ:mg "range" = none) (jbl:mg "min" = none)
    (jN:Own K mg "Bid" ju [])
    (jE:Own K mg "Only" jh ["bundle", "amount"])
    (jt:Own K mg "SoMany" jb ["kind", "least", "amount"])
    (jD:Own K mg "UpTo" jg ["kind", "most", "each"])
    (jx:Own K mg "Several" jc ["bids"])
    (jA:Own K mg "AnyOf" jd ["bids"])
    (jB:Own K mg "OneOf" je ["bids"])
    (jy:Own K mg "Stock" jf ["numbers", "kinds"])
    (M1:Meth K ju "worths" f1) (M2:Meth K jh "worths" f2) (M3:Meth K jb "worths" f3) (M4:Meth K jg "worths" f4) (M5:Meth K jd "worths" f5) (M6:Meth K je "worths" f6) :
    ∀ d,∀ C sp,TW K ju jh jb jg jc jd je jf d C sp->∃ ps,J3 P w K mg base (d + 6) C "worths" ps sp:=by
  have l1:=jbo (P:=P) (w:=w) (base:=base) (mg:=mg) F1 j6 jN jE jt jD jx jA jB jy
  have l2:=jav (P:=P) (w:=w) (base:=base) (mg:=mg) F2 jQ qz jN jE jt jD jx jA jB jy
  have l3:=Zr (P:=P) (w:=w) (base:=base) (mg:=mg) F3 jQ qb jN jE jt jD jx jA jB jy
  have l4:=jax (P:=P) (w:=w) (base:=base) (mg:=mg) F4 jbl jQ qb jN jE jt jD jx jA jB jy
  have b1:Binds K d1 ["self", "many"] []:=bnd2 F1 fun _ _ _ _ _ _ _ _=>rfl
  have b2:Binds K d2 ["self", "many"] []:=bnd2 F2 fun _ _ _ _ _ _ _ _=>rfl
  have b3:Binds K d3 ["self", "many"] []:=bnd2 F3 fun _ _ _ _ _ _ _ _=>rfl
  have b4:Binds K d4 ["self", "many"] []:=bnd2 F4 fun _ _ _ _ _ _ _ _=>rfl
  have b5:Binds K d5 ["self", "many"] []:=bnd2 F5 fun _ _ _ _ _ _ _ _=>rfl
  have b6:Binds K d6 ["self", "many"] []:=bnd2 F6 fun _ _ _ _ _ _ _ _=>rfl
  have put:∀ d,FnOk P w K mg base CX0 (d + 6) f5 d5 ["self", "many"] (spW true ju jh jb jg jc jd je jf d)->FnOk P w K mg base CX0 (d + 6) f6 d6 ["self", "many"] (spW false ju jh jb jg jc jd je jf d)->∀ C sp,TW K ju jh jb jg jc jd je jf d C sp->∃ ps,J3 P w K mg base (d + 6) C "worths" ps sp:=by
    intro d h5 h6 C sp hT
    rcases hT with ⟨rfl,rfl⟩ | ⟨rfl,rfl⟩ | ⟨rfl,rfl⟩ | ⟨rfl,rfl⟩ | ⟨rfl,rfl⟩ | ⟨rfl,rfl⟩
    · exact ⟨_,f1,d1,l1.mono (by omega),b1,M1,jN.cls⟩
    · exact ⟨_,f2,d2,l2.mono (by omega),b2,M2,jE.cls⟩
    · exact ⟨_,f3,d3,l3.mono (by omega),b3,M3,jt.cls⟩
    · exact ⟨_,f4,d4,l4.mono (by omega),b4,M4,jD.cls⟩
    · exact ⟨_,f5,d5,h5,b5,M5,jA.cls⟩
    · exact ⟨_,f6,d6,h6,b6,M6,jB.cls⟩
  intro d
  induction d with
  | zero =>
    refine put 0 (F5.okQ qI (fun vs H Q E h=>?_) (fun cdv A outer s H vs Q E hr h=>?_)) (F6.okQ qJ (fun vs H Q E h=>?_) (fun cdv A outer s H vs Q E hr h=>?_))
    · obtain ⟨a,n,ts,A,rfl,_⟩:=h; rfl
    · obtain ⟨a,n,ts,A,rfl,hn,hT,_⟩:=h; exact hT.elim
    · obtain ⟨a,n,ts,A,rfl,_⟩:=h; rfl
    · obtain ⟨a,n,ts,A,rfl,hn,hT,_⟩:=h; exact hT.elim
  | succ d ih=>exact put (d + 1) (jdx d F5 j6 QL jN jE jt jD jx jA jB jy ih) (jdy d F6 j6 QJ jN jE jt jD jx jA jB jy ih)
theorem jiO {f:Addr} {fd:FuncData} (F:Fun K "_law_shared" "_law_shared" jdb f fd) (jH:mg "_law_shared" = some (.ref f)) (jQ:mg "range" = none) (Je:mg "len" = none):jK P w K mg base 1 "_law_shared" ["_law_one", "_law_other"] [] (jcl K):=by
  refine F.jX jH (bnd2 F fun _ _ _ _ _ _ _ _=>rfl) Yc (fun vs H Q E h=>?_) (fun cdv A outer s H vs Q E hr h=>?_)
  · obtain ⟨a,b,g,h,n,rfl,_⟩:=h; rfl
  obtain ⟨a,b,g,h,n,rfl,hn,hg,hh,ha,hb,q⟩:=h
  obtain ⟨f1,f2⟩:=pow6 hn
  have ln:((tab g n).map V.int).length = 2 ^ n:=by rw [List.length_map,zu]
  refine ⟨_,(R.jk (R.jT (i:=2) Yc.nd rfl (Or.inl rfl) (R.JK R.ji))
    (R.jk (R.qt PassesOwn.never rfl (R.Jh rfl jQ (R.pa_c (R.Jz Ja rfl Je PySem.boot_len (R.pa_c (R.pv 0) R.ji)) R.ji)) (R.jV (i:=3) Yc.nd rfl (Or.inl rfl)) (R.jk (R.jT (i:=4) Yc.nd rfl (Or.inl rfl) R.jj)
      (R.jk (R.qt PassesOwn.never rfl (R.Jh rfl jQ (R.pa_c (R.jF JB (R.pv 3) R.jj) R.ji)) (R.jV (i:=5) Yc.nd rfl (Or.inl rfl)) (R.jr (R.j8 (R.pt (R.jcb (R.jP Jv (R.jF jee (R.pv 3) (R.pv 5)) (R.pv 3) (j5 _)) (R.ZV (R.jP jfZ (R.jF JB (R.jY (R.ixL K) (R.pv 0) (R.pv 5) (fun _ _=>rfl)) (R.jY (R.ixL K) (R.pv 1) (R.jF (opE0 jef) (R.pv 3) (R.pv 5)) (fun _ _=>rfl))) (R.pv 4) (j5 _))))) (R.jr (R.jT (i:=4) Yc.nd rfl (Or.inl rfl) (R.jF JB (R.jY (R.ixL K) (R.pv 0) (R.pv 5) (fun _ _=>rfl)) (R.jY (R.ixL K) (R.pv 1) (R.jF (opE0 jef) (R.pv 3) (R.pv 5)) (fun _ _=>rfl))))) R.jM)))
      (R.jr (R.JW (R.qC (R.pv 2) (R.pa_c (R.pv 4) R.ji)))))))
    (R.jr (R.jJ (R.pv 2))))),?_⟩
  refine ⟨(by show 0 <= sizeLine; decide),fun lf hf=>?_⟩
  have s0:=jC hf (.lst [])
  refine ⟨_,rfl,a,_,rfl,.inl (s0.seq ha),_,rfl,by omega,by omega,?_⟩
  rw [Int.toNat_natCast,ln]
  refine yX (n:=2 ^ n) (lo:=0) (fun i σ H'=>Same H H' /\ H' lf = some (.lst (((tab (conv g h) n).take i).map V.int)) /\ ∃ y3 y4 y5,σ = [some (.ref a),some (.ref b),some (.ref lf),y3,y4,y5]) ?_ ?_ ?_
  · exact ⟨s0,jq,_,_,_,rfl⟩
  · rintro x σ H1 hx ⟨s1,e1,y3,y4,y5,rfl⟩
    rw [Int.zero_add]
    have x64:x < 64:=by omega
    have ha1:=s1.seq ha
    have hb1:=s1.seq hb
    refine ⟨_,rfl,_,_,rfl,rfl,_,rfl,by omega,by omega,?_⟩
    rw [show ((x:Int) + 1).toNat = x + 1 by omega]
    refine yX (n:=x + 1) (lo:=0) (fun i σ H'=>H' = H1 /\ ∃ (m:Int) (y5:Option V),σ = [some (.ref a),some (.ref b),some (.ref lf),some (nv x),some (.int m),y5] /\ ZL (fun q=>x &&& q = q /\ q < i) (fun q=>g q + h (x - q)) m) ?_ ?_ ?_
    · exact ⟨rfl,0,_,rfl,⟨Int.le_refl _,fun q hq=>absurd hq.2 (Nat.not_lt_zero _),.inl rfl⟩⟩
    · rintro k σ H' hk ⟨rfl,m,y,rfl,top⟩
      rw [Int.zero_add]
      have stay:¬ x &&& k = k->ZL (fun q=>x &&& q = q /\ q < k + 1) (fun q=>g q + h (x - q)) m:=fun z=>by
        refine top.eqv fun q=>⟨fun w=>⟨w.1,?_⟩,fun w=>⟨w.1,by have:=w.2; omega⟩⟩
        have:q ≠ k:=fun e=>z (by rw [<- e]; exact w.1)
        have:=w.2; omega
      refine ⟨_,rfl,_,rfl,x,k,rfl,rfl,_,rfl,rfl,_,rfl,?_⟩
      rw [Zm]
      by_cases hk1:x &&& k = k
      · rw [decide_eq_true (sub_or.mpr hk1)]
        have grow:ZL (fun q=>x &&& q = q /\ q < k + 1) (fun q=>g q + h (x - q)) (if g k + h (x - k) > m then g k + h (x - k) else m):=by
          refine top.add k fun q=>⟨fun w=>?_,fun w=>?_⟩
          · by_cases e:q = k
            · exact .inr e
            · exact .inl ⟨w.1,by have:=w.2; omega⟩
          · rcases w with w | rfl
            · exact ⟨w.1,by have:=w.2; omega⟩
            · exact ⟨hk1,Nat.lt_succ_self _⟩
        have sb:V.int ((x:Int) - (k:Int)) = nv (x - k):=by show V.int _ = V.int ((x - k:Nat):Int); congr 1; omega
        refine iteT ⟨_,rfl,_,rfl,a,_,_,_,rfl,rfl,ha1,zE (by omega),_,rfl,_,rfl,_,rfl,_,_,nv (x - k),rfl,rfl,sb,b,_,_,_,rfl,rfl,hb1,zE (by omega),_,_,rfl,rfl,_,rfl,_,_,rfl,rfl,_,rfl,?_⟩
        by_cases c:m < g k + h (x - k)
        · rw [decide_eq_true c]
          refine iteT ⟨_,rfl,_,rfl,a,_,_,_,rfl,rfl,ha1,zE (by omega),_,rfl,_,rfl,_,rfl,_,_,nv (x - k),rfl,rfl,sb,b,_,_,_,rfl,rfl,hb1,zE (by omega),_,_,rfl,rfl,?_⟩
          rw [if_pos c] at grow
          exact ⟨rfl,_,_,rfl,grow⟩
        · rw [decide_eq_false c]
          rw [if_neg c] at grow
          exact iteF ⟨rfl,_,_,rfl,grow⟩
      · rw [decide_eq_false (fun e=>hk1 (sub_or.mp e))]
        exact iteF ⟨rfl,_,_,rfl,stay hk1⟩
    · rintro σ H' ⟨rfl,m,y,rfl,top⟩
      have em:m = conv g h x:=ZL.uniq (top.eqv (S':=fun q=>x &&& q = q) fun q=>⟨fun z=>⟨z,by have:q <= x:=(by rw [<- z]; exact Nat.and_le_left); omega⟩,fun z=>z.1⟩) (conv_top g h x)
      subst em
      refine ⟨_,rfl,.inl ⟨rfl,_,SqL.of e1⟩,_,rfl,lf,_,_,rfl,rfl,e1,?_,s1.upd hf _,?_,_,_,_,rfl⟩
      · rw [List.length_map,List.length_take]; exact Ji (by omega)
      · rw [jq,List.take_succ,jj9 hx,List.map_append]; rfl
  · rintro σ H1 ⟨s1,e1,y3,y4,y5,rfl⟩
    refine ⟨_,rfl,q lf H1 s1 hf ?_⟩
    rw [e1,List.take_of_length_le (by rw [zu]; exact Nat.le_refl _)]
theorem jjB (d:Nat) {f:Addr} {fd:FuncData} (F:Fun K "_law_table" "_law_table" YX f fd) (jH:mg "_law_table" = some (.ref f)) (jQ:mg "range" = none) (QQ:mg "max" = none) (Je:mg "len" = none)
    (jad:jK P w K mg base 2 "_law_gives" ["_law_form_here", "_law_bundle"] [] (jdj K))
    (Za:jK P w K mg base 1 "_law_shared" ["_law_one", "_law_other"] [] (jcl K)) (z6:jK P w K mg base (d + 3) "_law_table" ["_law_form_here", "_law_things"] [] (spTab d)):jK P w K mg base (d + 4) "_law_table" ["_law_form_here", "_law_things"] [] (spTab (d + 1)):=by
  refine F.jX jH (bnd2 F fun _ _ _ _ _ _ _ _=>rfl) Q5 (fun vs H Q E h=>?_) (fun cdv A outer s H vs Q E hr h=>?_)
  · obtain ⟨p,t,A,n,rfl,_⟩:=h; rfl
  obtain ⟨p,t,A,n,rfl,hn,hF,q⟩:=h
  have okt:=FT.ok _ hF
  obtain ⟨f1,f2⟩:=pow6 hn
  refine ⟨_,(R.jk (R.jkg (i:=2) Q5.nd rfl (Or.inr rfl) (R.Jj (jw YX) ["_law_form_here", "_law_things", "_law_found", "_law_part", "_law_table_here"] ["_law_bundle"] [] [] rfl rfl rfl ⟨s.heap.objs.size + 1,rfl⟩ rfl rfl (by decide +kernel) (R.Jh rfl jQ (R.pa_c (R.jF Qt R.jj (R.pv 1)) R.ji)) (fun C s2 H2 fp=>(R.jV (i:=0) (show List.Nodup (["_law_bundle"]:List Str) from by decide +kernel) rfl (Or.inl rfl))) (fun C s2 H2 fp=>R.JM) (fun C s2 H2 fp=>R.jj)))
    (R.jk (R.j8 (R.jP Jv (R.jY (R.ixT K) (R.pv 0) R.jj (fun _ _=>rfl)) R.jG (j5 _)) (R.jk (R.qt PassesOwn.never rfl (R.JL (R.jY (R.ixT K) (R.pv 0) R.jj (fun _ _=>rfl))) (R.jV (i:=3) Q5.nd rfl (Or.inl rfl)) (R.jr (R.jT (i:=2) Q5.nd rfl (Or.inr rfl) (R.jz Za hr (by first | decide | omega) rfl (R.pa_c (R.pv 2) (R.pa_c (R.jz z6 hr (by first | decide | omega) rfl (R.pa_c (R.pv 3) (R.pa_c (R.pv 1) R.ji))) R.ji))))))
      (R.jr (R.jJ (R.pv 2)))) R.jM)
    (R.jk (R.j8 (R.jP Jv (R.jY (R.ixT K) (R.pv 0) R.jj (fun _ _=>rfl)) R.jG (j5 _)) (R.jk (R.qt PassesOwn.never rfl (R.JL (R.jY (R.ixT K) (R.pv 0) R.jj (fun _ _=>rfl))) (R.jV (i:=3) Q5.nd rfl (Or.inl rfl)) (R.jk (R.jT (i:=4) Q5.nd rfl (Or.inr rfl) (R.jz z6 hr (by first | decide | omega) rfl (R.pa_c (R.pv 3) (R.pa_c (R.pv 1) R.ji))))
        (R.jr (R.jkg (i:=2) Q5.nd rfl (Or.inr rfl) (R.Jj (jw YX) ["_law_form_here", "_law_things", "_law_found", "_law_part", "_law_table_here"] ["_law_bundle"] ["_law_found", "_law_table_here"] [2,4] rfl rfl rfl ⟨s.heap.objs.size + 1,rfl⟩ rfl rfl (by decide +kernel) (R.Jh rfl jQ (R.pa_c (R.Jz Ja rfl Je PySem.boot_len (R.pa_c (R.pv 2) R.ji)) R.ji)) (fun C s2 H2 fp=>(R.jV (i:=0) (show List.Nodup (["_law_bundle", "_law_found", "_law_table_here"]:List Str) from by decide +kernel) rfl (Or.inl rfl))) (fun C s2 H2 fp=>R.JM) (fun C s2 H2 fp=>(R.Jz (jg4 rfl) rfl QQ (boot_max) (R.pa_c (R.jY (R.ixL K) (R.pv 1) (R.pv 0) (fun _ _=>rfl)) (R.pa_c (R.jY (R.ixL K) (R.pv 2) (R.pv 0) (fun _ _=>rfl)) R.ji)))))))))
      (R.jr (R.jJ (R.pv 2)))) R.jM)
    (R.jr (R.jJ (R.Jj (jw YX) ["_law_form_here", "_law_things", "_law_found", "_law_part", "_law_table_here"] ["_law_bundle"] ["_law_form_here"] [0] rfl rfl rfl ⟨s.heap.objs.size + 1,rfl⟩ rfl rfl (by decide +kernel) (R.Jh rfl jQ (R.pa_c (R.jF Qt R.jj (R.pv 1)) R.ji)) (fun C s2 H2 fp=>(R.jV (i:=0) (show List.Nodup (["_law_bundle", "_law_form_here"]:List Str) from by decide +kernel) rfl (Or.inl rfl))) (fun C s2 H2 fp=>R.JM) (fun C s2 H2 fp=>(R.jz jad hr (by first | decide | omega) rfl (R.pa_c (R.pv 1) (R.pa_c (R.pv 0) R.ji)))))))))),?_⟩
  refine ⟨_,rfl,n,rfl,rfl,by omega,_,rfl,(rng6 hn).1,(rng6 hn).2,fun l0 h0=>?_⟩
  rw [Int.toNat_natCast]
  refine Jl (n:=2 ^ n) (fun _=>true) (fun _=>V.int 0) (by omega) h0 ?_ ?_ ?_
  · intro k H1 hk s1 C hC; exact hC _ (Same.refl _)
  · intro k H1 hk _ s1 C hC; exact hC _ (Same.refl _)
  intro H1 s1 e1
  have w1:H1 l0 = some (.lst ((tab (fun _=>0) n).map V.int)):=by
    rw [e1,List.filter_eq_self.mpr (fun _ _=>rfl)]; unfold tab; rw [List.map_map]; rfl
  cases t with
  | leaf f =>
    obtain ⟨okf,fa⟩:=hF
    have fa':=fa
    obtain ⟨k0,m0,z0,hp,h63,fit⟩:=fa'
    have hp1:=s1 _ _ hp
    have nAny:decide (V.str (word f) = V.str "any") = false:=by cases f <;> rfl
    have nOne:decide (V.str (word f) = V.str "one") = false:=by cases f <;> rfl
    refine ⟨_,rfl,p,_,_,_,rfl,rfl,SqT.of hp1,rfl,rfl,_,rfl,?_⟩
    rw [nAny]
    refine iteF ⟨_,rfl,p,_,_,_,rfl,rfl,SqT.of hp1,rfl,rfl,_,rfl,?_⟩
    rw [nOne]
    refine iteF ⟨_,rfl,n,rfl,rfl,by omega,_,rfl,(rng6 hn).1,(rng6 hn).2,fun l2 h2=>?_⟩
    rw [Int.toNat_natCast]
    refine Jl (n:=2 ^ n) (fun _=>true) (fun x=>V.int (yf f x)) (by omega) h2 ?_ ?_ ?_
    · intro x H2 hx s2 C hC; exact hC _ (Same.refl _)
    · intro x H2 hx _ s2 C hC
      rw [Int.zero_add]
      exact ⟨_,rfl,_,rfl,p,f,x,rfl,okf,(fa.same s1).same s2,by omega,fun H3 s3=>hC _ s3⟩
    · intro H2 s2 e2
      refine q l2 H2 (s1.trans s2) (s1.free h2) ?_
      rw [e2,List.filter_eq_self.mpr (fun _ _=>rfl),jcs]; unfold tab; rw [List.map_map]; rfl
  | node any ts =>
    obtain ⟨lp,ps,hp,hA,hl,hPs⟩:=hF
    have okl:=yD.mp okt
    have hp1:=s1 _ _ hp
    cases any
    · refine ⟨_,rfl,p,_,_,_,rfl,rfl,SqT.of hp1,rfl,rfl,_,rfl,iteF ?_⟩
      refine ⟨_,rfl,p,_,_,_,rfl,rfl,SqT.of hp1,rfl,rfl,_,rfl,iteT ?_⟩
      refine ⟨_,rfl,p,_,_,_,rfl,rfl,SqT.of hp1,rfl,lp,rfl,⟨_,SqL.of (s1 _ _ hl)⟩,?_⟩
      refine yC (xs:=ps.map V.ref) (fun i σ H'=>Same H H' /\ ∃ l y3 y4,H l = none /\ H' l = some (.lst ((tab (qX false (ts.take i) fun _=>0) n).map V.int)) /\ σ = [some (.ref p),some (nv n),some (.ref l),y3,y4]) ?_ ?_ ?_ ?_
      · refine ⟨s1,l0,none,none,h0,?_,rfl⟩
        rw [List.take_zero,jah]; exact w1
      · rintro i σ H' _ ⟨s',_⟩; exact SqL.of (s' _ _ hl)
      · rintro i v σ H2 hv ⟨s2,l,y3,y4,hnl,el,rfl⟩
        obtain ⟨b,t,rfl,hb,ht,ib⟩:=hPs.at hv
        refine ⟨_,rfl,_,rfl,b,t,A,n,rfl,hn,ib.same s2,fun l3 H3 s3 h3 w3=>?_⟩
        have S3:=s2.trans s3
        have el3:=s3 _ _ el
        have ln:((tab (qX false (ts.take i) fun _=>0) n).map V.int).length = 2 ^ n:=by rw [List.length_map,zu]
        refine ⟨_,rfl,l,_,rfl,.inl (SqL.of el3),_,rfl,by omega,by omega,fun l4 h4=>?_⟩
        rw [Int.toNat_natCast,ln]
        refine Jl (n:=2 ^ n) (fun _=>true) (fun x=>V.int (mx (qX false (ts.take i) fun _=>0) (Qc t) x)) (by omega) h4 ?_ ?_ ?_
        · intro x H5 hx s5 C hC; exact hC _ (Same.refl _)
        · intro x H5 hx _ s5 C hC
          rw [Int.zero_add]
          exact ⟨_,rfl,_,rfl,l,_,_,_,rfl,rfl,SqL.of (s5 _ _ el3),zE hx,_,rfl,_,rfl,l3,_,_,_,rfl,rfl,SqL.of (s5 _ _ w3),zE hx,_,_,rfl,hC _ (Same.refl _)⟩
        · intro H5 s5 e5
          refine ⟨S3.trans s5,l4,some (.ref b),some (.ref l3),S3.free h4,?_,rfl⟩
          rw [e5,List.filter_eq_self.mpr (fun _ _=>rfl),jaS false ts i t ht]; unfold tab; rw [List.map_map]; rfl
      · rintro σ H2 ⟨s2,l,y3,y4,hnl,el,rfl⟩
        rw [List.length_map,hPs.1,List.take_length,<- zF] at el
        exact ⟨_,rfl,q l H2 s2 hnl el⟩
    · refine ⟨_,rfl,p,_,_,_,rfl,rfl,SqT.of hp1,rfl,rfl,_,rfl,iteT ?_⟩
      refine ⟨_,rfl,p,_,_,_,rfl,rfl,SqT.of hp1,rfl,lp,rfl,⟨_,SqL.of (s1 _ _ hl)⟩,?_⟩
      refine yC (xs:=ps.map V.ref) (fun i σ H'=>Same H H' /\ ∃ l y3 y4,H l = none /\ H' l = some (.lst ((tab (qX true (ts.take i) fun _=>0) n).map V.int)) /\ σ = [some (.ref p),some (nv n),some (.ref l),y3,y4]) ?_ ?_ ?_ ?_
      · refine ⟨s1,l0,none,none,h0,?_,rfl⟩
        rw [List.take_zero,jah]; exact w1
      · rintro i σ H' _ ⟨s',_⟩; exact SqL.of (s' _ _ hl)
      · rintro i v σ H2 hv ⟨s2,l,y3,y4,hnl,el,rfl⟩
        obtain ⟨b,t,rfl,hb,ht,ib⟩:=hPs.at hv
        refine ⟨_,rfl,_,rfl,_,rfl,b,t,A,n,rfl,hn,ib.same s2,fun l3 H3 s3 h3 w3=>?_⟩
        refine ⟨l,l3,_,Qc t,n,rfl,hn,Zi true _ _ good0 (jfS okl i),Z1 t (za okl t (List.mem_of_getElem? ht)),SqL.of (s3 _ _ el),SqL.of w3,fun l4 H4 s4 h4 w4=>?_⟩
        refine ⟨(s2.trans s3).trans s4,l4,some (.ref b),y4,(s2.trans s3).free h4,?_,rfl⟩
        rw [jaS true ts i t ht]; exact w4
      · rintro σ H2 ⟨s2,l,y3,y4,hnl,el,rfl⟩
        rw [List.length_map,hPs.1,List.take_length,<- zF] at el
        exact ⟨_,rfl,q l H2 s2 hnl el⟩
theorem jix {f:Addr} {fd:FuncData} (F:Fun K "_law_table" "_law_table" YX f fd) (jH:mg "_law_table" = some (.ref f)) (jQ:mg "range" = none) (QQ:mg "max" = none) (Je:mg "len" = none)
    (jad:jK P w K mg base 2 "_law_gives" ["_law_form_here", "_law_bundle"] [] (jdj K))
    (Za:jK P w K mg base 1 "_law_shared" ["_law_one", "_law_other"] [] (jcl K)):∀ d,jK P w K mg base (d + 3) "_law_table" ["_law_form_here", "_law_things"] [] (spTab d):=by
  intro d
  induction d with
  | zero =>
    refine F.jX jH (bnd2 F fun _ _ _ _ _ _ _ _=>rfl) Q5 (fun vs H Q E h=>?_) (fun cdv A outer s H vs Q E hr h=>?_)
    · obtain ⟨p,t,A,n,rfl,_⟩:=h; rfl
    · obtain ⟨p,t,A,n,rfl,hn,hT,_⟩:=h; exact hT.elim
  | succ d ih=>exact jjB d F jH jQ QQ Je jad Za ih
end
end My
set_option Elab.async false
set_option linter.all false
set_option maxRecDepth 100000
set_option maxHeartbeats 4000000
namespace My
open PySem PySem.Spec PyProof.Rows L2 GM
noncomputable def jbw (_K:PySem.W.Frag) (_c:Addr):Sp:=fun vs H Q _=>∃ a:Addr,vs = [.ref a] /\ Q (.int 0) H
noncomputable def jaD (_K:PySem.W.Frag) (c:Addr):Sp:=fun vs H Q _=>∃ (a dx:Addr) (b:Nat) (m:Int),vs = [.ref a] /\ H a = some (.ins c dx (jfF b m)) /\ Q (nv b) H
noncomputable def ZC (_K:PySem.W.Frag) (c:Addr):Sp:=fun vs H Q _=>∃ (a dx:Addr) (b k:Nat) (m:Int),vs = [.ref a] /\ H a = some (.ins c dx (jfG b k m)) /\ Q (nv b) H
noncomputable def jaF (_K:PySem.W.Frag) (c:Addr):Sp:=fun vs H Q _=>∃ (a dx:Addr) (b k:Nat) (m:Int),vs = [.ref a] /\ H a = some (.ins c dx (jfE b k m)) /\ Q (nv b) H
noncomputable def T3 (K:PySem.W.Frag) (ju jh jb jg jc jd je jf:Addr) (d:Nat):Addr->Sp->Prop:=fun C sp=>(C = ju /\ sp = jbw K ju) ∨ (C = jh /\ sp = jaD K jh) ∨ (C = jb /\ sp = ZC K jb) ∨ (C = jg /\ sp = jaF K jg) ∨ ((C = jd ∨ C = je) /\ sp = jeH Jb ju jh jb jg jc jd je jf d)
noncomputable def T_spoken (K:PySem.W.Frag) (ju jh jb jg jc jd je jf:Addr):Addr->Sp->Prop:=T3 K ju jh jb jg jc jd je jf 5
noncomputable def jbv (val:Tr->Nat) (d:Nat):Sp:=fun vs H Q _=>∃ (p:Addr) (t:Tr) (A:Addr->Prop),vs = [.ref p] /\ FT A H d p t /\ jW t <= 100 /\ ∀ H',Same H H'->Q (nv (val t)) H'
noncomputable def jjN (_K:PySem.W.Frag):Sp:=jbv j9 5
noncomputable def jjP (_K:PySem.W.Frag):Sp:=jbv jW 5
noncomputable def jiY (_K:PySem.W.Frag):Sp:=jbv Jb 5
section
variable {P:Program} {w:World} {K:PySem.W.Frag} {mg:Str->Option Value} {base:Heap}
variable {ju jh jb jg jc jd je jf:Addr}
theorem jbn {f:Addr} {fd:FuncData} (F:Fun K "spoken" "Bid.spoken" Yq f fd)
    (jN:Own K mg "Bid" ju [])
    (jE:Own K mg "Only" jh ["bundle", "amount"])
    (jt:Own K mg "SoMany" jb ["kind", "least", "amount"])
    (jD:Own K mg "UpTo" jg ["kind", "most", "each"])
    (jx:Own K mg "Several" jc ["bids"])
    (jA:Own K mg "AnyOf" jd ["bids"])
    (jB:Own K mg "OneOf" je ["bids"])
    (jy:Own K mg "Stock" jf ["numbers", "kinds"]):FnOk P w K mg base CX0 1 f fd ["self"] (jbw K ju):=by
  refine F.okQ jeV (fun vs H Q E h=>?_) (fun cdv A outer s H vs Q E hr h=>?_)
  · obtain ⟨a,rfl,_⟩:=h; rfl
  obtain ⟨a,rfl,q⟩:=h
  refine ⟨_,(R.jr (R.jJ R.jj)),?_⟩
  exact q
theorem jau {f:Addr} {fd:FuncData} (F:Fun K "spoken" "Only.spoken" yJ f fd)
    (jN:Own K mg "Bid" ju [])
    (jE:Own K mg "Only" jh ["bundle", "amount"])
    (jt:Own K mg "SoMany" jb ["kind", "least", "amount"])
    (jD:Own K mg "UpTo" jg ["kind", "most", "each"])
    (jx:Own K mg "Several" jc ["bids"])
    (jA:Own K mg "AnyOf" jd ["bids"])
    (jB:Own K mg "OneOf" je ["bids"])
    (jy:Own K mg "Stock" jf ["numbers", "kinds"]):FnOk P w K mg base CX0 1 f fd ["self"] (jaD K jh):=by
  refine F.okQ jem (fun vs H Q E h=>?_) (fun cdv A outer s H vs Q E hr h=>?_)
  · obtain ⟨a,dx,b,m,rfl,_⟩:=h; rfl
  obtain ⟨a,dx,b,m,rfl,e,q⟩:=h
  refine ⟨_,(R.jr (R.jJ (R.Jp K (R.pv 0)))),?_⟩
  exact ⟨_,rfl,a,jh,dx,_,nv b,rfl,e,jE.cls,jE.no _ (Js 0 rfl),rfl,q⟩
theorem Zq {f:Addr} {fd:FuncData} (F:Fun K "spoken" "SoMany.spoken" Qx f fd)
    (jN:Own K mg "Bid" ju [])
    (jE:Own K mg "Only" jh ["bundle", "amount"])
    (jt:Own K mg "SoMany" jb ["kind", "least", "amount"])
    (jD:Own K mg "UpTo" jg ["kind", "most", "each"])
    (jx:Own K mg "Several" jc ["bids"])
    (jA:Own K mg "AnyOf" jd ["bids"])
    (jB:Own K mg "OneOf" je ["bids"])
    (jy:Own K mg "Stock" jf ["numbers", "kinds"]):FnOk P w K mg base CX0 1 f fd ["self"] (ZC K jb):=by
  refine F.okQ jde (fun vs H Q E h=>?_) (fun cdv A outer s H vs Q E hr h=>?_)
  · obtain ⟨a,dx,b,k,m,rfl,_⟩:=h; rfl
  obtain ⟨a,dx,b,k,m,rfl,e,q⟩:=h
  refine ⟨_,(R.jr (R.jJ (R.Jp K (R.pv 0)))),?_⟩
  exact ⟨_,rfl,a,jb,dx,_,nv b,rfl,e,jt.cls,jt.no _ (Js 0 rfl),rfl,q⟩
theorem jaw {f:Addr} {fd:FuncData} (F:Fun K "spoken" "UpTo.spoken" yK f fd)
    (jN:Own K mg "Bid" ju [])
    (jE:Own K mg "Only" jh ["bundle", "amount"])
    (jt:Own K mg "SoMany" jb ["kind", "least", "amount"])
    (jD:Own K mg "UpTo" jg ["kind", "most", "each"])
    (jx:Own K mg "Several" jc ["bids"])
    (jA:Own K mg "AnyOf" jd ["bids"])
    (jB:Own K mg "OneOf" je ["bids"])
    (jy:Own K mg "Stock" jf ["numbers", "kinds"]):FnOk P w K mg base CX0 1 f fd ["self"] (jaF K jg):=by
  refine F.okQ jep (fun vs H Q E h=>?_) (fun cdv A outer s H vs Q E hr h=>?_)
  · obtain ⟨a,dx,b,k,m,rfl,_⟩:=h; rfl
  obtain ⟨a,dx,b,k,m,rfl,e,q⟩:=h
  refine ⟨_,(R.jr (R.jJ (R.Jp K (R.pv 0)))),?_⟩
  exact ⟨_,rfl,a,jg,dx,_,nv b,rfl,e,jD.cls,jD.no _ (Js 0 rfl),rfl,q⟩
theorem jfp (K:PySem.W.Frag) {ju jh jb jg jc jd je jf:Addr} {A:Addr->Prop} {H:Hp} {d:Nat} {b:Addr} {t:Tr} (hb:IsTr ju jh jb jg jd je A H d b t) (few:jW t <= 100) :
    ∃ (C dx:Addr) (fs:List (Str × V)) (sp:Sp),H b = some (.ins C dx fs) /\ fs.lookup ("spoken" : Str) = none /\ T3 K ju jh jb jg jc jd je jf d C sp /\ ∀ Q:VK,(∀ H',Same H H'->Q (nv (Jb t)) H')->sp [.ref b] H Q E0:=by
  cases d with
  | zero=>exact hb.elim
  | succ d =>
    cases t with
    | leaf f =>
      obtain ⟨_,hb⟩:=hb
      cases f <;> obtain ⟨dx,e⟩:=hb
      · exact ⟨_,dx,_,_,e,rfl,.inl ⟨rfl,rfl⟩,fun Q q=>⟨b,rfl,q H (Same.refl H)⟩⟩
      · exact ⟨_,dx,_,_,e,rfl,.inr (.inl ⟨rfl,rfl⟩),fun Q q=>⟨b,dx,_,_,rfl,e,q H (Same.refl H)⟩⟩
      · exact ⟨_,dx,_,_,e,rfl,.inr (.inr (.inl ⟨rfl,rfl⟩)),fun Q q=>⟨b,dx,_,_,_,rfl,e,q H (Same.refl H)⟩⟩
      · exact ⟨_,dx,_,_,e,rfl,.inr (.inr (.inr (.inl ⟨rfl,rfl⟩))),fun Q q=>⟨b,dx,_,_,_,rfl,e,q H (Same.refl H)⟩⟩
    | node any ts =>
      have hb':=hb
      obtain ⟨dx,l,bs,e1,e2,e3,e4⟩:=hb
      have few2:jR ts <= 100:=by have:1 + jR ts <= 100:=few; omega
      refine ⟨_,dx,_,_,e1,rfl,.inr (.inr (.inr (.inr ⟨?_,rfl⟩))),fun Q q=>⟨b,any,ts,A,rfl,hb',few2,q⟩⟩
      cases any
      · exact .inr rfl
      · exact .inl rfl
theorem jcE (d:Nat) {f:Addr} {fd:FuncData} (F:Fun K "spoken" "Several.spoken" qZ f fd) (jaj:∀ C sp,T3 K ju jh jb jg jc jd je jf d C sp->∃ ps,J3 P w K mg base (d + 1) C "spoken" ps sp)
    (jN:Own K mg "Bid" ju [])
    (jE:Own K mg "Only" jh ["bundle", "amount"])
    (jt:Own K mg "SoMany" jb ["kind", "least", "amount"])
    (jD:Own K mg "UpTo" jg ["kind", "most", "each"])
    (jx:Own K mg "Several" jc ["bids"])
    (jA:Own K mg "AnyOf" jd ["bids"])
    (jB:Own K mg "OneOf" je ["bids"])
    (jy:Own K mg "Stock" jf ["numbers", "kinds"]) :
    FnOk P w K mg base CX0 (d + 2) f fd ["self"] (jeH Jb ju jh jb jg jc jd je jf (d + 1)):=by
  refine F.okQ J4 (fun vs H Q E h=>?_) (fun cdv A outer s H vs Q E hr h=>?_)
  · obtain ⟨a,any,ts,A,rfl,_⟩:=h; rfl
  obtain ⟨a,any,ts,A,rfl,hT,few,q⟩:=h
  obtain ⟨dx,l,bs,e1,e2,e3,e4⟩:=hT
  obtain ⟨hc,hn⟩:=own2 jN jE jt jD jx jA jB jy any
  refine ⟨_,(R.jk (R.jT (i:=1) J4.nd rfl (Or.inl rfl) R.jj)
    (R.jk (R.qt PassesOwn.never rfl (R.JL (R.Jp K (R.pv 0))) (R.jV (i:=2) J4.nd rfl (Or.inl rfl)) (R.jr (R.jT (i:=1) J4.nd rfl (Or.inl rfl) (R.jF jee (R.pv 1) (R.ym (R.pv 2) jaj hr (by first | decide | omega))))))
    (R.jr (R.jJ (R.pv 1))))),?_⟩
  refine ⟨_,rfl,a,_,dx,_,.ref l,rfl,e1,hc,hn,rfl,l,rfl,⟨_,SqL.of e3⟩,?_⟩
  refine yC (xs:=bs.map V.ref) (fun i σ H'=>Same H H' /\ ∃ y,σ = [some (.ref a),some (nv (Jg (ts.take i))),y]) ?_ ?_ ?_ ?_
  · exact ⟨Same.refl _,_,rfl⟩
  · rintro i σ H' _ ⟨s',_⟩; exact SqL.of (s' _ _ e3)
  · rintro i v σ H1 hv ⟨s1,y,rfl⟩
    obtain ⟨b,t,rfl,hb,ht,ib⟩:=e4.at hv
    have mt:=qD (List.mem_of_getElem? ht)
    obtain ⟨C,dx',ff,sp,g1,g2,g3,g4⟩:=jfp K (jc:=jc) (ib.same s1) (by omega)
    refine ⟨_,rfl,_,rfl,b,C,dx',ff,sp,rfl,g1,g2,g3,g4 _ fun H3 s3=>⟨_,_,rfl,rfl,s1.trans s3,some (.ref b),?_⟩⟩
    rw [ja9 ts i t ht]; rfl
  · rintro σ H1 ⟨s1,y,rfl⟩
    refine ⟨_,rfl,?_⟩
    rw [List.length_map,e4.1,List.take_length]
    exact q _ s1
theorem jjm {fB fS f2 f3 f4:Addr} {dB dS d2 d3 d4:FuncData} (FB:Fun K "spoken" "Bid.spoken" Yq fB dB) (FS:Fun K "spoken" "Several.spoken" qZ fS dS)
    (F2:Fun K "spoken" "Only.spoken" yJ f2 d2) (F3:Fun K "spoken" "SoMany.spoken" Qx f3 d3) (F4:Fun K "spoken" "UpTo.spoken" yK f4 d4)
    (jN:Own K mg "Bid" ju [])
    (jE:Own K mg "Only" jh ["bundle", "amount"])
    (jt:Own K mg "SoMany" jb ["kind", "least", "amount"])
    (jD:Own K mg "UpTo" jg ["kind", "most", "each"])
    (jx:Own K mg "Several" jc ["bids"])
    (jA:Own K mg "AnyOf" jd ["bids"])
    (jB:Own K mg "OneOf" je ["bids"])
    (jy:Own K mg "Stock" jf ["numbers", "kinds"])
    (M1:Meth K ju "spoken" fB) (M2:Meth K jh "spoken" f2) (M3:Meth K jb "spoken" f3) (M4:Meth K jg "spoken" f4) (M5:Meth K jd "spoken" fS) (M6:Meth K je "spoken" fS) :
    ∀ d,∀ C sp,T3 K ju jh jb jg jc jd je jf d C sp->∃ ps,J3 P w K mg base (d + 1) C "spoken" ps sp:=by
  have l1:=jbn (P:=P) (w:=w) (base:=base) (mg:=mg) FB jN jE jt jD jx jA jB jy
  have l2:=jau (P:=P) (w:=w) (base:=base) (mg:=mg) F2 jN jE jt jD jx jA jB jy
  have l3:=Zq (P:=P) (w:=w) (base:=base) (mg:=mg) F3 jN jE jt jD jx jA jB jy
  have l4:=jaw (P:=P) (w:=w) (base:=base) (mg:=mg) F4 jN jE jt jD jx jA jB jy
  have bB:Binds K dB ["self"] []:=bnd1 FB fun _ _ _ _ _ _ _=>rfl
  have b2:Binds K d2 ["self"] []:=bnd1 F2 fun _ _ _ _ _ _ _=>rfl
  have b3:Binds K d3 ["self"] []:=bnd1 F3 fun _ _ _ _ _ _ _=>rfl
  have b4:Binds K d4 ["self"] []:=bnd1 F4 fun _ _ _ _ _ _ _=>rfl
  have bS:Binds K dS ["self"] []:=bnd1 FS fun _ _ _ _ _ _ _=>rfl
  have put:∀ d,FnOk P w K mg base CX0 (d + 1) fS dS ["self"] (jeH Jb ju jh jb jg jc jd je jf d)->∀ C sp,T3 K ju jh jb jg jc jd je jf d C sp->∃ ps,J3 P w K mg base (d + 1) C "spoken" ps sp:=by
    intro d hS C sp hT
    rcases hT with ⟨rfl,rfl⟩ | ⟨rfl,rfl⟩ | ⟨rfl,rfl⟩ | ⟨rfl,rfl⟩ | ⟨hC,rfl⟩
    · exact ⟨_,fB,dB,l1.mono (by omega),bB,M1,jN.cls⟩
    · exact ⟨_,f2,d2,l2.mono (by omega),b2,M2,jE.cls⟩
    · exact ⟨_,f3,d3,l3.mono (by omega),b3,M3,jt.cls⟩
    · exact ⟨_,f4,d4,l4.mono (by omega),b4,M4,jD.cls⟩
    · rcases hC with rfl | rfl
      · exact ⟨_,fS,dS,hS,bS,M5,jA.cls⟩
      · exact ⟨_,fS,dS,hS,bS,M6,jB.cls⟩
  intro d
  induction d with
  | zero =>
    refine put 0 (FS.okQ J4 (fun vs H Q E h=>?_) (fun cdv A outer s H vs Q E hr h=>?_))
    · obtain ⟨a,any,ts,A,rfl,_⟩:=h; rfl
    · obtain ⟨a,any,ts,A,rfl,hT,_⟩:=h; exact hT.elim
  | succ d ih=>exact put (d + 1) (jcE d FS ih jN jE jt jD jx jA jB jy)
theorem jjw (d:Nat) {f:Addr} {fd:FuncData} (F:Fun K "_law_depth" "_law_depth" jay f fd) (jH:mg "_law_depth" = some (.ref f)) (QQ:mg "max" = none) (jac:jK P w K mg base (d + 1) "_law_depth" ["_law_form_here"] [] (jbv j9 d)):jK P w K mg base (d + 2) "_law_depth" ["_law_form_here"] [] (jbv j9 (d + 1)):=by
  refine F.jX jH (bnd1 F fun _ _ _ _ _ _ _=>rfl) jgg (fun vs H Q E h=>?_) (fun cdv A outer s H vs Q E hr h=>?_)
  · obtain ⟨p,t,A,rfl,_⟩:=h; rfl
  obtain ⟨p,t,A,rfl,hF,few,q⟩:=h
  refine ⟨_,(R.jk (R.j8 (R.jP ja0 (R.jY qR (R.pv 0) R.jj (fun _ _=>rfl)) (R.Qo (R.pa_c R.jG (R.pa_c R.jG R.ji))) (by with_unfolding_all rfl)) (R.jr (R.jJ R.jj)) R.jM)
    (R.jr (R.jJ (R.jF (opE0 JB) R.jj (R.jfd K rfl rfl QQ (R.Jj (jw jay) ["_law_form_here"] ["_law_part"] [] [] rfl rfl rfl ⟨s.heap.objs.size + 1,rfl⟩ rfl rfl (by decide +kernel) (R.JL (R.jY qR (R.pv 0) R.jj (fun _ _=>rfl))) (fun C s2 H2 fp=>(R.jV (i:=0) (show List.Nodup (["_law_part"]:List Str) from by decide +kernel) rfl (Or.inl rfl))) (fun C s2 H2 fp=>R.JM) (fun C s2 H2 fp=>(R.jz jac hr (by first | decide | omega) rfl (R.pa_c (R.pv 0) R.ji)))) R.jj))))),?_⟩
  cases t with
  | leaf f =>
    obtain ⟨okf,k0,l0,z0,hp,h63,fit⟩:=hF
    cases f <;> (refine ⟨_,rfl,p,_,_,_,rfl,rfl,SqT.of hp,rfl,(by show 2 <= sizeLine; decide),fun pt hpt=>⟨pt,_,rfl,.inr (SqT.of jq),rfl,rfl,_,rfl,iteT ?_⟩⟩) <;> exact q _ (jC hpt _)
  | node any ts =>
    obtain ⟨l,ps,hp,hA,hl,hPs⟩:=hF
    have few':1 + jR ts <= 100:=few
    have tl:=Ql ts
    cases any <;> (refine ⟨_,rfl,p,_,_,_,rfl,rfl,SqT.of hp,rfl,(by show 2 <= sizeLine; decide),fun pt hpt=>⟨pt,_,rfl,.inr (SqT.of jq),rfl,rfl,_,rfl,iteF ?_⟩⟩)
    all_goals
      have s0:=jC hpt (.tup [V.str "any",V.str "one"])
      refine ⟨_,rfl,p,_,_,_,rfl,rfl,SqT.of (s0 _ _ hp),rfl,l,rfl,⟨_,SqL.of (s0 _ _ hl)⟩,fun l2 h2=>?_⟩
      refine yh (xs:=ps.map V.ref) (fun k H'=>Same (upd H pt (.tup [V.str "any",V.str "one"])) H' /\ H' l2 = some (.lst (((ts.take k).map fun t=>((j9 t:Nat):Int)).map V.int))) ⟨jC h2 _,jq⟩ (fun k H' _ ⟨s',_⟩=>SqL.of (s' _ _ (s0 _ _ hl))) (fun k v H1 hv=>?_) (fun H1=>?_)
      rintro ⟨s1,e1⟩ K1 K0 k1 k0
      obtain ⟨b,t,rfl,hb,ht,ib⟩:=hPs.at hv
      have mt:=qD (List.mem_of_getElem? ht)
      refine ⟨_,rfl,b,t,A,rfl,(ib.same s0).same s1,by omega,fun H3 s3=>k1 _ _ _ (s3 _ _ e1) ?_ ⟨(s1.trans s3).upd h2 _,?_⟩⟩
      rw [List.length_map,List.length_map,List.length_take]; exact Ji (by omega)
      rw [jq,List.take_succ,ht,List.map_append,List.map_append]; rfl
      rintro ⟨s1,e1⟩
      rw [List.length_map,hPs.1,List.take_length] at e1
      refine ⟨l2,_,0,rfl,rfl,SqL.of e1,fun e0=>⟨_,_,nv (1 + j7 ts),rfl,rfl,?_,q H1 (s0.trans s1)⟩,fun m hm=>⟨_,_,nv (1 + j7 ts),rfl,rfl,?_,q H1 (s0.trans s1)⟩⟩
      · have:ts = []:=List.map_eq_nil_iff.mp e0
        subst this; rfl
      · rw [jfy hm]; show V.int (1 + ((j7 ts:Nat):Int)) = V.int ((1 + j7 ts:Nat):Int)
        congr 1
theorem jiw {f:Addr} {fd:FuncData} (F:Fun K "_law_depth" "_law_depth" jay f fd) (jH:mg "_law_depth" = some (.ref f)) (QQ:mg "max" = none):∀ d,jK P w K mg base (d + 1) "_law_depth" ["_law_form_here"] [] (jbv j9 d):=by
  intro d
  induction d with
  | zero =>
    refine F.jX jH (bnd1 F fun _ _ _ _ _ _ _=>rfl) jgg (fun vs H Q E h=>?_) (fun cdv A outer s H vs Q E hr h=>?_)
    · obtain ⟨p,t,A,rfl,_⟩:=h; rfl
    · obtain ⟨p,t,A,rfl,hT,_⟩:=h; exact hT.elim
  | succ d ih=>exact jjw d F jH QQ ih
theorem jjC (d:Nat) {f:Addr} {fd:FuncData} (F:Fun K "_law_tally" "_law_tally" jaz f fd) (jH:mg "_law_tally" = some (.ref f)) (QR:mg "sum" = none) (jaf:jK P w K mg base (d + 1) "_law_tally" ["_law_form_here"] [] (jbv jW d)):jK P w K mg base (d + 2) "_law_tally" ["_law_form_here"] [] (jbv jW (d + 1)):=by
  refine F.jX jH (bnd1 F fun _ _ _ _ _ _ _=>rfl) jgj (fun vs H Q E h=>?_) (fun cdv A outer s H vs Q E hr h=>?_)
  · obtain ⟨p,t,A,rfl,_⟩:=h; rfl
  obtain ⟨p,t,A,rfl,hF,few,q⟩:=h
  refine ⟨_,(R.jk (R.j8 (R.jP ja0 (R.jY qR (R.pv 0) R.jj (fun _ _=>rfl)) (R.Qo (R.pa_c R.jG (R.pa_c R.jG R.ji))) (by with_unfolding_all rfl)) (R.jr (R.jJ R.jj)) R.jM)
    (R.jr (R.jJ (R.jF (opE0 JB) R.jj (R.Jz (jai rfl) rfl QR (boot_sum) (R.pa_c (R.Jj (jw jaz) ["_law_form_here"] ["_law_part"] [] [] rfl rfl rfl ⟨s.heap.objs.size + 1,rfl⟩ rfl rfl (by decide +kernel) (R.JL (R.jY qR (R.pv 0) R.jj (fun _ _=>rfl))) (fun C s2 H2 fp=>(R.jV (i:=0) (show List.Nodup (["_law_part"]:List Str) from by decide +kernel) rfl (Or.inl rfl))) (fun C s2 H2 fp=>R.JM) (fun C s2 H2 fp=>(R.jz jaf hr (by first | decide | omega) rfl (R.pa_c (R.pv 0) R.ji)))) R.ji)))))),?_⟩
  cases t with
  | leaf f =>
    obtain ⟨okf,k0,l0,z0,hp,h63,fit⟩:=hF
    cases f <;> (refine ⟨_,rfl,p,_,_,_,rfl,rfl,SqT.of hp,rfl,(by show 2 <= sizeLine; decide),fun pt hpt=>⟨pt,_,rfl,.inr (SqT.of jq),rfl,rfl,_,rfl,iteT ?_⟩⟩) <;> exact q _ (jC hpt _)
  | node any ts =>
    obtain ⟨l,ps,hp,hA,hl,hPs⟩:=hF
    have few':1 + jR ts <= 100:=few
    have tl:=Ql ts
    cases any <;> (refine ⟨_,rfl,p,_,_,_,rfl,rfl,SqT.of hp,rfl,(by show 2 <= sizeLine; decide),fun pt hpt=>⟨pt,_,rfl,.inr (SqT.of jq),rfl,rfl,_,rfl,iteF ?_⟩⟩)
    all_goals
      have s0:=jC hpt (.tup [V.str "any",V.str "one"])
      refine ⟨_,rfl,p,_,_,_,rfl,rfl,SqT.of (s0 _ _ hp),rfl,l,rfl,⟨_,SqL.of (s0 _ _ hl)⟩,fun l2 h2=>?_⟩
      refine yh (xs:=ps.map V.ref) (fun k H'=>Same (upd H pt (.tup [V.str "any",V.str "one"])) H' /\ H' l2 = some (.lst (((ts.take k).map fun t=>((jW t:Nat):Int)).map V.int))) ⟨jC h2 _,jq⟩ (fun k H' _ ⟨s',_⟩=>SqL.of (s' _ _ (s0 _ _ hl))) (fun k v H1 hv=>?_) (fun H1=>?_)
      rintro ⟨s1,e1⟩ K1 K0 k1 k0
      obtain ⟨b,t,rfl,hb,ht,ib⟩:=hPs.at hv
      have mt:=qD (List.mem_of_getElem? ht)
      refine ⟨_,rfl,b,t,A,rfl,(ib.same s0).same s1,by omega,fun H3 s3=>k1 _ _ _ (s3 _ _ e1) ?_ ⟨(s1.trans s3).upd h2 _,?_⟩⟩
      rw [List.length_map,List.length_map,List.length_take]; exact Ji (by omega)
      rw [jq,List.take_succ,ht,List.map_append,List.map_append]; rfl
      rintro ⟨s1,e1⟩
      rw [List.length_map,hPs.1,List.take_length] at e1
      refine ⟨l2,_,rfl,SqL.of e1,_,_,nv (1 + jR ts),rfl,rfl,?_,q H1 (s0.trans s1)⟩
      rw [<- jdl]; show V.int (1 + ((jR ts:Nat):Int)) = V.int ((1 + jR ts:Nat):Int)
      congr 1
theorem jiy {f:Addr} {fd:FuncData} (F:Fun K "_law_tally" "_law_tally" jaz f fd) (jH:mg "_law_tally" = some (.ref f)) (QR:mg "sum" = none):∀ d,jK P w K mg base (d + 1) "_law_tally" ["_law_form_here"] [] (jbv jW d):=by
  intro d
  induction d with
  | zero =>
    refine F.jX jH (bnd1 F fun _ _ _ _ _ _ _=>rfl) jgj (fun vs H Q E h=>?_) (fun cdv A outer s H vs Q E hr h=>?_)
    · obtain ⟨p,t,A,rfl,_⟩:=h; rfl
    · obtain ⟨p,t,A,rfl,hT,_⟩:=h; exact hT.elim
  | succ d ih=>exact jjC d F jH QR ih
theorem jiP (d:Nat) {f:Addr} {fd:FuncData} (F:Fun K "_law_spoken" "_law_spoken" ja4 f fd) (jH:mg "_law_spoken" = some (.ref f)) (Zb:jK P w K mg base (d + 1) "_law_spoken" ["_law_form_here"] [] (jbv Jb d)):jK P w K mg base (d + 2) "_law_spoken" ["_law_form_here"] [] (jbv Jb (d + 1)):=by
  refine F.jX jH (bnd1 F fun _ _ _ _ _ _ _=>rfl) zB (fun vs H Q E h=>?_) (fun cdv A outer s H vs Q E hr h=>?_)
  · obtain ⟨p,t,A,rfl,_⟩:=h; rfl
  obtain ⟨p,t,A,rfl,hF,few,q⟩:=h
  refine ⟨_,(R.jk (R.j8 (R.jP Jv (R.jY qR (R.pv 0) R.jj (fun _ _=>rfl)) R.jG (j5 _)) (R.jr (R.jJ R.jj)) R.jM)
    (R.jk (R.j8 (R.jP ja0 (R.jY qR (R.pv 0) R.jj (fun _ _=>rfl)) (R.Qo (R.pa_c R.jG (R.pa_c R.jG R.ji))) (by with_unfolding_all rfl)) (R.jr (R.jJ (R.jY qR (R.pv 0) R.jj (fun _ _=>rfl)))) R.jM)
    (R.jk (R.jT (i:=1) zB.nd rfl (Or.inl rfl) R.jj)
    (R.jk (R.qt PassesOwn.never rfl (R.JL (R.jY qR (R.pv 0) R.jj (fun _ _=>rfl))) (R.jV (i:=2) zB.nd rfl (Or.inl rfl)) (R.jr (R.jT (i:=1) zB.nd rfl (Or.inl rfl) (R.jF jee (R.pv 1) (R.jz Zb hr (by first | decide | omega) rfl (R.pa_c (R.pv 2) R.ji))))))
    (R.jr (R.jJ (R.pv 1))))))),?_⟩
  cases t with
  | leaf f =>
    obtain ⟨okf,k0,l0,z0,hp,h63,fit⟩:=hF
    cases f with
    | none=>exact ⟨_,rfl,p,_,_,_,rfl,rfl,SqT.of hp,rfl,rfl,_,rfl,iteT (q _ (Same.refl _))⟩
    | only b m =>
      obtain ⟨rfl,rfl⟩:=fit
      refine ⟨_,rfl,p,_,_,_,rfl,rfl,SqT.of hp,rfl,rfl,_,rfl,iteF ?_⟩
      refine ⟨_,rfl,p,_,_,_,rfl,rfl,SqT.of hp,rfl,(by show 2 <= sizeLine; decide),fun pt hpt=>⟨pt,_,rfl,.inr (SqT.of jq),rfl,rfl,_,rfl,iteT ?_⟩⟩
      exact ⟨_,rfl,p,_,_,_,rfl,rfl,SqT.of (jC hpt _ _ _ hp),rfl,q _ (jC hpt _)⟩
    | some b k m =>
      obtain ⟨rfl,rfl,rfl⟩:=fit
      refine ⟨_,rfl,p,_,_,_,rfl,rfl,SqT.of hp,rfl,rfl,_,rfl,iteF ?_⟩
      refine ⟨_,rfl,p,_,_,_,rfl,rfl,SqT.of hp,rfl,(by show 2 <= sizeLine; decide),fun pt hpt=>⟨pt,_,rfl,.inr (SqT.of jq),rfl,rfl,_,rfl,iteT ?_⟩⟩
      exact ⟨_,rfl,p,_,_,_,rfl,rfl,SqT.of (jC hpt _ _ _ hp),rfl,q _ (jC hpt _)⟩
    | most b k m =>
      obtain ⟨rfl,rfl,rfl⟩:=fit
      refine ⟨_,rfl,p,_,_,_,rfl,rfl,SqT.of hp,rfl,rfl,_,rfl,iteF ?_⟩
      refine ⟨_,rfl,p,_,_,_,rfl,rfl,SqT.of hp,rfl,(by show 2 <= sizeLine; decide),fun pt hpt=>⟨pt,_,rfl,.inr (SqT.of jq),rfl,rfl,_,rfl,iteT ?_⟩⟩
      exact ⟨_,rfl,p,_,_,_,rfl,rfl,SqT.of (jC hpt _ _ _ hp),rfl,q _ (jC hpt _)⟩
  | node any ts =>
    obtain ⟨l,ps,hp,hA,hl,hPs⟩:=hF
    have few':1 + jR ts <= 100:=few
    cases any <;> refine ⟨_,rfl,p,_,_,_,rfl,rfl,SqT.of hp,rfl,rfl,_,rfl,iteF ?_⟩ <;> (refine ⟨_,rfl,p,_,_,_,rfl,rfl,SqT.of hp,rfl,(by show 2 <= sizeLine; decide),fun pt hpt=>⟨pt,_,rfl,.inr (SqT.of jq),rfl,rfl,_,rfl,iteF ?_⟩⟩)
    all_goals
      have s0:=jC hpt (.tup [V.str "any",V.str "one"])
      refine ⟨_,rfl,p,_,_,_,rfl,rfl,SqT.of (s0 _ _ hp),rfl,l,rfl,⟨_,SqL.of (s0 _ _ hl)⟩,?_⟩
      refine yC (xs:=ps.map V.ref) (fun i σ H'=>Same (upd H pt (.tup [V.str "any",V.str "one"])) H' /\ ∃ y,σ = [some (.ref p),some (nv (Jg (ts.take i))),y]) ⟨Same.refl _,_,rfl⟩ (fun i σ H' _ z=>SqL.of (z.1 _ _ (s0 _ _ hl))) (fun i v σ H1 hv=>?_) (fun σ H1=>?_)
      rintro ⟨s1,y,rfl⟩
      obtain ⟨b,t,rfl,hb,ht,ib⟩:=hPs.at hv
      have mt:=qD (List.mem_of_getElem? ht)
      refine ⟨_,rfl,_,rfl,b,t,A,rfl,(ib.same s0).same s1,by omega,fun H3 s3=>⟨_,_,rfl,rfl,s1.trans s3,some (.ref b),?_⟩⟩
      rw [ja9 ts i t ht]; rfl
      rintro ⟨s1,y,rfl⟩
      refine ⟨_,rfl,?_⟩
      rw [List.length_map,hPs.1,List.take_length]
      exact q _ (s0.trans s1)
theorem jhN {f:Addr} {fd:FuncData} (F:Fun K "_law_spoken" "_law_spoken" ja4 f fd) (jH:mg "_law_spoken" = some (.ref f)):∀ d,jK P w K mg base (d + 1) "_law_spoken" ["_law_form_here"] [] (jbv Jb d):=by
  intro d
  induction d with
  | zero =>
    refine F.jX jH (bnd1 F fun _ _ _ _ _ _ _=>rfl) zB (fun vs H Q E h=>?_) (fun cdv A outer s H vs Q E hr h=>?_)
    · obtain ⟨p,t,A,rfl,_⟩:=h; rfl
    · obtain ⟨p,t,A,rfl,hT,_⟩:=h; exact hT.elim
  | succ d ih=>exact jiP d F jH ih
end
end My
set_option Elab.async false
set_option linter.all false
set_option maxRecDepth 100000
set_option maxHeartbeats 4000000
namespace My
open PySem PySem.Spec PyProof.Rows L2 GM
section
variable {P:Program} {w:World} {K:PySem.W.Frag} {mg:Str->Option Value} {base:Heap}
variable {ju jh jb jg jc jd je jf:Addr}
theorem jcG {f:Addr} {fd:FuncData} (F:Fun K "plain_bid_told" "plain_bid_told" yO f fd) (jH:mg "plain_bid_told" = some (.ref f))
    (Yi:jK P w K mg base 1 "has_form" ["words", "form"] [] (jcR K))
    (QK:jK P w K mg base 4 "place_told" ["place", "stock"] [] (jbD K ju jh jb jg jc jd je jf))
    (J0:jK P w K mg base 2 "number_told" ["word"] [] (jaH K))
    (jN:Own K mg "Bid" ju [])
    (jE:Own K mg "Only" jh ["bundle", "amount"])
    (jt:Own K mg "SoMany" jb ["kind", "least", "amount"])
    (jD:Own K mg "UpTo" jg ["kind", "most", "each"])
    (jx:Own K mg "Several" jc ["bids"])
    (jA:Own K mg "AnyOf" jd ["bids"])
    (jB:Own K mg "OneOf" je ["bids"])
    (jy:Own K mg "Stock" jf ["numbers", "kinds"])
    (jjf:jik K mg "Bid" ju)
    (jhE:Zh P w K mg base 4 "Only" jh ["self", "bundle", "amount"] (yP K jh))
    (jdV:Zh P w K mg base 4 "SoMany" jb ["self", "kind", "least", "amount"] (Q6 K jb))
    (jhF:Zh P w K mg base 4 "UpTo" jg ["self", "kind", "most", "each"] (yR K jg)):jK P w K mg base 6 "plain_bid_told" ["words", "stock"] [] (yw K ju jh jb jg jc jd je jf):=by
  refine F.jX jH (bnd2 F fun _ _ _ _ _ _ _ _=>rfl) jcH (fun vs H Q E h=>?_) (fun cdv A outer s H vs Q E hr h=>?_)
  · obtain ⟨wl,a,ns,ks,ws,f,rfl,_⟩:=h; rfl
  obtain ⟨wl,a,ns,ks,ws,f,rfl,hw,hSt,okf,hW,q⟩:=h
  have ok:=okf
  refine ⟨_,(R.jk (R.j8 (R.jP (op_eqS hr.jjY) (R.pv 0) (R.JK (R.pa_c R.jG R.ji)) (j5 _)) (R.jr (R.jJ (R.jjH jjf rfl))) R.jM)
    (R.jk (R.j8 (R.JD (R.jz Yi hr (by first | decide | omega) rfl (R.pa_c (R.pv 0) (R.pa_c (R.JK (R.pa_c R.Zv (R.pa_c R.jG (R.pa_c R.Zv R.ji)))) R.ji)))) (R.jr (R.jJ (R.Zu jhE hr (by first | decide | omega) rfl (R.pa_c (R.jz QK hr (by first | decide | omega) rfl (R.pa_c (R.jY (R.ixL K) (R.pv 0) R.jj (fun _ _=>rfl)) (R.pa_c (R.pv 1) R.ji))) (R.pa_c (R.jz J0 hr (by first | decide | omega) rfl (R.pa_c (R.jY (R.ixL K) (R.pv 0) R.jj (fun _ _=>rfl)) R.ji)) R.ji))))) R.jM)
    (R.jk (R.j8 (R.JD (R.jz Yi hr (by first | decide | omega) rfl (R.pa_c (R.pv 0) (R.pa_c (R.JK (R.pa_c R.Zv (R.pa_c R.jG (R.pa_c R.Zv (R.pa_c R.jG (R.pa_c R.Zv R.ji)))))) R.ji)))) (R.jr (R.jJ (R.Zu jdV hr (by first | decide | omega) rfl (R.pa_c (R.jz QK hr (by first | decide | omega) rfl (R.pa_c (R.jY (R.ixL K) (R.pv 0) R.jj (fun _ _=>rfl)) (R.pa_c (R.pv 1) R.ji))) (R.pa_c (R.jz J0 hr (by first | decide | omega) rfl (R.pa_c (R.jY (R.ixL K) (R.pv 0) R.jj (fun _ _=>rfl)) R.ji)) (R.pa_c (R.jz J0 hr (by first | decide | omega) rfl (R.pa_c (R.jY (R.ixL K) (R.pv 0) R.jj (fun _ _=>rfl)) R.ji)) R.ji)))))) R.jM)
    (R.jk (R.j8 (R.JD (R.jz Yi hr (by first | decide | omega) rfl (R.pa_c (R.pv 0) (R.pa_c (R.JK (R.pa_c R.jG (R.pa_c R.jG (R.pa_c R.Zv (R.pa_c R.jG (R.pa_c R.Zv (R.pa_c R.jG (R.pa_c R.Zv (R.pa_c R.jG R.ji))))))))) R.ji)))) (R.jr (R.jJ (R.Zu jhF hr (by first | decide | omega) rfl (R.pa_c (R.jz QK hr (by first | decide | omega) rfl (R.pa_c (R.jY (R.ixL K) (R.pv 0) R.jj (fun _ _=>rfl)) (R.pa_c (R.pv 1) R.ji))) (R.pa_c (R.jz J0 hr (by first | decide | omega) rfl (R.pa_c (R.jY (R.ixL K) (R.pv 0) R.jj (fun _ _=>rfl)) R.ji)) (R.pa_c (R.jz J0 hr (by first | decide | omega) rfl (R.pa_c (R.jY (R.ixL K) (R.pv 0) R.jj (fun _ _=>rfl)) R.ji)) R.ji)))))) R.jM)
    (R.jr R.JC))))),?_⟩
  refine ⟨_,rfl,(by show 1 <= sizeLine; decide),fun l0 h0=>?_⟩
  have s0:=jC h0 (.lst [V.str (Str.ofString "nothing")])
  have e0:upd H l0 (.lst [V.str (Str.ofString "nothing")]) l0 = some (.lst [V.str (Str.ofString "nothing")]):=jq
  generalize upd H l0 (.lst [V.str (Str.ofString "nothing")]) = H0 at s0 e0 ⊢
  have hw0:=s0.seq hw
  refine ⟨wl,l0,ws.map tx,[Str.ofString "nothing"],rfl,rfl,hw0,SqL.of e0,_,rfl,?_⟩
  rw [if_neg Bool.false_ne_true]
  have skip:∀ {H1:Hp} {os:List (Option Str)} {l:Addr} (e:H1 l = none),Same H1 (upd H1 l (.lst (os.map oV))) /\ SqL K (upd H1 l (.lst (os.map oV))) l (os.map oV):=fun e=>⟨jC e _,SqL.of jq⟩
  cases f with
  | none =>
    have hW:ws = [jaL]:=hW
    subst hW
    rw [show decide (([jaL]:List (List Nat)).map tx = [Str.ofString "nothing"]) = true from decide_eq_true rfl]
    refine iteT ?_
    exact fun x dx nx nd _=>q x _ (s0.trans (((Same.refl H0).upd nd _).upd nx _)) ⟨dx,jq⟩
  | only b m =>
    obtain ⟨pl,hp,rfl⟩:=hW
    obtain ⟨b1,b2,hm⟩:=ok
    rw [show decide (([pl,wFor,numL m]:List (List Nat)).map tx = [Str.ofString "nothing"]) = false from decide_eq_false (fun z=>by have:=congrArg List.length z; cases this)]
    refine iteF ?_
    refine ⟨_,rfl,(by show 3 <= sizeLine; decide),fun l1 h1=>?_⟩
    have s1:=s0.trans (jC h1 (.lst [V.non,.str (Str.ofString "for"),.non]))
    have e1:upd H0 l1 (.lst [V.non,.str (Str.ofString "for"),.non]) l1 = some (.lst [V.non,.str (Str.ofString "for"),.non]):=jq
    generalize upd H0 l1 (.lst [V.non,.str (Str.ofString "for"),.non]) = H1 at s1 e1 ⊢
    refine ⟨wl,l1,_,[none,some (Str.ofString "for"),none],rfl,s1.seq hw,SqL.of e1,(by show 3 <= 20; decide),fun H2 s2=>⟨_,rfl,?_⟩⟩
    rw [show hasF (([pl,wFor,numL m]:List (List Nat)).map tx) [none,some (Str.ofString "for"),none] = true from rfl]
    refine iteT ?_
    have S2:=s1.trans s2
    refine ⟨_,rfl,wl,_,_,_,rfl,rfl,S2.seq hw,rfl,_,rfl,pl,a,ns,ks,b,rfl,JF.same S2 hSt,hp,fun H3 s3=>?_⟩
    have S3:=S2.trans s3
    refine ⟨_,rfl,wl,_,_,_,rfl,rfl,S3.seq hw,rfl,m,congrArg (fun z=>[V.str z]) (QV m).symm,hm.lo,by have:=hm.hi; omega,fun H4 s4=>fun x dx nx nd _=>?_⟩
    exact ⟨x,dx,b,m,rfl,b1,b2,hm,jq,rfl,q x _ ((S3.trans s4).trans (jd6 nx nd)) ⟨dx,jq⟩⟩
  | some k l m =>
    obtain ⟨pl,hp,rfl⟩:=hW
    obtain ⟨k1,k2,c1,c2,hm⟩:=ok
    rw [show decide (([numL (l:Nat),wOf,pl,wFor,numL m]:List (List Nat)).map tx = [Str.ofString "nothing"]) = false from decide_eq_false (fun z=>by have:=congrArg List.length z; cases this)]
    refine iteF ?_
    refine ⟨_,rfl,(by show 3 <= sizeLine; decide),fun l1 h1=>?_⟩
    have s1:=s0.trans (jC h1 (.lst [V.non,.str (Str.ofString "for"),.non]))
    have e1:upd H0 l1 (.lst [V.non,.str (Str.ofString "for"),.non]) l1 = some (.lst [V.non,.str (Str.ofString "for"),.non]):=jq
    generalize upd H0 l1 (.lst [V.non,.str (Str.ofString "for"),.non]) = H1 at s1 e1 ⊢
    refine ⟨wl,l1,_,[none,some (Str.ofString "for"),none],rfl,s1.seq hw,SqL.of e1,(by show 5 <= 20; decide),fun H2 s2=>⟨_,rfl,?_⟩⟩
    rw [show hasF (([numL (l:Nat),wOf,pl,wFor,numL m]:List (List Nat)).map tx) [none,some (Str.ofString "for"),none] = false from rfl]
    refine iteF ?_
    have S2:=s1.trans s2
    refine ⟨_,rfl,(by show 5 <= sizeLine; decide),fun l2 h2=>?_⟩
    have s3:=S2.trans (jC h2 (.lst [V.non,.str (Str.ofString "of"),.non,.str (Str.ofString "for"),.non]))
    have e3:upd H2 l2 (.lst [V.non,.str (Str.ofString "of"),.non,.str (Str.ofString "for"),.non]) l2 = some (.lst [V.non,.str (Str.ofString "of"),.non,.str (Str.ofString "for"),.non]):=jq
    generalize upd H2 l2 (.lst [V.non,.str (Str.ofString "of"),.non,.str (Str.ofString "for"),.non]) = H3 at s3 e3 ⊢
    refine ⟨wl,l2,_,[none,some (Str.ofString "of"),none,some (Str.ofString "for"),none],rfl,s3.seq hw,SqL.of e3,(by show 5 <= 20; decide),fun H4 s4=>⟨_,rfl,?_⟩⟩
    rw [show hasF (([numL (l:Nat),wOf,pl,wFor,numL m]:List (List Nat)).map tx) [none,some (Str.ofString "of"),none,some (Str.ofString "for"),none] = true from rfl]
    refine iteT ?_
    have S4:=s3.trans s4
    refine ⟨_,rfl,wl,_,_,_,rfl,rfl,S4.seq hw,rfl,_,rfl,pl,a,ns,ks,k,rfl,JF.same S4 hSt,hp,fun H5 s5=>?_⟩
    have S5:=S4.trans s5
    refine ⟨_,rfl,wl,_,_,_,rfl,rfl,S5.seq hw,rfl,((l:Nat):Int),congrArg (fun z=>[V.str z]) (QV _).symm,by omega,by omega,fun H6 s6=>?_⟩
    have S6:=S5.trans s6
    refine ⟨_,rfl,wl,_,_,_,rfl,rfl,S6.seq hw,rfl,m,congrArg (fun z=>[V.str z]) (QV m).symm,hm.lo,by have:=hm.hi; omega,fun H7 s7=>fun x dx nx nd _=>?_⟩
    exact ⟨x,dx,k,l,m,rfl,k1,k2,c1,c2,hm,jq,rfl,q x _ ((S6.trans s7).trans (jd6 nx nd)) ⟨dx,jq⟩⟩
  | most k l m =>
    obtain ⟨pl,hp,rfl⟩:=hW
    obtain ⟨k1,k2,c1,c2,hm⟩:=ok
    rw [show decide (([wUp,wTo,numL (l:Nat),wOf,pl,wFor,numL m,jhC]:List (List Nat)).map tx = [Str.ofString "nothing"]) = false from decide_eq_false (fun z=>by have:=congrArg List.length z; cases this)]
    refine iteF ?_
    refine ⟨_,rfl,(by show 3 <= sizeLine; decide),fun l1 h1=>?_⟩
    have s1:=s0.trans (jC h1 (.lst [V.non,.str (Str.ofString "for"),.non]))
    have e1:upd H0 l1 (.lst [V.non,.str (Str.ofString "for"),.non]) l1 = some (.lst [V.non,.str (Str.ofString "for"),.non]):=jq
    generalize upd H0 l1 (.lst [V.non,.str (Str.ofString "for"),.non]) = H1 at s1 e1 ⊢
    refine ⟨wl,l1,_,[none,some (Str.ofString "for"),none],rfl,s1.seq hw,SqL.of e1,(by show 8 <= 20; decide),fun H2 s2=>⟨_,rfl,?_⟩⟩
    rw [show hasF (([wUp,wTo,numL (l:Nat),wOf,pl,wFor,numL m,jhC]:List (List Nat)).map tx) [none,some (Str.ofString "for"),none] = false from rfl]
    refine iteF ?_
    have S2:=s1.trans s2
    refine ⟨_,rfl,(by show 5 <= sizeLine; decide),fun l2 h2=>?_⟩
    have s3:=S2.trans (jC h2 (.lst [V.non,.str (Str.ofString "of"),.non,.str (Str.ofString "for"),.non]))
    have e3:upd H2 l2 (.lst [V.non,.str (Str.ofString "of"),.non,.str (Str.ofString "for"),.non]) l2 = some (.lst [V.non,.str (Str.ofString "of"),.non,.str (Str.ofString "for"),.non]):=jq
    generalize upd H2 l2 (.lst [V.non,.str (Str.ofString "of"),.non,.str (Str.ofString "for"),.non]) = H3 at s3 e3 ⊢
    refine ⟨wl,l2,_,[none,some (Str.ofString "of"),none,some (Str.ofString "for"),none],rfl,s3.seq hw,SqL.of e3,(by show 8 <= 20; decide),fun H4 s4=>⟨_,rfl,?_⟩⟩
    rw [show hasF (([wUp,wTo,numL (l:Nat),wOf,pl,wFor,numL m,jhC]:List (List Nat)).map tx) [none,some (Str.ofString "of"),none,some (Str.ofString "for"),none] = false from rfl]
    refine iteF ?_
    have S4:=s3.trans s4
    refine ⟨_,rfl,(by show 8 <= sizeLine; decide),fun l3 h3=>?_⟩
    have s5:=S4.trans (jC h3 (.lst [V.str (Str.ofString "up"),.str (Str.ofString "to"),.non,.str (Str.ofString "of"),.non,.str (Str.ofString "for"),.non,.str (Str.ofString "each")]))
    have e5:upd H4 l3 (.lst [V.str (Str.ofString "up"),.str (Str.ofString "to"),.non,.str (Str.ofString "of"),.non,.str (Str.ofString "for"),.non,.str (Str.ofString "each")]) l3 = some (.lst [V.str (Str.ofString "up"),.str (Str.ofString "to"),.non,.str (Str.ofString "of"),.non,.str (Str.ofString "for"),.non,.str (Str.ofString "each")]):=jq
    generalize upd H4 l3 (.lst [V.str (Str.ofString "up"),.str (Str.ofString "to"),.non,.str (Str.ofString "of"),.non,.str (Str.ofString "for"),.non,.str (Str.ofString "each")]) = H5 at s5 e5 ⊢
    refine ⟨wl,l3,_,[some (Str.ofString "up"),some (Str.ofString "to"),none,some (Str.ofString "of"),none,some (Str.ofString "for"),none,some (Str.ofString "each")],rfl,s5.seq hw,SqL.of e5,(by show 8 <= 20; decide),fun H6 s6=>⟨_,rfl,?_⟩⟩
    rw [show hasF (([wUp,wTo,numL (l:Nat),wOf,pl,wFor,numL m,jhC]:List (List Nat)).map tx) [some (Str.ofString "up"),some (Str.ofString "to"),none,some (Str.ofString "of"),none,some (Str.ofString "for"),none,some (Str.ofString "each")] = true from rfl]
    refine iteT ?_
    have S6:=s5.trans s6
    refine ⟨_,rfl,wl,_,_,_,rfl,rfl,S6.seq hw,rfl,_,rfl,pl,a,ns,ks,k,rfl,JF.same S6 hSt,hp,fun H7 s7=>?_⟩
    have S7:=S6.trans s7
    refine ⟨_,rfl,wl,_,_,_,rfl,rfl,S7.seq hw,rfl,((l:Nat):Int),congrArg (fun z=>[V.str z]) (QV _).symm,by omega,by omega,fun H8 s8=>?_⟩
    have S8:=S7.trans s8
    refine ⟨_,rfl,wl,_,_,_,rfl,rfl,S8.seq hw,rfl,m,congrArg (fun z=>[V.str z]) (QV m).symm,hm.lo,by have:=hm.hi; omega,fun H9 s9=>fun x dx nx nd _=>?_⟩
    exact ⟨x,dx,k,l,m,rfl,k1,k2,c1,c2,hm,jq,rfl,q x _ ((S8.trans s9).trans (jd6 nx nd)) ⟨dx,jq⟩⟩
theorem jiQ {f:Addr} {fd:FuncData} (F:Fun K "parted" "parted" jdc f fd) (jH:mg "parted" = some (.ref f)) (Yb:mg "enumerate" = none):jK P w K mg base 1 "parted" ["inner"] [] (jco K):=by
  refine F.jX jH (bnd1 F fun _ _ _ _ _ _ _=>rfl) qK (fun vs H Q E h=>?_) (fun cdv A outer s H vs Q E hr h=>?_)
  · obtain ⟨xs,rfl,_⟩:=h; rfl
  obtain ⟨xs,rfl,h0,hP,hA,hz,q⟩:=h
  obtain ⟨pb,pe⟩:=jiS h0 hP
  generalize j0 [59,32] xs = L at hA hz pb pe ⊢
  have szL:L.length <= sizeLine:=by rw [sizeLine_eq]; omega
  refine ⟨_,(R.jk (R.jT (i:=1) qK.nd rfl (Or.inl rfl) (R.JK R.ji))
    (R.jk (R.jT (i:=2) qK.nd rfl (Or.inl rfl) R.jj)
    (R.jk (R.jT (i:=3) qK.nd rfl (Or.inl rfl) R.jj)
    (R.jk (R.qt PassesOwn.never rfl (R.jf4 rfl Yb (R.pa_c (R.pv 0) R.ji)) (R.Z7 K 2 rfl (R.JQ (R.jV (i:=4) qK.nd rfl (Or.inl rfl)) (R.JQ (R.jV (i:=5) qK.nd rfl (Or.inl rfl)) R.zc))) (R.jr (R.j8 (R.jP Jv (R.pv 5) R.jG (j5 _)) (R.jr (R.jT (i:=3) qK.nd rfl (Or.inl rfl) (R.jF JB (R.pv 3) R.jj))) (R.jr (R.j8 (R.jP Jv (R.pv 5) R.jG (j5 _)) (R.jr (R.jT (i:=3) qK.nd rfl (Or.inl rfl) (R.jF jef (R.pv 3) R.jj))) (R.jr (R.j8 (R.pt (R.jcb (R.jP Jv (R.pv 3) R.jj (j5 _)) (R.ZV (R.JD (R.jc8 (R.pv 0) R.jG (R.pv 4)))))) (R.jk (R.JW (R.qC (R.pv 1) (R.pa_c (R.qU jck (R.pv 0) (R.qw (R.pv 2)) (R.qw (R.pv 4))) R.ji)))
            (R.jr (R.jT (i:=2) qK.nd rfl (Or.inl rfl) (R.jF (opE0 JB) (R.pv 4) R.jj)))) R.jM)))))))
    (R.jk (R.JW (R.qC (R.pv 1) (R.pa_c (R.qU jck (R.pv 0) (R.qw (R.pv 2)) R.ZS) R.ji)))
    (R.jr (R.jJ (R.pv 1)))))))),?_⟩
  refine ⟨(by show 0 <= sizeLine; decide),fun lp hp=>?_⟩
  refine ⟨_,rfl,L,rfl,List.all_eq_true.mpr fun c hc=>decide_eq_true (hA c hc),?_⟩
  refine jky (fun i σ H'=>i <= L.length /\ Same H H' /\ H' lp = some (.lst (((prun L i).1.map tx).map V.str)) /\ ∃ y1 y2,σ = [some (.str (tx L)),some (.ref lp),some (nv (prun L i).2.1),some (.int (prun L i).2.2),y1,y2]) ?_ ?_ ?_
  · exact ⟨Nat.zero_le _,jC hp _,jq,none,none,rfl⟩
  · rintro i c p σ H1 hc ⟨hi,s1,e1,y1,y2,rfl⟩ hpn
    have hil:i < L.length:=(List.getElem?_eq_some_iff.mp hc).1
    have hgd:L.getD i 0 = c:=by rw [List.getD_eq_getElem?_getD,hc]; rfl
    have s2:=s1.trans (jC hpn (.tup [V.int (i:Int),.str (tx [c])]))
    have e2:=jC hpn (.tup [V.int (i:Int),.str (tx [c])]) _ _ e1
    have ep:upd H1 p (.tup [V.int (i:Int),.str (tx [c])]) p = some (.tup [V.int (i:Int),.str (tx [c])]):=jq
    generalize upd H1 p (.tup [V.int (i:Int),.str (tx [c])]) = H2 at s2 e2 ep ⊢
    have step:prun L (i + 1) = Yn L i c (prun L i):=by rw [<- hgd]; rfl
    have few:=(jf6 L i).1
    generalize prun L i = st at e2 step few ⊢
    obtain ⟨ps,b,w⟩:=st
    refine ⟨p,_,rfl,SqT.of ep,rfl,_,_,rfl,_,_,rfl,rfl,?_⟩
    refine ⟨_,rfl,rfl,_,rfl,?_⟩
    rw [show Str.ofString "(" = tx [40] from rfl,jkh]
    by_cases c1:c = 40
    · rw [decide_eq_true c1]
      refine iteT ⟨_,rfl,_,_,rfl,rfl,?_⟩
      have e:prun L (i + 1) = (ps,b,w + 1):=by rw [step]; unfold Yn; rw [if_pos c1]
      exact ⟨hil,s2,by rw [e]; exact e2,_,_,by rw [e]; rfl⟩
    rw [decide_eq_false c1]
    refine iteF ⟨_,rfl,rfl,_,rfl,?_⟩
    rw [show Str.ofString ")" = tx [41] from rfl,jkh]
    by_cases c2:c = 41
    · rw [decide_eq_true c2]
      refine iteT ⟨_,rfl,_,_,rfl,rfl,?_⟩
      have e:prun L (i + 1) = (ps,b,w - 1):=by rw [step]; unfold Yn; rw [if_neg c1,if_pos c2]
      exact ⟨hil,s2,by rw [e]; exact e2,_,_,by rw [e]; rfl⟩
    rw [decide_eq_false c2]
    refine iteF ⟨_,rfl,rfl,_,rfl,?_⟩
    have no:(¬ (w = 0 /\ semi L i = true))->i + 1 <= L.length /\ Same H H2 /\ H2 lp = some (.lst (((prun L (i + 1)).1.map tx).map V.str)) /\ ∃ y1 y2,([some (.str (tx L)),some (.ref lp),some (nv b),some (.int w),some (V.int (i:Int)),some (.str (tx [c]))]:L2.St) = [some (.str (tx L)),some (.ref lp),some (nv (prun L (i + 1)).2.1),some (.int (prun L (i + 1)).2.2),y1,y2]:=fun z=>by
      have e:prun L (i + 1) = (ps,b,w):=by rw [step]; unfold Yn; rw [if_neg c1,if_neg c2,if_neg z]
      exact ⟨hil,s2,by rw [e]; exact e2,_,_,by rw [e]⟩
    by_cases c3:w = 0
    · rw [show decide (V.int w = V.int 0) = true from decide_eq_true (by rw [c3])]
      refine iteT ⟨_,rfl,_,rfl,_,rfl,_,rfl,_,rfl,_,rfl,?_⟩
      rw [jfO,jjQ]
      show if semi L i = true then _ else _
      by_cases c4:semi L i = true
      · rw [if_pos c4]
        have e:prun L (i + 1) = (ps ++ [(L.drop b).take (i - b)],i + 2,w):=by rw [step]; unfold Yn; rw [if_neg c1,if_neg c2,if_pos ⟨c3,c4⟩]
        refine ⟨_,rfl,.inl ⟨rfl,_,SqL.of e2⟩,_,rfl,_,rfl,_,rfl,_,rfl,_,rfl,_,rfl,szL,lp,_,_,rfl,rfl,e2,?_,?_⟩
        · rw [List.length_map,List.length_map]; rw [sizeLine_eq]; omega
        rw [cut_any L b i hi]
        refine ⟨_,rfl,_,_,nv (i + 2),rfl,rfl,rfl,hil,s2.upd hp _,?_,some (V.int (i:Int)),some (.str (tx [c])),?_⟩
        · rw [e,jq,List.map_append,List.map_append]; rfl
        · rw [e]; rfl
      · rw [if_neg c4]
        exact no fun z=>c4 z.2
    · rw [show decide (V.int w = V.int 0) = false from decide_eq_false (fun z=>c3 (V.int.inj z))]
      exact iteF (no fun z=>c3 z.1)
  · rintro σ H1 ⟨_,s1,e1,y1,y2,rfl⟩
    have few:=(jf6 L L.length).1
    refine ⟨_,rfl,.inl ⟨rfl,_,SqL.of e1⟩,_,rfl,_,rfl,_,rfl,_,rfl,szL,lp,_,_,rfl,rfl,e1,?_,?_⟩
    · rw [List.length_map,List.length_map]; rw [sizeLine_eq]; omega
    rw [jit L _ pb]
    refine ⟨_,rfl,q lp _ (s1.upd hp _) hp ?_⟩
    rw [jq]
    conv=>rhs; rw [<- pe]
    rw [List.map_append,List.map_append]; rfl
end
end My
set_option Elab.async false
set_option linter.all false
set_option maxRecDepth 100000
set_option maxHeartbeats 4000000
namespace My
open PySem PySem.Spec PyProof.Rows L2 GM
section
variable {P:Program} {w:World} {K:PySem.W.Frag} {mg:Str->Option Value} {base:Heap}
variable {ju jh jb jg jc jd je jf:Addr}
theorem jfU (d:Nat) {f:Addr} {fd:FuncData} (F:Fun K "bids_told" "bids_told" yE f fd) (jH:mg "bids_told" = some (.ref f))
    (Yh:jK P w K mg base (14 + 2 * d) "bid_told" ["text", "stock", "level"] [] (spBid K ju jh jb jg jc jd je jf d)) (Zg:jK P w K mg base 1 "parted" ["inner"] [] (jco K)) :
    jK P w K mg base (14 + 2 * d + 1) "bids_told" ["inner", "stock", "level"] [] (spBids K ju jh jb jg jc jd je jf d):=by
  refine F.jX jH (bnd3 F fun _ _ _ _ _ _ _ _ _=>rfl) jgn (fun vs H Q E h=>?_) (fun cdv A outer s H vs Q E hr h=>?_)
  · obtain ⟨xs,a,ns,ks,lv,ts,rfl,_⟩:=h; rfl
  obtain ⟨xs,a,ns,ks,lv,ts,rfl,hSt,hX,hlv,hd,hy,hz,q⟩:=h
  have hn:=ZZ hSt
  have tl:=Ql ts
  refine ⟨_,(R.jk (R.j8 (R.jP Jv (R.pv 0) R.jG (j5 _)) (R.jr (R.jJ (R.JK R.ji))) R.jM)
    (R.jr (R.jJ (R.Jj (jw yE) ["inner", "stock", "level"] ["text"] ["stock", "level"] [1,2] rfl rfl rfl ⟨s.heap.objs.size + 1,rfl⟩ rfl rfl (by decide +kernel) (R.JL (R.jz Zg hr (by first | decide | omega) rfl (R.pa_c (R.pv 0) R.ji))) (fun C s2 H2 fp=>(R.jV (i:=0) (show List.Nodup (["text", "stock", "level"]:List Str) from by decide +kernel) rfl (Or.inl rfl))) (fun C s2 H2 fp=>R.JM) (fun C s2 H2 fp=>(R.jz Yh hr (by first | decide | omega) rfl (R.pa_c (R.pv 0) (R.pa_c (R.pv 1) (R.pa_c (R.pv 2) R.ji))))))))),?_⟩
  refine ⟨_,rfl,rfl,_,rfl,?_⟩
  have fx:∀ x ∈ xs,∃ t,Yk ns (kdOf ks) d t x:=fun x hx=>by
    obtain ⟨i,hi,rfl⟩:=List.getElem_of_mem hx
    exact ⟨_,hX.2 i _ _ (List.getElem?_eq_getElem hi) (List.getElem?_eq_getElem (by rw [<- hX.1]; exact hi))⟩
  by_cases h0:xs = []
  · subst h0
    have ht:ts = []:=List.length_eq_zero_iff.mp hX.1.symm
    subst ht
    rw [show decide (V.str (tx (j0 [59,32] [])) = V.str (Str.ofString "")) = true from decide_eq_true rfl]
    refine iteT ⟨(by show 0 <= sizeLine; decide),fun l hl=>?_⟩
    exact q l _ [] (jC hl _) hl jq All2.nil
  · have hne:1 <= (j0 [59,32] xs).length:=by
      cases xs with
      | nil=>exact absurd rfl h0
      | cons x r =>
        obtain ⟨t,ht⟩:=fx x (List.mem_cons_self ..)
        have:=text_ne hn ht
        cases r with
        | nil=>exact this
        | cons y r=>show 1 <= (x ++ [59,32] ++ j0 [59,32] (y :: r)).length; rw [List.length_append,List.length_append]; omega
    rw [show decide (V.str (tx (j0 [59,32] xs)) = V.str (Str.ofString "")) = false from decide_eq_false (fun z=>by
      have z:=congrArg List.length (jgE (m:=[]) (V.str.inj z))
      rw [z] at hne; exact absurd hne (by decide))]
    refine iteF ?_
    refine ⟨_,rfl,xs,rfl,h0,fun x hx=>(yc hn d _ _ (fx x hx).choose_spec).1,?_,hz,fun lx H1 s1 hlx ex=>?_⟩
    · intro c hc
      rcases z7 hc with ⟨p,hp,hcp⟩ | hc
      · exact (yc hn d _ _ (fx p hp).choose_spec).2.1 c hcp
      · simp only [List.mem_cons,List.not_mem_nil,or_false] at hc; omega
    refine ⟨lx,rfl,⟨_,SqL.of ex⟩,fun l2 h2=>?_⟩
    have lenx:∀ x ∈ xs,x.length <= (j0 [59,32] xs).length:=by
      intro x hx
      clear hX fx hz hne q ex
      induction xs with
      | nil=>cases hx
      | cons y r ih =>
        cases r with
        | nil=>rw [List.mem_singleton.mp hx]; exact Nat.le_refl _
        | cons z r =>
          have e:(j0 [59,32] (y :: z :: r)).length = y.length + 2 + (j0 [59,32] (z :: r)).length:=by
            show (y ++ [59,32] ++ j0 [59,32] (z :: r)).length = _
            rw [List.length_append,List.length_append]; rfl
          rcases List.mem_cons.mp hx with rfl | hx
          · omega
          · have:=ih (by simp) hx; omega
    refine yh (xs:=(xs.map tx).map V.str) (fun k H'=>Same H1 H' /\ ∃ bs:List Addr,H' l2 = some (.lst (bs.map V.ref)) /\ All2 (IsTr ju jh jb jg jd je (fun x=>H1 x = none /\ x ≠ l2) H' d) bs (ts.take k)) ⟨jC h2 _,[],jq,All2.nil⟩ (fun k H' _ ⟨s',_⟩=>SqL.of (s' _ _ ex)) ?_ ?_
    · rintro k v H2 hv ⟨s2,bs,e2,hB⟩ K1 K0 k1 k0
      rw [List.map_map,List.getElem?_map] at hv
      obtain ⟨x,hx,rfl⟩:=Option.map_eq_some_iff.mp hv
      have hk:k < ts.length:=by rw [<- hX.1]; exact (List.getElem?_eq_some_iff.mp hx).1
      have ht:ts[k]? = some ts[k]:=List.getElem?_eq_getElem hk
      have mt:=qD (List.mem_of_getElem? ht)
      have md:=yW (List.mem_of_getElem? ht)
      have hxl:=lenx x (List.mem_of_getElem? hx)
      refine ⟨_,rfl,_,rfl,_,rfl,x,a,ns,ks,lv,ts[k],rfl,JF.same (s1.trans s2) hSt,hX.2 k _ _ hx ht,hlv,by omega,by omega,by omega,fun b H3 s3 it=>k1 _ _ _ (s3 _ _ e2) ?_ ⟨(s2.trans s3).upd h2 _,bs ++ [b],by rw [jq,List.map_append]; rfl,?_⟩⟩
      · rw [List.length_map,hB.1,List.length_take]; exact Ji (by omega)
      · rw [List.take_succ,ht]
        have n2:¬ (H1 l2 = none /\ l2 ≠ l2):=fun z=>z.2 rfl
        exact (hB.imp fun x y _ z=>(IsTr.same s3 z).put (s3 _ _ e2) n2).snoc ((it.imp fun x zs hx _=>⟨s2.free hx,fun z=>by rw [z,e2] at hx; cases hx⟩).put (s3 _ _ e2) n2)
    · rintro H2 ⟨s2,bs,e2,hB⟩
      rw [List.length_map,List.length_map,hX.1,List.take_length] at hB
      refine q l2 H2 bs (s1.trans s2) (s1.free h2) e2 (hB.imp fun _ _ _ z=>z.imp fun x zs hx _=>⟨s1.free hx.1,hx.2⟩)
theorem jgI (d:Nat) {f:Addr} {fd:FuncData} (F:Fun K "bid_told" "bid_told" zU f fd) (jH:mg "bid_told" = some (.ref f))
    (jcI:jK P w K mg base (14 + 2 * d + 1) "bids_told" ["inner", "stock", "level"] [] (spBids K ju jh jb jg jc jd je jf d)) (qi:jK P w K mg base 6 "plain_bid_told" ["words", "stock"] [] (yw K ju jh jb jg jc jd je jf))
    (jN:Own K mg "Bid" ju [])
    (jE:Own K mg "Only" jh ["bundle", "amount"])
    (jt:Own K mg "SoMany" jb ["kind", "least", "amount"])
    (jD:Own K mg "UpTo" jg ["kind", "most", "each"])
    (jx:Own K mg "Several" jc ["bids"])
    (jA:Own K mg "AnyOf" jd ["bids"])
    (jB:Own K mg "OneOf" je ["bids"])
    (jy:Own K mg "Stock" jf ["numbers", "kinds"])
    (jbJ:Zh P w K mg base 12 "AnyOf" jd ["self", "bids"] (Jq K jd ju jh jb jg jc jd je jf))
    (jbK:Zh P w K mg base 12 "OneOf" je ["self", "bids"] (Jq K je ju jh jb jg jc jd je jf)) :
    jK P w K mg base (14 + 2 * d + 2) "bid_told" ["text", "stock", "level"] [] (spBid K ju jh jb jg jc jd je jf (d + 1)):=by
  refine F.jX jH (bnd3 F fun _ _ _ _ _ _ _ _ _=>rfl) jcP (fun vs H Q E h=>?_) (fun cdv A outer s H vs Q E hr h=>?_)
  · obtain ⟨x,a,ns,ks,lv,t,rfl,_⟩:=h; rfl
  obtain ⟨x,a,ns,ks,lv,t,rfl,hSt,hT,hlv,hd,hy,hz,q⟩:=h
  have hn:=ZZ hSt
  refine ⟨_,(R.jk (R.j8 (R.jP jfZ (R.pv 2) R.jj (j5 _)) (R.jr R.JC) R.jM)
    (R.jk (R.j8 (R.pt (R.jcb (R.JD (R.z8 (R.pv 0) R.jG)) (R.ZV (R.JD (R.jfc (R.pv 0) R.jG))))) (R.jr (R.jJ (R.Zu jbJ hr (by first | decide | omega) rfl (R.pa_c (R.jz jcI hr (by first | decide | omega) rfl (R.pa_c (R.qU jck (R.pv 0) (R.qw R.jj) (R.qw (R.pe_un un_neg R.jj))) (R.pa_c (R.pv 1) (R.pa_c (R.jF (opE0 JB) (R.pv 2) R.jj) R.ji)))) R.ji)))) R.jM)
    (R.jk (R.j8 (R.pt (R.jcb (R.JD (R.z8 (R.pv 0) R.jG)) (R.ZV (R.JD (R.jfc (R.pv 0) R.jG))))) (R.jr (R.jJ (R.Zu jbK hr (by first | decide | omega) rfl (R.pa_c (R.jz jcI hr (by first | decide | omega) rfl (R.pa_c (R.qU jck (R.pv 0) (R.qw R.jj) (R.qw (R.pe_un un_neg R.jj))) (R.pa_c (R.pv 1) (R.pa_c (R.jF (opE0 JB) (R.pv 2) R.jj) R.ji)))) R.ji)))) R.jM)
    (R.jr (R.jJ (R.jz qi hr (by first | decide | omega) rfl (R.pa_c (R.jdE (R.pv 0) R.jG) (R.pa_c (R.pv 1) R.ji)))))))),?_⟩
  refine ⟨_,rfl,_,_,rfl,rfl,_,rfl,?_⟩
  rw [decide_eq_false (show ¬ ((4:Int) < (lv:Int)) by omega)]
  refine iteF ?_
  have hz':(tx x).length <= 100000:=by rw [Jk]; omega
  have hz2:x.length <= sizeLine:=by rw [sizeLine_eq]; omega
  have ea:Str.ofString "any(" = tx wAny:=rfl
  have eo:Str.ofString "one(" = tx wOne:=rfl
  cases t with
  | leaf f =>
    obtain ⟨okf,ws,hW,rfl⟩:=hT
    obtain ⟨w1,w2,w3⟩:=jja hn okf hW
    obtain ⟨l1,l2⟩:=ji1 (x:=j0 [32] ws) fun c hc=>(jfL w1 c hc).1
    refine ⟨_,rfl,_,rfl,_,rfl,_,rfl,?_⟩
    rw [ea,l1]
    refine iteF ⟨_,rfl,_,rfl,_,rfl,_,rfl,?_⟩
    rw [eo,l2]
    refine iteF ?_
    refine ⟨_,rfl,_,rfl,hz',_,rfl,rfl,fun wl hwl=>?_⟩
    rw [show Str.ofString " " = tx [32] from rfl,jjs w1 w3]
    have s1:=jC hwl (.lst ((ws.map tx).map V.str))
    exact ⟨_,rfl,wl,a,ns,ks,ws,f,rfl,SqL.of jq,JF.same s1 hSt,okf,hW,fun b H' s' hb=>q b H' (s1.trans s') ⟨okf,hb⟩⟩
  | node any ts =>
    obtain ⟨xs,hX,rfl⟩:=hT
    have hd':1 + j7 ts <= 4:=hd
    have hy':1 + jR ts <= 24:=hy
    have hlen:(j0 [59,32] xs).length <= 2000:=by
      rw [List.length_append,List.length_append] at hz; omega
    obtain ⟨l1,l2⟩:=ji0 any (j0 [59,32] xs)
    have le:Txt.endswith (tx (Zk any ++ j0 [59,32] xs ++ [41])) (Str.ofString ")") = true:=jkw _ 41
    have cut:=cut_in (Zk any) (j0 [59,32] xs) 41 (jct any)
    cases any
    · refine ⟨_,rfl,_,rfl,_,rfl,_,rfl,?_⟩
      rw [ea,l1]
      refine iteF ⟨_,rfl,_,rfl,_,rfl,_,rfl,?_⟩
      rw [eo,l2]
      refine iteT ⟨_,rfl,_,rfl,_,rfl,_,rfl,?_⟩
      rw [le]
      refine iteT ?_
      refine ⟨_,rfl,_,rfl,_,rfl,_,rfl,_,rfl,hz2,_,rfl,_,rfl,_,_,nv (lv + 1),rfl,rfl,rfl,?_⟩
      rw [cut]
      refine ⟨xs,a,ns,ks,lv + 1,ts,rfl,hSt,hX,by omega,by omega,by omega,hlen,fun l H1 bs s1 hl e1 hB=>?_⟩
      refine fun x dx nx nd _=>?_
      have sx:Same H1 (upd (upd H1 dx (.own x)) x (.ins je dx [])):=((Same.refl H1).upd nd _).upd nx _
      refine ⟨x,dx,l,bs,ts,_,d,rfl,jq,.inr rfl,sx _ _ e1,hB.imp fun _ _ _ z=>z.same sx,by omega,by omega,fun H3 lb s3 h3=>⟨rfl,?_⟩⟩
      obtain ⟨S3,nb,it⟩:=jkc (jc:=jc) (any:=false) nx nd s3 h3 hB rfl
      exact q x _ (s1.trans S3) (it.imp fun y zs hy _=>hy.elim (fun z=>z.1) (fun z=>by rw [z]; exact s1.free nb))
    · refine ⟨_,rfl,_,rfl,_,rfl,_,rfl,?_⟩
      rw [ea,l1]
      refine iteT ⟨_,rfl,_,rfl,_,rfl,_,rfl,?_⟩
      rw [le]
      refine iteT ?_
      refine ⟨_,rfl,_,rfl,_,rfl,_,rfl,_,rfl,hz2,_,rfl,_,rfl,_,_,nv (lv + 1),rfl,rfl,rfl,?_⟩
      rw [cut]
      refine ⟨xs,a,ns,ks,lv + 1,ts,rfl,hSt,hX,by omega,by omega,by omega,hlen,fun l H1 bs s1 hl e1 hB=>?_⟩
      refine fun x dx nx nd _=>?_
      have sx:Same H1 (upd (upd H1 dx (.own x)) x (.ins jd dx [])):=((Same.refl H1).upd nd _).upd nx _
      refine ⟨x,dx,l,bs,ts,_,d,rfl,jq,.inl rfl,sx _ _ e1,hB.imp fun _ _ _ z=>z.same sx,by omega,by omega,fun H3 lb s3 h3=>⟨rfl,?_⟩⟩
      obtain ⟨S3,nb,it⟩:=jkc (jc:=jc) (any:=true) nx nd s3 h3 hB rfl
      exact q x _ (s1.trans S3) (it.imp fun y zs hy _=>hy.elim (fun z=>z.1) (fun z=>by rw [z]; exact s1.free nb))
theorem fam_read {f1 f2:Addr} {fd1 fd2:FuncData} (F1:Fun K "bid_told" "bid_told" zU f1 fd1) (g1:mg "bid_told" = some (.ref f1)) (F2:Fun K "bids_told" "bids_told" yE f2 fd2) (g2:mg "bids_told" = some (.ref f2))
    (Zg:jK P w K mg base 1 "parted" ["inner"] [] (jco K)) (qi:jK P w K mg base 6 "plain_bid_told" ["words", "stock"] [] (yw K ju jh jb jg jc jd je jf))
    (jN:Own K mg "Bid" ju [])
    (jE:Own K mg "Only" jh ["bundle", "amount"])
    (jt:Own K mg "SoMany" jb ["kind", "least", "amount"])
    (jD:Own K mg "UpTo" jg ["kind", "most", "each"])
    (jx:Own K mg "Several" jc ["bids"])
    (jA:Own K mg "AnyOf" jd ["bids"])
    (jB:Own K mg "OneOf" je ["bids"])
    (jy:Own K mg "Stock" jf ["numbers", "kinds"])
    (jbJ:Zh P w K mg base 12 "AnyOf" jd ["self", "bids"] (Jq K jd ju jh jb jg jc jd je jf))
    (jbK:Zh P w K mg base 12 "OneOf" je ["self", "bids"] (Jq K je ju jh jb jg jc jd je jf)) :
    ∀ d,jK P w K mg base (14 + 2 * d) "bid_told" ["text", "stock", "level"] [] (spBid K ju jh jb jg jc jd je jf d):=by
  intro d
  induction d with
  | zero =>
    refine F1.jX g1 (bnd3 F1 fun _ _ _ _ _ _ _ _ _=>rfl) jcP (fun vs H Q E h=>?_) (fun cdv A outer s H vs Q E hr h=>?_)
    · obtain ⟨x,a,ns,ks,lv,t,rfl,_⟩:=h; rfl
    · obtain ⟨x,a,ns,ks,lv,t,rfl,_,hT,_⟩:=h; exact hT.elim
  | succ d ih=>exact jgI d F1 g1 (jfU d F2 g2 ih Zg) qi jN jE jt jD jx jA jB jy jbJ jbK
theorem jgM {f:Addr} {fd:FuncData} (F:Fun K "read_bid" "read_bid" ja6 f fd) (jH:mg "read_bid" = some (.ref f)) (jZ:mg "isinstance" = none) (Qp:mg "str" = none) (Je:mg "len" = none)
    (Yh:jK P w K mg base 22 "bid_told" ["text", "stock", "level"] [] (jgT K ju jh jb jg jc jd je jf)):jK P w K mg base 23 "read_bid" ["text", "stock"] [] (jcU K ju jh jb jg jc jd je jf):=by
  refine F.jX jH (bnd2 F fun _ _ _ _ _ _ _ _=>rfl) jgQ (fun vs H Q E h=>?_) (fun cdv A outer s H vs Q E hr h=>?_)
  · obtain ⟨x,a,ns,ks,t,rfl,_⟩:=h; rfl
  obtain ⟨x,a,ns,ks,t,rfl,hSt,hT,hd,hy,q⟩:=h
  have hn:=ZZ hSt
  have hz:=jjS hn hT hy
  have hz2:(tx x).length <= sizeLine:=by rw [Jk,sizeLine_eq]; omega
  refine ⟨_,(R.jk (R.j8 (R.qy (R.JD (R.ja1 .str rfl jZ rfl Qp (R.pv 0)))) (R.jr R.JC) R.jM)
    (R.jk (R.j8 (R.jP jfZ (R.Jz zQ rfl Je PySem.boot_len (R.pa_c (R.pv 0) R.ji)) R.jj (j5 _)) (R.jr R.JC) R.jM)
    (R.jr (R.jh5 (R.jr (R.jJ (R.jz Yh hr (by first | decide | omega) rfl (R.pa_c (R.pv 0) (R.pa_c (R.pv 1) (R.pa_c R.jj R.ji)))))))))),?_⟩
  refine ⟨_,rfl,_,.str,rfl,TyOf.str _,_,rfl,iteF ?_⟩
  refine ⟨_,rfl,tx x,rfl,hz2,_,_,rfl,rfl,_,rfl,?_⟩
  rw [decide_eq_false (show ¬ ((2000:Int) < ((tx x).length:Int)) by rw [Jk]; omega)]
  refine iteF ?_
  exact ⟨_,rfl,_,rfl,x,a,ns,ks,1,t,rfl,hSt,hT,by omega,hd,hy,hz,q⟩
end
end My
set_option Elab.async false
set_option linter.all false
set_option maxRecDepth 100000
set_option maxHeartbeats 4000000
namespace My
open PySem PySem.Spec PyProof.Rows L2 GM
noncomputable def jcQ (_K:PySem.W.Frag) (ju jh jb jg jc jd je jf:Addr):Sp:=fun vs H Q _=>∃ (b p:Addr) (t:Tr) (A B:Addr->Prop) (d e:Nat),vs = [.ref b,.ref p] /\ IsTr ju jh jb jg jd je A H d b t /\ FT B H e p t /\ Q (.bl true) H
noncomputable def jhr (K:PySem.W.Frag) (ju jh jb jg jc jd je jf:Addr):Sp:=fun vs H Q _=>∃ (b p nl:Addr) (t:Tr) (A B:Addr->Prop) (ns:List Str) (m:Nat),vs = [.ref b,.ref p,.ref nl] /\ IsTr ju jh jb jg jd je A H 4 b t /\ FT B H 4 p t /\ j9 t <= 4 /\ jW t <= 24 /\ NmAt K H nl ns /\ m <= 6 /\ m <= ns.length /\ L2.Sub (Jb t) m /\ ∀ H',Same H H'->Q (.bl true) H'
section
variable {P:Program} {w:World} {K:PySem.W.Frag} {mg:Str->Option Value} {base:Heap}
variable {ju jh jb jg jc jd je jf:Addr}
theorem jgG {f:Addr} {fd:FuncData} (F:Fun K "_law_of_class" "_law_of_class" ja3 f fd) (jH:mg "_law_of_class" = some (.ref f)) (jZ:mg "isinstance" = none)
    (jN:Own K mg "Bid" ju [])
    (jE:Own K mg "Only" jh ["bundle", "amount"])
    (jt:Own K mg "SoMany" jb ["kind", "least", "amount"])
    (jD:Own K mg "UpTo" jg ["kind", "most", "each"])
    (jx:Own K mg "Several" jc ["bids"])
    (jA:Own K mg "AnyOf" jd ["bids"])
    (jB:Own K mg "OneOf" je ["bids"])
    (jy:Own K mg "Stock" jf ["numbers", "kinds"])
    (jcJ:PySem.W.kitOne K (.ref ju) (.ref jd) = some false)
    (jbS:PySem.W.kitOne K (.ref jh) (.ref jd) = some false)
    (jap:PySem.W.kitOne K (.ref jb) (.ref jd) = some false)
    (jbW:PySem.W.kitOne K (.ref jg) (.ref jd) = some false)
    (ZM:PySem.W.kitOne K (.ref jc) (.ref jd) = some false)
    (zG:PySem.W.kitOne K (.ref jd) (.ref jd) = some true)
    (jbe:PySem.W.kitOne K (.ref je) (.ref jd) = some false)
    (jbi:PySem.W.kitOne K (.ref jf) (.ref jd) = some false)
    (jcK:PySem.W.kitOne K (.ref ju) (.ref je) = some false)
    (jbT:PySem.W.kitOne K (.ref jh) (.ref je) = some false)
    (jaq:PySem.W.kitOne K (.ref jb) (.ref je) = some false)
    (jbX:PySem.W.kitOne K (.ref jg) (.ref je) = some false)
    (ZP:PySem.W.kitOne K (.ref jc) (.ref je) = some false)
    (jbd:PySem.W.kitOne K (.ref jd) (.ref je) = some false)
    (zH:PySem.W.kitOne K (.ref je) (.ref je) = some true)
    (jbj:PySem.W.kitOne K (.ref jf) (.ref je) = some false)
    (jds:PySem.W.kitOne K (.ref ju) (.ref jh) = some false)
    (Z4:PySem.W.kitOne K (.ref jh) (.ref jh) = some true)
    (jbg:PySem.W.kitOne K (.ref jb) (.ref jh) = some false)
    (jcM:PySem.W.kitOne K (.ref jg) (.ref jh) = some false)
    (jan:PySem.W.kitOne K (.ref jc) (.ref jh) = some false)
    (jbN:PySem.W.kitOne K (.ref jd) (.ref jh) = some false)
    (jbQ:PySem.W.kitOne K (.ref je) (.ref jh) = some false)
    (jbU:PySem.W.kitOne K (.ref jf) (.ref jh) = some false)
    (jbP:PySem.W.kitOne K (.ref ju) (.ref jb) = some false)
    (jbf:PySem.W.kitOne K (.ref jh) (.ref jb) = some false)
    (Yl:PySem.W.kitOne K (.ref jb) (.ref jb) = some true)
    (jbk:PySem.W.kitOne K (.ref jg) (.ref jb) = some false)
    (Zn:PySem.W.kitOne K (.ref jc) (.ref jb) = some false)
    (jal:PySem.W.kitOne K (.ref jd) (.ref jb) = some false)
    (jam:PySem.W.kitOne K (.ref je) (.ref jb) = some false)
    (jar:PySem.W.kitOne K (.ref jf) (.ref jb) = some false)
    (jdt:PySem.W.kitOne K (.ref ju) (.ref jg) = some false)
    (jcL:PySem.W.kitOne K (.ref jh) (.ref jg) = some false)
    (jbh:PySem.W.kitOne K (.ref jb) (.ref jg) = some false)
    (Z5:PySem.W.kitOne K (.ref jg) (.ref jg) = some true)
    (jao:PySem.W.kitOne K (.ref jc) (.ref jg) = some false)
    (jbO:PySem.W.kitOne K (.ref jd) (.ref jg) = some false)
    (jbR:PySem.W.kitOne K (.ref je) (.ref jg) = some false)
    (jbV:PySem.W.kitOne K (.ref jf) (.ref jg) = some false):jK P w K mg base 1 "_law_of_class" ["_law_bid", "_law_form_here"] [] (jcQ K ju jh jb jg jc jd je jf):=by
  refine F.jX jH (bnd2 F fun _ _ _ _ _ _ _ _=>rfl) jgN (fun vs H Q E h=>?_) (fun cdv A outer s H vs Q E hr h=>?_)
  · obtain ⟨b,p,t,A,B,d,e,rfl,_⟩:=h; rfl
  obtain ⟨b,p,t,A,B,d,e,rfl,hI,hF,q⟩:=h
  refine ⟨_,(R.jk (R.j8 (R.jP Jv (R.jY (R.ixT K) (R.pv 1) R.jj (fun _ _=>rfl)) R.jG (j5 _)) (R.jr (R.jJ (R.Zt rfl jZ rfl jA.at_ (R.pv 0)))) R.jM)
    (R.jk (R.j8 (R.jP Jv (R.jY (R.ixT K) (R.pv 1) R.jj (fun _ _=>rfl)) R.jG (j5 _)) (R.jr (R.jJ (R.Zt rfl jZ rfl jB.at_ (R.pv 0)))) R.jM)
    (R.jk (R.j8 (R.jP Jv (R.jY (R.ixT K) (R.pv 1) R.jj (fun _ _=>rfl)) R.jG (j5 _)) (R.jr (R.jJ (R.Zt rfl jZ rfl jE.at_ (R.pv 0)))) R.jM)
    (R.jk (R.j8 (R.jP Jv (R.jY (R.ixT K) (R.pv 1) R.jj (fun _ _=>rfl)) R.jG (j5 _)) (R.jr (R.jJ (R.Zt rfl jZ rfl jt.at_ (R.pv 0)))) R.jM)
    (R.jk (R.j8 (R.jP Jv (R.jY (R.ixT K) (R.pv 1) R.jj (fun _ _=>rfl)) R.jG (j5 _)) (R.jr (R.jJ (R.Zt rfl jZ rfl jD.at_ (R.pv 0)))) R.jM)
    (R.jr (R.jJ R.jcN))))))),?_⟩
  cases d with
  | zero=>exact hI.elim
  | succ d =>
  cases e with
  | zero=>exact hF.elim
  | succ e =>
  cases t with
  | leaf f =>
    obtain ⟨_,k0,l0,z0,hp,h63,fit⟩:=hF
    obtain ⟨_,hI⟩:=hI
    cases f with
    | none =>
      refine ⟨_,rfl,p,_,_,_,rfl,rfl,SqT.of hp,rfl,rfl,_,rfl,iteF ?_⟩
      refine ⟨_,rfl,p,_,_,_,rfl,rfl,SqT.of hp,rfl,rfl,_,rfl,iteF ?_⟩
      refine ⟨_,rfl,p,_,_,_,rfl,rfl,SqT.of hp,rfl,rfl,_,rfl,iteF ?_⟩
      refine ⟨_,rfl,p,_,_,_,rfl,rfl,SqT.of hp,rfl,rfl,_,rfl,iteF ?_⟩
      refine ⟨_,rfl,p,_,_,_,rfl,rfl,SqT.of hp,rfl,rfl,_,rfl,iteF ?_⟩
      exact q
    | only x m =>
      obtain ⟨dx,hb⟩:=hI
      refine ⟨_,rfl,p,_,_,_,rfl,rfl,SqT.of hp,rfl,rfl,_,rfl,iteF ?_⟩
      refine ⟨_,rfl,p,_,_,_,rfl,rfl,SqT.of hp,rfl,rfl,_,rfl,iteF ?_⟩
      refine ⟨_,rfl,p,_,_,_,rfl,rfl,SqT.of hp,rfl,rfl,_,rfl,iteT ?_⟩
      exact ⟨_,rfl,_,_,true,rfl,jE.ty hb,Z4,q⟩
    | some x k m =>
      obtain ⟨dx,hb⟩:=hI
      refine ⟨_,rfl,p,_,_,_,rfl,rfl,SqT.of hp,rfl,rfl,_,rfl,iteF ?_⟩
      refine ⟨_,rfl,p,_,_,_,rfl,rfl,SqT.of hp,rfl,rfl,_,rfl,iteF ?_⟩
      refine ⟨_,rfl,p,_,_,_,rfl,rfl,SqT.of hp,rfl,rfl,_,rfl,iteF ?_⟩
      refine ⟨_,rfl,p,_,_,_,rfl,rfl,SqT.of hp,rfl,rfl,_,rfl,iteT ?_⟩
      exact ⟨_,rfl,_,_,true,rfl,jt.ty hb,Yl,q⟩
    | most x k m =>
      obtain ⟨dx,hb⟩:=hI
      refine ⟨_,rfl,p,_,_,_,rfl,rfl,SqT.of hp,rfl,rfl,_,rfl,iteF ?_⟩
      refine ⟨_,rfl,p,_,_,_,rfl,rfl,SqT.of hp,rfl,rfl,_,rfl,iteF ?_⟩
      refine ⟨_,rfl,p,_,_,_,rfl,rfl,SqT.of hp,rfl,rfl,_,rfl,iteF ?_⟩
      refine ⟨_,rfl,p,_,_,_,rfl,rfl,SqT.of hp,rfl,rfl,_,rfl,iteF ?_⟩
      refine ⟨_,rfl,p,_,_,_,rfl,rfl,SqT.of hp,rfl,rfl,_,rfl,iteT ?_⟩
      exact ⟨_,rfl,_,_,true,rfl,jD.ty hb,Z5,q⟩
  | node any ts =>
    obtain ⟨l,ps,hp,_⟩:=hF
    obtain ⟨dx,lb,bs,hb,_⟩:=hI
    cases any
    · refine ⟨_,rfl,p,_,_,_,rfl,rfl,SqT.of hp,rfl,rfl,_,rfl,iteF ?_⟩
      refine ⟨_,rfl,p,_,_,_,rfl,rfl,SqT.of hp,rfl,rfl,_,rfl,iteT ?_⟩
      exact ⟨_,rfl,_,_,true,rfl,jB.ty hb,zH,q⟩
    · refine ⟨_,rfl,p,_,_,_,rfl,rfl,SqT.of hp,rfl,rfl,_,rfl,iteT ?_⟩
      exact ⟨_,rfl,_,_,true,rfl,jA.ty hb,zG,q⟩
theorem jkO {f:Addr} {fd:FuncData} (F:Fun K "_law_good" "_law_good" jgc f fd) (jH:mg "_law_good" = some (.ref f)) (jbm:mg "zip" = none) (jbl:mg "min" = none) (Je:mg "len" = none) (jZ:mg "isinstance" = none) (Qm:mg "list" = none)
    (z6:jK P w K mg base 7 "_law_table" ["_law_form_here", "_law_things"] [] (jjO K))
    (jaN:jK P w K mg base 1 "_law_of_class" ["_law_bid", "_law_form_here"] [] (jcQ K ju jh jb jg jc jd je jf))
    (zx:jK P w K mg base 12 "_law_text" ["_law_form_here", "_law_names_here"] [] (jhu K))
    (jac:jK P w K mg base 6 "_law_depth" ["_law_form_here"] [] (jjN K))
    (jaf:jK P w K mg base 6 "_law_tally" ["_law_form_here"] [] (jjP K))
    (Zb:jK P w K mg base 6 "_law_spoken" ["_law_form_here"] [] (jiY K))
    (jdS:jK P w K mg base 1 "_law_whole" ["_law_found"] [] (jgw K))
    (jN:Own K mg "Bid" ju [])
    (jE:Own K mg "Only" jh ["bundle", "amount"])
    (jt:Own K mg "SoMany" jb ["kind", "least", "amount"])
    (jD:Own K mg "UpTo" jg ["kind", "most", "each"])
    (jx:Own K mg "Several" jc ["bids"])
    (jA:Own K mg "AnyOf" jd ["bids"])
    (jB:Own K mg "OneOf" je ["bids"])
    (jy:Own K mg "Stock" jf ["numbers", "kinds"])
    (jbL:∀ C sp,T_depth K ju jh jb jg jc jd je jf C sp->∃ ps,J3 P w K mg base 11 C "depth" ps sp)
    (jbM:∀ C sp,T_tally K ju jh jb jg jc jd je jf C sp->∃ ps,J3 P w K mg base 11 C "tally" ps sp)
    (jaj:∀ C sp,T_spoken K ju jh jb jg jc jd je jf C sp->∃ ps,J3 P w K mg base 6 C "spoken" ps sp)
    (YM:∀ C sp,T_worths K ju jh jb jg jc jd je jf C sp->∃ ps,J3 P w K mg base 10 C "worths" ps sp)
    (Qd:∀ C sp,jhG K ju jh jb jg jc jd je jf C sp->∃ ps,J3 P w K mg base 14 C "words" ps sp)
    (yZ:PySem.W.kitOne K (.ref ju) (.ref ju) = some true)
    (yj:PySem.W.kitOne K (.ref jh) (.ref ju) = some true)
    (qT:PySem.W.kitOne K (.ref jb) (.ref ju) = some true)
    (yl:PySem.W.kitOne K (.ref jg) (.ref ju) = some true)
    (yF:PySem.W.kitOne K (.ref jc) (.ref ju) = some true)
    (Qj:PySem.W.kitOne K (.ref jd) (.ref ju) = some true)
    (Qk:PySem.W.kitOne K (.ref je) (.ref ju) = some true)
    (Y9:PySem.W.kitOne K (.ref jf) (.ref ju) = some false):jK P w K mg base 15 "_law_good" ["_law_bid", "_law_form_here", "_law_names_here"] [] (jhr K ju jh jb jg jc jd je jf):=by
  have isB:∀ {H:Hp} {b:Addr} {d:Nat} {A:Addr->Prop} {t:Tr},IsTr ju jh jb jg jd je A H d b t->∃ t,TyOf K H (.ref b) t /\ PySem.W.kitOne K t (.ref ju) = some true:=fun {H b d A t} hb=>by
    cases d with
    | zero=>exact hb.elim
    | succ d =>
      cases t with
      | leaf f =>
        obtain ⟨_,hb⟩:=hb
        cases f <;> obtain ⟨dx,e⟩:=hb
        · exact ⟨_,jN.ty e,yZ⟩
        · exact ⟨_,jE.ty e,yj⟩
        · exact ⟨_,jt.ty e,qT⟩
        · exact ⟨_,jD.ty e,yl⟩
      | node any ts =>
        obtain ⟨dx,l,bs,e,_⟩:=hb
        cases any
        · exact ⟨_,jB.ty e,Qk⟩
        · exact ⟨_,jA.ty e,Qj⟩
  refine F.jX jH (bnd3 F fun _ _ _ _ _ _ _ _ _=>rfl) jaB (fun vs H Q E h=>?_) (fun cdv A outer s H vs Q E hr h=>?_)
  · obtain ⟨b,p,nl,t,A,B,ns,m,rfl,_⟩:=h; rfl
  obtain ⟨b,p,nl,t,A,B,ns,m,rfl,hI,hF,hd,hy,hN,hm,hmn,hs,q⟩:=h
  have few:jW t <= 100:=by omega
  have hI5:=IsTr.to 4 5 hI (by omega)
  have hF5:=FT.to 4 5 hF (by omega)
  refine ⟨_,(R.jk (R.j8 (R.pt (R.jcc (R.qy (R.JD (R.Zt rfl jZ rfl jN.at_ (R.pv 0)))) (R.jcc (R.qy (R.JD (R.jz jaN hr (by first | decide | omega) rfl (R.pa_c (R.pv 0) (R.pa_c (R.pv 1) R.ji))))) (R.Z8 (R.jP op_ne (R.Qe (R.pv 0) Qd hr (by first | decide | omega) (R.pa_c (R.Qn jdp rfl Qm (boot_list) (R.pa_c (R.pv 2) R.ji)) R.ji)) (R.jz zx hr (by first | decide | omega) rfl (R.pa_c (R.pv 1) (R.pa_c (R.pv 2) R.ji))) (j5 _)))))) (R.jr (R.jJ R.jcN)) R.jM)
    (R.jk (R.jT (i:=3) jaB.nd rfl (Or.inl rfl) (R.JK (R.pa_c (R.ym (R.pv 0) jbL hr (by first | decide | omega)) (R.pa_c (R.ym (R.pv 0) jbM hr (by first | decide | omega)) (R.pa_c (R.ym (R.pv 0) jaj hr (by first | decide | omega)) R.ji)))))
    (R.jk (R.qt PassesOwn.never rfl (R.jeh rfl jbm (R.pa_c (R.pv 3) (R.pa_c (R.JK (R.pa_c (R.jz jac hr (by first | decide | omega) rfl (R.pa_c (R.pv 1) R.ji)) (R.pa_c (R.jz jaf hr (by first | decide | omega) rfl (R.pa_c (R.pv 1) R.ji)) (R.pa_c (R.jz Zb hr (by first | decide | omega) rfl (R.pa_c (R.pv 1) R.ji)) R.ji)))) R.ji))) (R.Z7 K 2 rfl (R.JQ (R.jV (i:=4) jaB.nd rfl (Or.inl rfl)) (R.JQ (R.jV (i:=5) jaB.nd rfl (Or.inl rfl)) R.zc))) (R.jr (R.j8 (R.pt (R.jcc (R.qy (R.JD (R.jz jdS hr (by first | decide | omega) rfl (R.pa_c (R.pv 4) R.ji)))) (R.Z8 (R.jP op_ne (R.pv 4) (R.pv 5) (j5 _))))) (R.jr (R.jJ R.jcN)) R.jM)))
    (R.jk (R.jT (i:=6) jaB.nd rfl (Or.inl rfl) (R.Jz (jdY rfl) rfl jbl (boot_min) (R.pa_c R.jj (R.pa_c (R.Jz Ja rfl Je PySem.boot_len (R.pa_c (R.pv 2) R.ji)) R.ji))))
    (R.jr (R.jJ (R.zb (op_eqI hr.jjY) (R.Qe (R.pv 0) YM hr (by first | decide | omega) (R.pa_c (R.pv 6) R.ji)) (R.jz z6 hr (by first | decide | omega) rfl (R.pa_c (R.pv 1) (R.pa_c (R.pv 6) R.ji))) (j5 _)))))))),?_⟩
  obtain ⟨ty,hty,hk⟩:=isB hI
  refine ⟨_,rfl,_,ty,true,rfl,hty,hk,_,rfl,iteF ?_⟩
  refine ⟨_,rfl,_,rfl,b,p,t,A,B,4,4,rfl,hI,hF,_,rfl,iteF ?_⟩
  obtain ⟨C,dx,ff,sp,g1,g2,g3,g4⟩:=jag K (jc:=jc) (jf:=jf) hI5 few hm hs
  refine ⟨_,rfl,b,C,dx,ff,sp,rfl,g1,g2,g3,_,rfl,nl,_,rfl,.inl hN.1,fun lh hh=>?_⟩
  have s10:=jC hh (.lst (ns.map V.str))
  refine g4 _ lh ns s10 ⟨SqL.of jq,hN.2⟩ hmn _ fun H11 s11=>?_
  have s011:=s10.trans s11
  refine ⟨_,rfl,_,rfl,p,t,B,nl,ns,m,rfl,FT.same s011 hF,few,hN.same s011,hm,hmn,hs,fun H12 s12=>⟨rfl,_,rfl,?_⟩⟩
  rw [decide_eq_true rfl]
  refine iteF ?_
  have s0:=s011.trans s12
  obtain ⟨C1,x1,k1,p1,a1,b1,c1,d1⟩:=jgX K (jc:=jc) (jf:=jf) (IsTr.same s0 hI5) few
  refine ⟨_,rfl,b,C1,x1,k1,p1,rfl,a1,b1,c1,d1 _ fun H1 s1=>?_⟩
  have s01:=s0.trans s1
  obtain ⟨C2,x2,k2,p2,a2,b2,c2,d2⟩:=jgY K (jc:=jc) (jf:=jf) (IsTr.same s01 hI5) few
  refine ⟨_,rfl,b,C2,x2,k2,p2,rfl,a2,b2,c2,d2 _ fun H2 s2=>?_⟩
  have s02:=s01.trans s2
  obtain ⟨C3,x3,k3,p3,a3,b3,c3,d3⟩:=jfp K (jc:=jc) (jf:=jf) (IsTr.same s02 hI5) few
  refine ⟨_,rfl,b,C3,x3,k3,p3,rfl,a3,b3,c3,d3 _ fun H3 s3=>?_⟩
  have s03:=s02.trans s3
  refine ⟨(by show 3 <= sizeLine; decide),fun lt hlt=>?_⟩
  have s4:=s03.trans (jC hlt (.lst [nv (j9 t),nv (jW t),nv (Jb t)]))
  have et:upd H3 lt (.lst [nv (j9 t),nv (jW t),nv (Jb t)]) lt = some (.lst [nv (j9 t),nv (jW t),nv (Jb t)]):=jq
  generalize upd H3 lt (.lst [nv (j9 t),nv (jW t),nv (Jb t)]) = H4 at s4 et ⊢
  refine ⟨_,rfl,_,rfl,p,t,B,rfl,FT.same s4 hF5,few,fun H5 s5=>?_⟩
  refine ⟨_,rfl,p,t,B,rfl,FT.same (s4.trans s5) hF5,few,fun H6 s6=>?_⟩
  have s46:=s5.trans s6
  refine ⟨_,rfl,p,t,B,rfl,FT.same (s4.trans s46) hF5,few,fun H7 s7=>⟨(by show 3 <= sizeLine; decide),fun ld hld=>?_⟩⟩
  have s47:=s46.trans s7
  have s48:=s47.trans (jC hld (.lst [nv (j9 t),nv (jW t),nv (Jb t)]))
  have ed:upd H7 ld (.lst [nv (j9 t),nv (jW t),nv (Jb t)]) ld = some (.lst [nv (j9 t),nv (jW t),nv (Jb t)]):=jq
  generalize upd H7 ld (.lst [nv (j9 t),nv (jW t),nv (Jb t)]) = H8 at s48 ed ⊢
  have et8:=s48 _ _ et
  have s08:=s4.trans s48
  refine ⟨lt,ld,rfl,⟨_,SqL.of et8⟩,⟨_,SqL.of ed⟩,?_⟩
  refine for_zip (xs:=[j9 t,jW t,Jb t].map nv) (ys:=[j9 t,jW t,Jb t].map nv) rfl (fun i σ H'=>Same H8 H' /\ ∃ y1 y2,σ = [some (.ref b),some (.ref p),some (.ref nl),some (.ref lt),y1,y2,none]) ⟨Same.refl _,_,_,rfl⟩ (fun i σ H' _ ⟨s,_⟩=>⟨SqL.of (s _ _ et8),SqL.of (s _ _ ed)⟩) ?_ ?_
  · rintro i x y pp σ H9 hx hy2 ⟨s9,y1,y2,rfl⟩ hpp
    have exy:x = y:=Option.some.inj (hx.symm.trans hy2)
    subst exy
    rw [List.getElem?_map] at hx
    obtain ⟨z,_,rfl⟩:=Option.map_eq_some_iff.mp hx
    have sp:=jC hpp (.tup [nv z,nv z])
    refine ⟨pp,_,rfl,SqT.of jq,rfl,_,_,rfl,_,_,rfl,rfl,?_⟩
    refine ⟨_,rfl,_,.int,rfl,TyOf.int _,_,rfl,iteF ⟨_,rfl,_,rfl,rfl,_,rfl,?_⟩⟩
    rw [decide_eq_true rfl]
    exact iteF ⟨s9.trans sp,_,_,rfl⟩
  rintro σ H9 ⟨s9,y1,y2,rfl⟩
  have s09:=s08.trans s9
  have hN9:=hN.same s09
  refine ⟨_,rfl,nl,_,rfl,.inl hN9.1,_,_,rfl,?_⟩
  have emn:V.int (if (((ns.map V.str).length:Nat):Int) < 4 then (((ns.map V.str).length:Nat):Int) else 4) = nv (min 4 ns.length):=by
    rw [List.length_map]
    show V.int _ = V.int ((min 4 ns.length:Nat):Int)
    congr 1
    split <;> omega
  rw [emn]
  have hn:min 4 ns.length <= 6:=by omega
  generalize min 4 ns.length = n at hn ⊢
  obtain ⟨Cw,dw,fw,spw,w1,w2,w3,w4⟩:=jc0 K (jc:=jc) (jf:=jf) hn (IsTr.same s09 hI)
  refine ⟨_,rfl,b,Cw,dw,fw,spw,rfl,w1,w2,w3,_,rfl,w4 _ fun lf H13 s13' hlf ef=>?_⟩
  have s013:=s09.trans s13'
  refine ⟨_,rfl,_,rfl,p,t,B,n,rfl,hn,FT.same s013 hF,fun lg H14 s14 hlg eg=>?_⟩
  have ef14:=s14 _ _ ef
  refine ⟨lf,lg,tab (Qc t) n,tab (Qc t) n,rfl,rfl,SqL.of ef14,SqL.of eg,?_⟩
  rw [decide_eq_true rfl]
  exact q H14 (s013.trans s14)
end
end My
set_option Elab.async false
set_option linter.all false
namespace L2
open PySem PySem.Spec PyProof.Rows PySem.W
structure FnIn (K:Frag) (f:Addr) (x q:Str) (st:Stmt):Prop where
  ex:∃ oc od kV dc pm an cd ct sl,K.lookup f = some ⟨oc,od,.func (fnOf x q (qu st) (JV st) (jw st) .none kV dc pm an cd ct),sl⟩ /\ codeIn K cd q = true
  kp:keepIn K (.ref f) = true
  fn:isFn K (.ref f) = true
theorem FnIn.of {K:Frag} {f:Addr} {x q:Str} {st:Stmt} {oc kV dc pm cd ct:Value} {od an:Option Addr} {sl:Array (Option Value)} (l:K.lookup f = some ⟨oc,od,.func (fnOf x q (qu st) (JV st) (jw st) .none kV dc pm an cd ct),sl⟩) (c:codeIn K cd q = true) (k:keepIn K (.ref f) = true) (n:isFn K (.ref f) = true):FnIn K f x q st:=⟨⟨oc,od,kV,dc,pm,an,cd,ct,sl,l,c⟩,k,n⟩
theorem FnIn.go {K:Frag} {f:Addr} {x q:Str} {st:Stmt} (h:FnIn K f x q st):∃ fd,Fun K x q st f fd:=by
  obtain ⟨⟨_,_,_,_,_,_,_,_,_,l,c⟩,k,_⟩:=h
  exact ⟨_,fun_mk l c k⟩
structure GFn (K:Frag) (f:Addr) (x:Str) (st:Stmt):Prop where
  at_:nsIn K mainGlobals x = some (some (.ref f))
  fn:FnIn K f x x st
structure MFn (K:Frag) (C:Addr) (m:Str) (f:Addr) (q:Str) (st:Stmt):Prop where
  at_:findIn K (.ref C) m = some (some (.ref f))
  fn:FnIn K f m q st
section
variable {K:Frag} {h:Heap} {mg:Str->Option Value} {f C:Addr} {x q:Str} {st:Stmt}
theorem GFn.go (g:GFn K f x st) (X:K.In h) (G:h.Ns mainGlobals mg):(∃ fd,Fun K x x st f fd) /\ mg x = some (.ref f):=⟨g.fn.go,mg_of X G g.at_⟩
theorem MFn.go (g:MFn K C x f q st):(∃ fd,Fun K x q st f fd) /\ findIn K (.ref C) x = some (some (.ref f)) /\ isFn K (.ref f) = true /\ keepIn K (.ref f) = true:=⟨g.fn.go,g.at_,g.fn.fn,g.fn.kp⟩
end
noncomputable def jgU (K:Frag) (C:Addr):List Str->Prop
  | []=>True
  | f :: fs=>findIn K (.ref C) f = some none /\ jgU K C fs
structure YJ (K:Frag) (x:Str) (C:Addr) (fs:List Str):Prop where
  at_:nsIn K mainGlobals x = some (some (.ref C))
  pg:plainGet K C Str.empty = true
  hd:hasDictIn K C = true
  po:plainOver K C = true
  sa:findIn K (.ref C) "__setattr__" = some (some (.builtin "object.__setattr__"))
  mks:makesIn K C = true
  kp:keepIn K (.ref C) = true
  no:jgU K C fs
  t1:findIn K (.ref C) "__class__" = some (some (.builtin "object.__class__"))
  t2:specialIn K (.builtin "object.__class__") "__get__" = some (some (.builtin "getset_descriptor.__get__"))
  t3:takesIn K (.builtin "object.__class__") = some true
  t4:mroIn K C (.type "object") = some true
theorem jgU.mem {K:Frag} {C:Addr}:∀ {fs:List Str},jgU K C fs->∀ f ∈ fs,findIn K (.ref C) f = some none
  | [],_,_,h=>by cases h
  | g :: fs,n,f,h=>by
    rcases List.mem_cons.mp h with rfl | h
    · exact n.1
    · exact jgU.mem n.2 f h
theorem YJ.own {K:Frag} {h:Heap} {mg:Str->Option Value} {x:Str} {C:Addr} {fs:List Str} (c:YJ K x C fs) (X:K.In h) (G:h.Ns mainGlobals mg):Own K mg x C fs :=
  ⟨mg_of X G c.at_,⟨c.pg,c.hd,c.po,c.sa⟩,c.mks,c.kp,fun f hf=>jgU.mem c.no f hf,c.t1,c.t2,c.t3,c.t4⟩
theorem GFn.of {K:Frag} {f:Addr} {x:Str} {st:Stmt} {oc kV dc pm cd ct:Value} {od an:Option Addr} {sl:Array (Option Value)} (a:nsIn K mainGlobals x = some (some (.ref f))) (l:K.lookup f = some ⟨oc,od,.func (fnOf x x (qu st) (JV st) (jw st) .none kV dc pm an cd ct),sl⟩) (c:codeIn K cd x = true) (k:keepIn K (.ref f) = true) (n:isFn K (.ref f) = true):GFn K f x st:=⟨a,.of l c k n⟩
theorem MFn.of {K:Frag} {C f:Addr} {m q:Str} {st:Stmt} {oc kV dc pm cd ct:Value} {od an:Option Addr} {sl:Array (Option Value)} (a:findIn K (.ref C) m = some (some (.ref f))) (l:K.lookup f = some ⟨oc,od,.func (fnOf m q (qu st) (JV st) (jw st) .none kV dc pm an cd ct),sl⟩) (c:codeIn K cd q = true) (k:keepIn K (.ref f) = true) (n:isFn K (.ref f) = true):MFn K C m f q st:=⟨a,.of l c k n⟩
section
variable {K:Frag} {x:Str} {C:Addr} {f1 f2 f3:Str} (a1:nsIn K mainGlobals x = some (some (.ref C))) (a2:plainGet K C Str.empty = true) (a3:hasDictIn K C = true) (a4:plainOver K C = true) (a5:findIn K (.ref C) "__setattr__" = some (some (.builtin "object.__setattr__"))) (a6:makesIn K C = true) (a7:keepIn K (.ref C) = true)
  (t1:findIn K (.ref C) "__class__" = some (some (.builtin "object.__class__"))) (t2:specialIn K (.builtin "object.__class__") "__get__" = some (some (.builtin "getset_descriptor.__get__"))) (t3:takesIn K (.builtin "object.__class__") = some true) (t4:mroIn K C (.type "object") = some true)
include a1 a2 a3 a4 a5 a6 a7 t1 t2 t3 t4
theorem YJ.of0:YJ K x C []:=⟨a1,a2,a3,a4,a5,a6,a7,trivial,t1,t2,t3,t4⟩
theorem YJ.of1 (n1:findIn K (.ref C) f1 = some none):YJ K x C [f1]:=⟨a1,a2,a3,a4,a5,a6,a7,⟨n1,trivial⟩,t1,t2,t3,t4⟩
theorem YJ.of2 (n1:findIn K (.ref C) f1 = some none) (n2:findIn K (.ref C) f2 = some none):YJ K x C [f1,f2]:=⟨a1,a2,a3,a4,a5,a6,a7,⟨n1,n2,trivial⟩,t1,t2,t3,t4⟩
theorem YJ.of3 (n1:findIn K (.ref C) f1 = some none) (n2:findIn K (.ref C) f2 = some none) (n3:findIn K (.ref C) f3 = some none):YJ K x C [f1,f2,f3]:=⟨a1,a2,a3,a4,a5,a6,a7,⟨n1,n2,n3,trivial⟩,t1,t2,t3,t4⟩
end
end L2
set_option Elab.async false
set_option linter.all false
set_option maxRecDepth 100000
set_option maxHeartbeats 4000000
namespace My
open PySem PySem.Spec PyProof.Rows L2 GM
theorem jgz {c a dx:Addr} {H H':Hp} (h1:H a = none) (h2:H dx = none) (hB:But a (L2.upd (L2.upd H dx (.own a)) a (.ins c dx [])) H'):Same H H':=fun b o e=>by
  have n1:=jU e h1
  have n2:=jU e h2
  exact hB b o n1 (by rw [jO n1,jO n2]; exact e)
noncomputable def t0:Tr:=.node true [.leaf (.some 3 2 7),.leaf (.only 1 10),.node false []]
noncomputable def x0:List Nat:=Zk true ++ j0 [59,32] [j0 [32] [numL ((2:Nat):Int),wOf,j0 [43] [[98],[97]],wFor,numL 7],j0 [32] [61 :: [98],wFor,numL 10],Zk false ++ j0 [59,32] [] ++ [41]] ++ [41]
theorem x0_is:Str.ofString "any(2 of b+a for 7; =b for 10; one())" = tx x0:=by decide +kernel
theorem x0_text:Yk [[97],[98]] (kdOf [[98],[97]]) 4 t0 x0:=by
  refine ⟨[_,_,_],⟨rfl,fun i y t e1 e2=>?_⟩,rfl⟩
  match i with
  | 0 =>
    cases e1; cases e2
    refine ⟨⟨by decide,by decide,by decide,by decide,by decide,by decide⟩,_,⟨j0 [43] [[98],[97]],.inl ⟨[1,0],by simp,by decide,by decide,by decide,by decide,rfl⟩,rfl⟩,rfl⟩
  | 1 =>
    cases e1; cases e2
    refine ⟨⟨by decide,by decide,by decide,by decide⟩,_,⟨61 :: [98],.inr ⟨[98],⟨by decide,by decide⟩,⟨by decide,by decide,by decide⟩,rfl⟩,rfl⟩,rfl⟩
  | 2 =>
    cases e1; cases e2
    exact ⟨[],All2.nil,rfl⟩
  | i + 3=>cases e1
theorem t0_words:qM [Str.ofString "a",Str.ofString "b"] t0 = Str.ofString "any(2 of a+b for 7; a for 10; one())" := by
  unfold t0
  simp only [ZJ,ZG,List.map_cons,List.map_nil]
  decide +kernel
noncomputable def jie (K:PySem.W.Frag):Sp:=fun vs H Q _=>∃ (a:Addr) (ns:List Int),vs = [.ref a] /\ SqL K H a (ns.map V.int) /\ ns.length <= 63 /\ ∀ H',Q (.bl true) H'
section
variable {P:Program} {w:World} {K:PySem.W.Frag} {mg:Str->Option Value} {base:Heap}
variable {ju jh jb jg jc jd je jf:Addr}
theorem ok_law {f:Addr} {fd:FuncData} (F:Fun K "law" "law" jcO f fd) (jH:mg "law" = some (.ref f)) (jbm:mg "zip" = none) (Je:mg "len" = none)
    (jdR:jK P w K mg base 2 "_law_names" ["_law_script", "_law_many"] [] (jgv K))
    (jdQ:jK P w K mg base 2 "_law_kinds" ["_law_script", "_law_names_here"] [] (jgu K))
    (Yg:jK P w K mg base 6 "_law_of_kinds" ["_law_form_here", "_law_kinds_here", "_law_cell_here"] [] (jgS K))
    (yz:jK P w K mg base 8 "_law_free_text" ["_law_form_here", "_law_names_here", "_law_kinds_here", "_law_cell_here"] [] (jgt K))
    (yg:jK P w K mg base 23 "read_bid" ["text", "stock"] [] (jcU K ju jh jb jg jc jd je jf))
    (jfi:jK P w K mg base 3 "_law_form" ["_law_script", "_law_last"] [] (jhq K))
    (Jy:jK P w K mg base 1 "_law_cell" ["_law_script", "_law_k"] [] (jaC K))
    (jdm:jK P w K mg base 15 "_law_good" ["_law_bid", "_law_form_here", "_law_names_here"] [] (jhr K ju jh jb jg jc jd je jf))
    (Z3:jK P w K mg base 15 "shown_bid" ["bid", "stock"] [] (jcp K ju jh jb jg jc jd je jf))
    (zx:jK P w K mg base 12 "_law_text" ["_law_form_here", "_law_names_here"] [] (jhu K))
    (jN:Own K mg "Bid" ju [])
    (jE:Own K mg "Only" jh ["bundle", "amount"])
    (jt:Own K mg "SoMany" jb ["kind", "least", "amount"])
    (jD:Own K mg "UpTo" jg ["kind", "most", "each"])
    (jx:Own K mg "Several" jc ["bids"])
    (jA:Own K mg "AnyOf" jd ["bids"])
    (jB:Own K mg "OneOf" je ["bids"])
    (jy:Own K mg "Stock" jf ["numbers", "kinds"])
    (jdn:Zh P w K mg base 4 "Stock" jf ["self", "rows"] (yu K jf))
    (Qd:∀ C sp,jhG K ju jh jb jg jc jd je jf C sp->∃ ps,J3 P w K mg base 14 C "words" ps sp):FnOk P w K mg base CX0 24 f fd ["_law_script"] (jie K):=by
  refine F.okQ ja8 (fun vs H Q E h=>?_) (fun cdv A outer s H vs Q E hr h=>?_)
  · obtain ⟨a,sc,rfl,_⟩:=h; rfl
  obtain ⟨a,sc,rfl,hS,_,q⟩:=h
  refine ⟨_,(R.jk (R.jT (i:=1) ja8.nd rfl (Or.inl rfl) (R.jz jdR hr (by first | decide | omega) rfl (R.pa_c (R.pv 0) (R.pa_c (R.jF (opE Jm) (R.jz Jy hr (by first | decide | omega) rfl (R.pa_c (R.pv 0) (R.pa_c R.jj R.ji))) R.jj) R.ji))))
    (R.jk (R.jT (i:=2) ja8.nd rfl (Or.inl rfl) (R.jz jdQ hr (by first | decide | omega) rfl (R.pa_c (R.pv 0) (R.pa_c (R.pv 1) R.ji))))
    (R.jk (R.jT (i:=3) ja8.nd rfl (Or.inl rfl) (R.Zu jdn hr (by first | decide | omega) rfl (R.pa_c (R.Jj (jw jcO) ["_law_script", "_law_names_here", "_law_kinds_here", "_law_stock", "_law_form_here", "_law_text_here", "_law_bid", "_law_other", "_law_again"] ["_law_name", "_law_kind"] [] [] rfl rfl rfl ⟨s.heap.objs.size + 1,rfl⟩ rfl rfl (by decide +kernel) (R.jeh rfl jbm (R.pa_c (R.pv 1) (R.pa_c (R.pv 2) R.ji))) (fun C s2 H2 fp=>(R.Z7 K 2 rfl (R.JQ (R.jV (i:=0) (show List.Nodup (["_law_name", "_law_kind"]:List Str) from by decide +kernel) rfl (Or.inl rfl)) (R.JQ (R.jV (i:=1) (show List.Nodup (["_law_name", "_law_kind"]:List Str) from by decide +kernel) rfl (Or.inl rfl)) R.zc)))) (fun C s2 H2 fp=>R.JM) (fun C s2 H2 fp=>(R.Qo (R.pa_c (R.pv 0) (R.pa_c (R.pv 1) R.ji))))) R.ji)))
    (R.jk (R.jT (i:=4) ja8.nd rfl (Or.inl rfl) (R.jz Yg hr (by first | decide | omega) rfl (R.pa_c (R.jz jfi hr (by first | decide | omega) rfl (R.pa_c (R.pv 0) (R.pa_c (R.jF (opE0 jef) (R.jF Qt R.jj (R.Jz Ja rfl Je PySem.boot_len (R.pa_c (R.pv 1) R.ji))) R.jj) R.ji))) (R.pa_c (R.pv 2) (R.pa_c (R.jz Jy hr (by first | decide | omega) rfl (R.pa_c (R.pv 0) (R.pa_c R.jj R.ji))) R.ji)))))
    (R.jk (R.jT (i:=5) ja8.nd rfl (Or.inl rfl) (R.jz yz hr (by first | decide | omega) rfl (R.pa_c (R.pv 4) (R.pa_c (R.pv 1) (R.pa_c (R.pv 2) (R.pa_c (R.jz Jy hr (by first | decide | omega) rfl (R.pa_c (R.pv 0) (R.pa_c R.jj R.ji))) R.ji))))))
    (R.jk (R.jT (i:=6) ja8.nd rfl (Or.inl rfl) (R.jz yg hr (by first | decide | omega) rfl (R.pa_c (R.pv 5) (R.pa_c (R.pv 3) R.ji))))
    (R.jk (R.j8 (R.qy (R.JD (R.jz jdm hr (by first | decide | omega) rfl (R.pa_c (R.pv 6) (R.pa_c (R.pv 4) (R.pa_c (R.pv 1) R.ji)))))) (R.jr (R.jJ R.jcN)) R.jM)
    (R.jk (R.jT (i:=7) ja8.nd rfl (Or.inl rfl) (R.jz yg hr (by first | decide | omega) rfl (R.pa_c R.jG (R.pa_c (R.Zu jdn hr (by first | decide | omega) rfl (R.pa_c (R.JK (R.pa_c (R.Qo (R.pa_c R.jG (R.pa_c R.jG R.ji))) (R.pa_c (R.Qo (R.pa_c R.jG (R.pa_c R.jG R.ji))) R.ji))) R.ji)) R.ji))))
    (R.jk (R.j8 (R.jP op_ne (R.Qe (R.pv 7) Qd hr (by first | decide | omega) (R.pa_c (R.JK (R.pa_c R.jG (R.pa_c R.jG R.ji))) R.ji)) R.jG (j5 _)) (R.jr (R.jJ R.jcN)) R.jM)
    (R.jk (R.jT (i:=8) ja8.nd rfl (Or.inl rfl) (R.jz yg hr (by first | decide | omega) rfl (R.pa_c (R.jz Z3 hr (by first | decide | omega) rfl (R.pa_c (R.pv 6) (R.pa_c (R.pv 3) R.ji))) (R.pa_c (R.pv 3) R.ji))))
    (R.jr (R.jJ (R.jeg (R.zb Jv (R.Qe (R.pv 8) Qd hr (by first | decide | omega) (R.pa_c (R.pv 1) R.ji)) (R.jz zx hr (by first | decide | omega) rfl (R.pa_c (R.pv 4) (R.pa_c (R.pv 1) R.ji))) (j5 _)) (R.jb9 (R.jz jdm hr (by first | decide | omega) rfl (R.pa_c (R.jz yg hr (by first | decide | omega) rfl (R.pa_c (R.pv 5) (R.pa_c (R.pv 3) R.ji))) (R.pa_c (R.pv 4) (R.pa_c (R.pv 1) R.ji)))))))))))))))))),?_⟩
  obtain ⟨m,hm,hm7⟩:=modn (yV sc 0) 7 (by decide)
  refine ⟨_,rfl,_,rfl,a,sc,0,rfl,hS,by decide,fun H1 s1=>⟨_,_,nv m,rfl,rfl,(by show (0:Int) < 7; decide),congrArg V.int hm,a,sc,m,rfl,s1.seq hS,by omega,fun l H2 ns s2 hl0 hl hg=>?_⟩⟩
  have s12:=s1.trans s2
  have hgl:=hg.1
  refine ⟨_,rfl,_,rfl,a,l,sc,ns,rfl,s12.seq hS,hl,by omega,hg.2.1,fun p H3 ks s3 hp0 hp hkl hko=>?_⟩
  have hl3:=s3 _ _ hl
  have s13:=s12.trans s3
  have hG:Good ns ks:=⟨by omega,hg.2.1,hg.2.2,hko⟩
  refine ⟨_,rfl,_,rfl,l,p,rfl,⟨_,SqL.of hl3⟩,⟨_,SqL.of hp⟩,fun r hr0=>?_⟩
  refine jdZ (by rw [List.length_map,List.length_map]; exact hkl.symm) (fun i Hc=>Same H3 Hc /\ ∃ ps:List Addr,Hc r = some (.lst (ps.map V.ref)) /\ ps.length = i /\ ∀ (j:Nat) (b:Addr),ps[j]? = some b->∃ n k,ns[j]? = some n /\ ks[j]? = some k /\ Hc b = some (.tup [sv n,sv k]))
    ⟨jC hr0 _,[],jq,rfl,fun j b e=>by simp at e⟩ (fun i Hc _ h=>⟨SqL.of (h.1 _ _ hl3),SqL.of (h.1 _ _ hp)⟩) (fun i x y b Hc hx hy hP hb=>?_) (fun H4 h4=>?_)
  · rw [List.getElem?_map] at hx hy
    obtain ⟨n,hn,rfl⟩:=Option.map_eq_some_iff.mp hx
    obtain ⟨k,hk,rfl⟩:=Option.map_eq_some_iff.mp hy
    obtain ⟨sP,ps,e1,e2,e3⟩:=hP
    have sb:=jC hb (.tup [sv n,sv k])
    intro K1 K0 g1 g0
    unfold fNil
    dsimp only
    rw [if_pos rfl]
    refine ⟨_,rfl,_,rfl,(by show 2 <= sizeLine; decide),fun b2 hb2=>?_⟩
    have sb2:=jC hb2 (.tup [sv n,sv k])
    have e4:=(sb.trans sb2) _ _ e1
    have hi:i < ns.length:=(List.getElem?_eq_some_iff.mp hn).1
    refine g1 (.ref b2) _ _ e4 (by rw [List.length_map,e2,sizeLine_eq]; omega) ⟨((sP.trans sb).trans sb2).upd hr0 _,ps ++ [b2],?_,by rw [List.length_append,e2]; rfl,fun j c hc=>?_⟩
    · rw [jq,List.map_append]; rfl
    · have nr:∀ d u,upd (upd Hc b (.tup [sv n,sv k])) b2 (.tup [sv n,sv k]) d = some (.tup u)->d ≠ r:=fun d u e z=>by subst z; rw [e4] at e; cases e
      by_cases hj:j < ps.length
      · rw [List.getElem?_append_left hj] at hc
        obtain ⟨n',k',f1,f2,f3⟩:=e3 j c hc
        have f4:=(sb.trans sb2) _ _ f3
        exact ⟨n',k',f1,f2,by rw [jO (nr _ _ f4)]; exact f4⟩
      · have hj2:j = ps.length:=by
          have:=(List.getElem?_eq_some_iff.mp hc).1
          simp at this; omega
        subst hj2
        simp at hc
        subst hc
        rw [e2]
        exact ⟨n,k,hn,hk,by rw [jO (nr _ _ jq)]; exact jq⟩
  obtain ⟨s4,ps,hr4,hps,hrow⟩:=h4
  rw [List.length_map] at hps
  have hl4:=s4 _ _ hl3
  have s14:=s13.trans s4
  refine fun st dx hst hdx hne=>⟨st,dx,r,ns,ks,rfl,jq,⟨ps,?_,hps,hkl,fun j b e=>?_⟩,hG,fun H5 hB hI=>⟨rfl,?_⟩⟩
  · have n1:=jU hr4 hst
    have n2:=jU hr4 hdx
    rw [jO n1,jO n2]; exact hr4
  · obtain ⟨n,k,f1,f2,f3⟩:=hrow j b e
    have n1:=jU f3 hst
    have n2:=jU f3 hdx
    exact ⟨n,k,f1,f2,by rw [jO n1,jO n2]; exact f3⟩
  have s5:=jgz hst hdx hB
  have s15:=s14.trans s5
  have hl5:=s5 _ _ hl4
  have hp5:=s5 _ _ (s4 _ _ hp)
  have hml:(ns.map sv).length = m:=by rw [List.length_map]; exact hgl
  have hm6:m <= 6:=by omega
  obtain ⟨f64,fpos⟩:=pow6 hm6
  refine ⟨_,rfl,_,rfl,l,_,rfl,.inl (SqL.of hl5),(ns.map sv).length,rfl,rfl,by omega,_,_,nv (2 ^ m - 1),rfl,rfl,?_,a,sc,m,rfl,s15.seq hS,hm6,fun pf0 H6 t' s6 hF0 hd0 hy0 hsb0=>?_⟩
  · rw [hml]
    show V.int (((2 ^ m:Nat):Int) - 1) = V.int ((2 ^ m - 1:Nat):Int)
    congr 1; omega
  refine ⟨_,rfl,_,rfl,a,sc,7,rfl,(s15.trans s6).seq hS,by decide,fun H7 s7=>?_⟩
  have s57:=s6.trans s7
  have hkm:ks.length = m:=by rw [hkl]; exact hgl
  refine ⟨pf0,p,t',_,ks,_,rfl,FT.same s7 hF0,s57 _ _ hp5,by omega,by rw [hkm]; exact hsb0,hy0,fun pf H8 t s8 hF dd tt hsb=>?_⟩
  have hF:FT (fun _=>True) H8 4 pf t:=hF.imp fun _ _ _ _=>trivial
  have hd:j9 t <= 4:=by rw [dd]; exact hd0
  have hy:jW t <= 24:=by rw [tt]; exact hy0
  rw [hkm] at hsb
  clear hF0 hd0 hy0 hsb0 dd tt
  have s58:=s57.trans s8
  have s18:=s15.trans s58
  have hI8:=JF.same s58 hI
  have hl8:=s58 _ _ hl5
  have hNK:NK H8 l p ns ks:=⟨hl8,s58 _ _ hp5,hkl,hG⟩
  have hokt:=FT.ok _ hF
  have hsn:L2.Sub (Jb t) ns.length:=by rw [hgl]; exact hsb
  have hN:∀ H',Same H8 H'->NmAt K H' l (ns.map tx):=fun H' S=>jiL (S _ _ hl8) hg.2.1 (by omega)
  have htl:m <= (ns.map tx).length:=by rw [List.length_map]; omega
  refine ⟨_,rfl,_,rfl,_,rfl,_,rfl,a,sc,6,rfl,s18.seq hS,by decide,fun H9 s9=>⟨pf,l,p,t,_,ns,ks,_,rfl,FT.same s9 hF,hNK.same s9,hsn,hy,fun x H10 s10 hX=>?_⟩⟩
  have s810:=s9.trans s10
  refine ⟨_,rfl,_,rfl,x,st,ns,ks,t,rfl,JF.same s810 hI8,hX,hd,hy,fun bb H11 s11 hT=>?_⟩
  have s811:=s810.trans s11
  refine ⟨_,rfl,_,rfl,_,rfl,bb,pf,l,t,_,_,ns.map tx,m,rfl,hT,FT.same s811 hF,hd,hy,hN _ s811,hm6,htl,hsb,fun H12 s12'=>⟨_,rfl,iteF ?_⟩⟩
  have s812:=s811.trans s12'
  have hT12:=IsTr.same s12' hT
  refine ⟨(by show 2 <= sizeLine; decide),fun r1 hr1=>⟨(by show 2 <= sizeLine; decide),fun r2 hr2=>⟨(by show 2 <= sizeLine; decide),fun rr hrr=>?_⟩⟩⟩
  have q1:=jC hr1 (.tup [V.str "a",V.str "b"])
  have q2:=jC hr2 (.tup [V.str "b",V.str "a"])
  have q3:=jC hrr (.lst [V.ref r1,V.ref r2])
  have er1:=(q2.trans q3) _ _ (jq (H:=H12) (a:=r1) (o:=.tup [V.str "a",V.str "b"]))
  have er2:=q3 _ _ (jq (a:=r2) (o:=.tup [V.str "b",V.str "a"]))
  have err:=jq (H:=upd (upd H12 r1 (.tup [V.str "a",V.str "b"])) r2 (.tup [V.str "b",V.str "a"])) (a:=rr) (o:=.lst [V.ref r1,V.ref r2])
  have q13:=(q1.trans q2).trans q3
  generalize upd (upd (upd H12 r1 (.tup [V.str "a",V.str "b"])) r2 (.tup [V.str "b",V.str "a"])) rr (.lst [V.ref r1,V.ref r2]) = H13 at q13 er1 er2 err ⊢
  refine fun su du hsu hdu hnu=>⟨su,du,rr,[[97],[98]],[[98],[97]],rfl,jq,⟨[r1,r2],?_,rfl,rfl,fun j b e=>?_⟩,⟨by decide,by decide,by decide,by decide⟩,fun H14 hB2 hI2=>⟨rfl,?_⟩⟩
  · have n1:=jU err hsu
    have n2:=jU err hdu
    rw [jO n1,jO n2]; exact err
  · match j with
    | 0 =>
      cases e
      refine ⟨[97],[98],rfl,rfl,?_⟩
      rw [jO (jU er1 hsu),jO (jU er1 hdu)]; exact er1
    | 1 =>
      cases e
      refine ⟨[98],[97],rfl,rfl,?_⟩
      rw [jO (jU er2 hsu),jO (jU er2 hdu)]; exact er2
    | j + 2=>cases e
  have s14':=q13.trans (jgz hsu hdu hB2)
  have s814:=s812.trans s14'
  refine ⟨x0,su,[[97],[98]],[[98],[97]],t0,congrArg (fun z=>[V.str z,V.ref su]) x0_is,hI2,x0_text,by decide,by decide,fun bo H15 s15' hTo=>?_⟩
  have s815:=s814.trans s15'
  obtain ⟨C,dx',ff,sp,g1,g2,g3,g4⟩:=jag K (jc:=jc) (jf:=jf) (m:=2) (IsTr.to 4 5 hTo (by decide)) (show jW t0 <= 100 by decide) (by decide) (by unfold L2.Sub; decide)
  refine ⟨_,rfl,bo,C,dx',ff,sp,rfl,g1,g2,g3,(by show 2 <= sizeLine; decide),fun lz hz=>?_⟩
  have s16:=jC hz (.lst [V.str "a",V.str "b"])
  refine g4 _ lz [Str.ofString "a",Str.ofString "b"] s16 ⟨SqL.of jq,fun x hx=>?_,by decide⟩ (by decide) _ fun H17 s17=>?_
  · simp only [List.mem_cons,List.not_mem_nil,or_false] at hx
    rcases hx with rfl | rfl <;> decide
  rw [t0_words]
  refine ⟨rfl,_,rfl,?_⟩
  rw [decide_eq_true rfl]
  refine iteF ?_
  have s17':=s16.trans s17
  have s817:=s815.trans s17'
  have hT17:=IsTr.same ((s14'.trans s15').trans s17') hT12
  obtain ⟨y,hY,ey⟩:=text_canon (kd:=kdOf ks) (ns:=ns) (by omega) 4 t hd hokt hsn
  refine ⟨_,rfl,_,rfl,bb,st,t,_,ns,ks,rfl,IsTr.to 4 5 hT17 (by omega),by omega,JF.same s817 hI8,hsn,fun H18 s18'=>?_⟩
  rw [ey]
  have s818:=s817.trans s18'
  refine ⟨_,rfl,y,st,ns,ks,t,rfl,JF.same s818 hI8,hY,hd,hy,fun ba H19 s19 hTa=>?_⟩
  have s819:=s818.trans s19
  obtain ⟨C2,dx2,ff2,sp2,f1,f2,f3,f4⟩:=jag K (jc:=jc) (jf:=jf) (IsTr.to 4 5 hTa (by omega)) (show jW t <= 100 by omega) hm6 hsb
  refine ⟨_,rfl,ba,C2,dx2,ff2,sp2,rfl,f1,f2,f3,_,rfl,f4 H19 l (ns.map tx) (Same.refl _) (hN _ s819) htl _ fun H20 s20=>?_⟩
  have s820:=s819.trans s20
  refine ⟨_,rfl,_,rfl,pf,t,_,l,ns.map tx,m,rfl,FT.same s820 hF,by omega,hN _ s820,hm6,htl,hsb,fun H21 s21=>⟨rfl,_,rfl,?_⟩⟩
  rw [decide_eq_true rfl]
  refine iteT ?_
  have s821:=s820.trans s21
  refine ⟨_,rfl,_,rfl,x,st,ns,ks,t,rfl,JF.same s821 hI8,hX,hd,hy,fun bc H22 s22 hTc=>?_⟩
  have s822:=s821.trans s22
  exact ⟨_,rfl,_,rfl,bc,pf,l,t,_,_,ns.map tx,m,rfl,hTc,FT.same s822 hF,hd,hy,hN _ s822,hm6,htl,hsb,fun H23 s23=>q _⟩
end
theorem all_mk {l:PySem.W.OpenLaw} {w:World} {K:PySem.W.Frag} {h:Heap} {mg:Str->Option Value} {fa:Addr} (X:K.In h) (G:h.Ns mainGlobals mg) (hfa:mg "law" = some (.ref fa))
    {ju jh jb jg jc jd je jf:Addr}
    (q_Bid:YJ K "Bid" ju [])
    (q_Only:YJ K "Only" jh ["bundle", "amount"])
    (q_SoMany:YJ K "SoMany" jb ["kind", "least", "amount"])
    (q_UpTo:YJ K "UpTo" jg ["kind", "most", "each"])
    (q_Several:YJ K "Several" jc ["bids"])
    (q_AnyOf:YJ K "AnyOf" jd ["bids"])
    (q_OneOf:YJ K "OneOf" je ["bids"])
    (q_Stock:YJ K "Stock" jf ["numbers", "kinds"])
    (in_Bid:PySem.W.findIn K (.ref ju) "__init__" = some (some (.builtin "object.__init__")))
    (jcJ:PySem.W.kitOne K (.ref ju) (.ref jd) = some false)
    (jbS:PySem.W.kitOne K (.ref jh) (.ref jd) = some false)
    (jap:PySem.W.kitOne K (.ref jb) (.ref jd) = some false)
    (jbW:PySem.W.kitOne K (.ref jg) (.ref jd) = some false)
    (ZM:PySem.W.kitOne K (.ref jc) (.ref jd) = some false)
    (zG:PySem.W.kitOne K (.ref jd) (.ref jd) = some true)
    (jbe:PySem.W.kitOne K (.ref je) (.ref jd) = some false)
    (jbi:PySem.W.kitOne K (.ref jf) (.ref jd) = some false)
    (yZ:PySem.W.kitOne K (.ref ju) (.ref ju) = some true)
    (yj:PySem.W.kitOne K (.ref jh) (.ref ju) = some true)
    (qT:PySem.W.kitOne K (.ref jb) (.ref ju) = some true)
    (yl:PySem.W.kitOne K (.ref jg) (.ref ju) = some true)
    (yF:PySem.W.kitOne K (.ref jc) (.ref ju) = some true)
    (Qj:PySem.W.kitOne K (.ref jd) (.ref ju) = some true)
    (Qk:PySem.W.kitOne K (.ref je) (.ref ju) = some true)
    (Y9:PySem.W.kitOne K (.ref jf) (.ref ju) = some false)
    (jcK:PySem.W.kitOne K (.ref ju) (.ref je) = some false)
    (jbT:PySem.W.kitOne K (.ref jh) (.ref je) = some false)
    (jaq:PySem.W.kitOne K (.ref jb) (.ref je) = some false)
    (jbX:PySem.W.kitOne K (.ref jg) (.ref je) = some false)
    (ZP:PySem.W.kitOne K (.ref jc) (.ref je) = some false)
    (jbd:PySem.W.kitOne K (.ref jd) (.ref je) = some false)
    (zH:PySem.W.kitOne K (.ref je) (.ref je) = some true)
    (jbj:PySem.W.kitOne K (.ref jf) (.ref je) = some false)
    (jds:PySem.W.kitOne K (.ref ju) (.ref jh) = some false)
    (Z4:PySem.W.kitOne K (.ref jh) (.ref jh) = some true)
    (jbg:PySem.W.kitOne K (.ref jb) (.ref jh) = some false)
    (jcM:PySem.W.kitOne K (.ref jg) (.ref jh) = some false)
    (jan:PySem.W.kitOne K (.ref jc) (.ref jh) = some false)
    (jbN:PySem.W.kitOne K (.ref jd) (.ref jh) = some false)
    (jbQ:PySem.W.kitOne K (.ref je) (.ref jh) = some false)
    (jbU:PySem.W.kitOne K (.ref jf) (.ref jh) = some false)
    (jbP:PySem.W.kitOne K (.ref ju) (.ref jb) = some false)
    (jbf:PySem.W.kitOne K (.ref jh) (.ref jb) = some false)
    (Yl:PySem.W.kitOne K (.ref jb) (.ref jb) = some true)
    (jbk:PySem.W.kitOne K (.ref jg) (.ref jb) = some false)
    (Zn:PySem.W.kitOne K (.ref jc) (.ref jb) = some false)
    (jal:PySem.W.kitOne K (.ref jd) (.ref jb) = some false)
    (jam:PySem.W.kitOne K (.ref je) (.ref jb) = some false)
    (jar:PySem.W.kitOne K (.ref jf) (.ref jb) = some false)
    (jdt:PySem.W.kitOne K (.ref ju) (.ref jg) = some false)
    (jcL:PySem.W.kitOne K (.ref jh) (.ref jg) = some false)
    (jbh:PySem.W.kitOne K (.ref jb) (.ref jg) = some false)
    (Z5:PySem.W.kitOne K (.ref jg) (.ref jg) = some true)
    (jao:PySem.W.kitOne K (.ref jc) (.ref jg) = some false)
    (jbO:PySem.W.kitOne K (.ref jd) (.ref jg) = some false)
    (jbR:PySem.W.kitOne K (.ref je) (.ref jg) = some false)
    (jbV:PySem.W.kitOne K (.ref jf) (.ref jg) = some false)
    {f0 f1 f2 f3 f4 f5 f6 f7 f8 f9 f10 f11 f12 f13 f14 f15 f16 f17 f18 f19 f20 f21 f22 f23 f24 f25 f26 f27 f28 f29 f30 f31 f32 f33 f34 f35 f36 f37 f38 f39 f40 f41 f42 f43 f44 f45 f46 f47 f48 f49 f50 f51 f52 f54 f55 f56 f57 f58 f59 f60 f61 f62 f63 f64 f65 f66 f67 f68 f69 f70 f71 f72 f73 f74 f75 f76 f77 f78 f79 f80 f81 f82 f83:Addr}
    (q0:GFn K f0 "is_whole" ja5)
    (q1:GFn K f1 "is_within" jaa)
    (q2:GFn K f2 "bundle_of" Z9)
    (q3:GFn K f3 "things_in" zq)
    (q4:GFn K f4 "size_of" jch)
    (q5:GFn K f5 "holds" jek)
    (q6:GFn K f6 "parts_of" zW)
    (q7:GFn K f7 "check_bundle" Y0)
    (q8:GFn K f8 "check_so_many" Yy)
    (q9:GFn K f9 "check_amount" YZ)
    (q10:GFn K f10 "check_bids" Zx)
    (q11:GFn K f11 "depth_over" Q0)
    (q12:GFn K f12 "tally_over" Q4)
    (q13:GFn K f13 "worths_of_nothing" qx)
    (q14:GFn K f14 "shared_out" YD)
    (q15:GFn K f15 "best_share" Yx)
    (q16:GFn K f16 "greater_of" Yz)
    (q17:GFn K f17 "place_words" yL)
    (q18:GFn K f18 "list_words" Q3)
    (q19:GFn K f19 "read_bid" ja6)
    (q20:GFn K f20 "shown_bid" jab)
    (q21:GFn K f21 "bid_told" zU)
    (q22:GFn K f22 "bids_told" yE)
    (q23:GFn K f23 "parted" jdc)
    (q24:GFn K f24 "plain_bid_told" yO)
    (q25:GFn K f25 "has_form" zV)
    (q26:GFn K f26 "place_told" YC)
    (q27:GFn K f27 "number_told" zK)
    (q28:GFn K f28 "is_figures" YB)
    (q29:GFn K f29 "is_name" ZW)
    (q30:GFn K f30 "_law_cell" jga)
    (q31:GFn K f31 "_law_word" jge)
    (q32:GFn K f32 "_law_names" jcy)
    (q33:GFn K f33 "_law_kinds" jcx)
    (q34:GFn K f34 "_law_amount" jda)
    (q35:GFn K f35 "_law_leaf" jgd)
    (q36:GFn K f36 "_law_grouped" jcf)
    (q37:GFn K f37 "_law_place" jcz)
    (q38:GFn K f38 "_law_text" jcg)
    (q39:GFn K f39 "_law_form" jgb)
    (q40:GFn K f40 "_law_size" jdH)
    (q41:GFn K f41 "_law_gives" jei)
    (q42:GFn K f42 "_law_shared" jdb)
    (q43:GFn K f43 "_law_table" YX)
    (q44:GFn K f44 "_law_tally" jaz)
    (q45:GFn K f45 "_law_depth" jay)
    (q46:GFn K f46 "_law_spoken" ja4)
    (q47:GFn K f47 "_law_free_place" QX)
    (q48:GFn K f48 "_law_free_text" zf)
    (q49:GFn K f49 "_law_whole" jej)
    (q50:GFn K f50 "_law_of_class" ja3)
    (q51:GFn K f51 "_law_good" jgc)
    (q52:GFn K f52 "_law_of_kinds" Yp)
    {f53:Addr} {od53 an53:Option Addr} {sl53:Array (Option Value)} {oc53 kV53 dc53 pm53 cd53 ct53:Value}
    (a53:PySem.W.nsIn K mainGlobals "law" = some (some (.ref f53))) (l53:K.lookup f53 = some ⟨oc53,od53,.func (PySem.W.fnOf "law" "law" (qu jcO) (JV jcO) (jw jcO) .none kV53 dc53 pm53 an53 cd53 ct53),sl53⟩) (c53:PySem.W.codeIn K cd53 "law" = true) (k53:PySem.W.keepIn K (.ref f53) = true)
    (q54:MFn K ju "worths" f54 "Bid.worths" Yr)
    (i54_Several:PySem.W.findIn K (.ref jc) "worths" = some (some (.ref f54)))
    (q55:MFn K ju "depth" f55 "Bid.depth" zg)
    (i55_Only:PySem.W.findIn K (.ref jh) "depth" = some (some (.ref f55)))
    (i55_SoMany:PySem.W.findIn K (.ref jb) "depth" = some (some (.ref f55)))
    (i55_UpTo:PySem.W.findIn K (.ref jg) "depth" = some (some (.ref f55)))
    (q56:MFn K ju "tally" f56 "Bid.tally" zj)
    (i56_Only:PySem.W.findIn K (.ref jh) "tally" = some (some (.ref f56)))
    (i56_SoMany:PySem.W.findIn K (.ref jb) "tally" = some (some (.ref f56)))
    (i56_UpTo:PySem.W.findIn K (.ref jg) "tally" = some (some (.ref f56)))
    (q57:MFn K ju "spoken" f57 "Bid.spoken" Yq)
    (q58:MFn K ju "words" f58 "Bid.words" zm)
    (i58_Several:PySem.W.findIn K (.ref jc) "words" = some (some (.ref f58)))
    (q59:MFn K jh "__init__" f59 "Only.__init__" Ys)
    (q60:MFn K jh "worths" f60 "Only.worths" Qf)
    (q61:MFn K jh "spoken" f61 "Only.spoken" yJ)
    (q62:MFn K jh "words" f62 "Only.words" Yt)
    (q63:MFn K jb "__init__" f63 "SoMany.__init__" yr)
    (q64:MFn K jb "worths" f64 "SoMany.worths" qH)
    (q65:MFn K jb "spoken" f65 "SoMany.spoken" Qx)
    (q66:MFn K jb "words" f66 "SoMany.words" yq)
    (q67:MFn K jg "__init__" f67 "UpTo.__init__" Yv)
    (q68:MFn K jg "worths" f68 "UpTo.worths" Qg)
    (q69:MFn K jg "spoken" f69 "UpTo.spoken" yK)
    (q70:MFn K jg "words" f70 "UpTo.words" Yw)
    (q71:MFn K jc "__init__" f71 "Several.__init__" QZ)
    (i71_AnyOf:PySem.W.findIn K (.ref jd) "__init__" = some (some (.ref f71)))
    (i71_OneOf:PySem.W.findIn K (.ref je) "__init__" = some (some (.ref f71)))
    (q72:MFn K jc "depth" f72 "Several.depth" Qu)
    (i72_AnyOf:PySem.W.findIn K (.ref jd) "depth" = some (some (.ref f72)))
    (i72_OneOf:PySem.W.findIn K (.ref je) "depth" = some (some (.ref f72)))
    (q73:MFn K jc "tally" f73 "Several.tally" Qw)
    (i73_AnyOf:PySem.W.findIn K (.ref jd) "tally" = some (some (.ref f73)))
    (i73_OneOf:PySem.W.findIn K (.ref je) "tally" = some (some (.ref f73)))
    (q74:MFn K jc "spoken" f74 "Several.spoken" qZ)
    (i74_AnyOf:PySem.W.findIn K (.ref jd) "spoken" = some (some (.ref f74)))
    (i74_OneOf:PySem.W.findIn K (.ref je) "spoken" = some (some (.ref f74)))
    (q75:MFn K jd "worths" f75 "AnyOf.worths" yo)
    (q76:MFn K jd "words" f76 "AnyOf.words" yH)
    (q77:MFn K je "worths" f77 "OneOf.worths" yp)
    (q78:MFn K je "words" f78 "OneOf.words" yI)
    (q79:MFn K jf "__init__" f79 "Stock.__init__" yN)
    (q80:MFn K jf "many" f80 "Stock.many" jgf)
    (q81:MFn K jf "names" f81 "Stock.names" zJ)
    (q82:MFn K jf "number_of" f82 "Stock.number_of" yt)
    (q83:MFn K jf "kind_of" f83 "Stock.kind_of" Yu)
    (jij:PySem.W.nsIn K mainGlobals "isinstance" = some none)
    (z_int:PySem.W.nsIn K mainGlobals "int" = some none)
    (z_bool:PySem.W.nsIn K mainGlobals "bool" = some none)
    (z_range:PySem.W.nsIn K mainGlobals "range" = some none)
    (z_len:PySem.W.nsIn K mainGlobals "len" = some none)
    (z_list:PySem.W.nsIn K mainGlobals "list" = some none)
    (z_max:PySem.W.nsIn K mainGlobals "max" = some none)
    (z_sum:PySem.W.nsIn K mainGlobals "sum" = some none)
    (z_zip:PySem.W.nsIn K mainGlobals "zip" = some none)
    (z_str:PySem.W.nsIn K mainGlobals "str" = some none)
    (jjc:PySem.W.nsIn K mainGlobals "enumerate" = some none)
    (z_all:PySem.W.nsIn K mainGlobals "all" = some none)
    (z_divmod:PySem.W.nsIn K mainGlobals "divmod" = some none)
    (jj0:PySem.W.nsIn K mainGlobals "reversed" = some none)
    (z_min:PySem.W.nsIn K mainGlobals "min" = some none)
    : ∃ fd:FuncData,(∀ (s:Shared) (v:Value),BindsTo s fd ⟨[v],[]⟩ [("_law_script",v)]) /\ ∀ base:Heap,K.In base->base.Ns mainGlobals mg->FnOk l.prog w K mg base CX0 24 fa fd ["_law_script"] (jie K):=by
  have e:=hfa.symm.trans (PySem.W.mg_of X G a53)
  cases e
  obtain ⟨⟨d0,F0⟩,g0⟩:=q0.go X G
  obtain ⟨⟨d1,F1⟩,g1⟩:=q1.go X G
  obtain ⟨⟨d2,F2⟩,g2⟩:=q2.go X G
  obtain ⟨⟨d3,F3⟩,g3⟩:=q3.go X G
  obtain ⟨⟨d4,F4⟩,g4⟩:=q4.go X G
  obtain ⟨⟨d5,F5⟩,g5⟩:=q5.go X G
  obtain ⟨⟨d6,F6⟩,g6⟩:=q6.go X G
  obtain ⟨⟨d7,F7⟩,g7⟩:=q7.go X G
  obtain ⟨⟨d8,F8⟩,g8⟩:=q8.go X G
  obtain ⟨⟨d9,F9⟩,g9⟩:=q9.go X G
  obtain ⟨⟨d10,F10⟩,g10⟩:=q10.go X G
  obtain ⟨⟨d11,F11⟩,g11⟩:=q11.go X G
  obtain ⟨⟨d12,F12⟩,g12⟩:=q12.go X G
  obtain ⟨⟨d13,F13⟩,g13⟩:=q13.go X G
  obtain ⟨⟨d14,F14⟩,g14⟩:=q14.go X G
  obtain ⟨⟨d15,F15⟩,g15⟩:=q15.go X G
  obtain ⟨⟨d16,F16⟩,g16⟩:=q16.go X G
  obtain ⟨⟨d17,F17⟩,g17⟩:=q17.go X G
  obtain ⟨⟨d18,F18⟩,g18⟩:=q18.go X G
  obtain ⟨⟨d19,F19⟩,g19⟩:=q19.go X G
  obtain ⟨⟨d20,F20⟩,g20⟩:=q20.go X G
  obtain ⟨⟨d21,F21⟩,g21⟩:=q21.go X G
  obtain ⟨⟨d22,F22⟩,g22⟩:=q22.go X G
  obtain ⟨⟨d23,F23⟩,g23⟩:=q23.go X G
  obtain ⟨⟨d24,F24⟩,g24⟩:=q24.go X G
  obtain ⟨⟨d25,F25⟩,g25⟩:=q25.go X G
  obtain ⟨⟨d26,F26⟩,g26⟩:=q26.go X G
  obtain ⟨⟨d27,F27⟩,g27⟩:=q27.go X G
  obtain ⟨⟨d28,F28⟩,g28⟩:=q28.go X G
  obtain ⟨⟨d29,F29⟩,g29⟩:=q29.go X G
  obtain ⟨⟨d30,F30⟩,g30⟩:=q30.go X G
  obtain ⟨⟨d31,F31⟩,g31⟩:=q31.go X G
  obtain ⟨⟨d32,F32⟩,g32⟩:=q32.go X G
  obtain ⟨⟨d33,F33⟩,g33⟩:=q33.go X G
  obtain ⟨⟨d34,F34⟩,g34⟩:=q34.go X G
  obtain ⟨⟨d35,F35⟩,g35⟩:=q35.go X G
  obtain ⟨⟨d36,F36⟩,g36⟩:=q36.go X G
  obtain ⟨⟨d37,F37⟩,g37⟩:=q37.go X G
  obtain ⟨⟨d38,F38⟩,g38⟩:=q38.go X G
  obtain ⟨⟨d39,F39⟩,g39⟩:=q39.go X G
  obtain ⟨⟨d40,F40⟩,g40⟩:=q40.go X G
  obtain ⟨⟨d41,F41⟩,g41⟩:=q41.go X G
  obtain ⟨⟨d42,F42⟩,g42⟩:=q42.go X G
  obtain ⟨⟨d43,F43⟩,g43⟩:=q43.go X G
  obtain ⟨⟨d44,F44⟩,g44⟩:=q44.go X G
  obtain ⟨⟨d45,F45⟩,g45⟩:=q45.go X G
  obtain ⟨⟨d46,F46⟩,g46⟩:=q46.go X G
  obtain ⟨⟨d47,F47⟩,g47⟩:=q47.go X G
  obtain ⟨⟨d48,F48⟩,g48⟩:=q48.go X G
  obtain ⟨⟨d49,F49⟩,g49⟩:=q49.go X G
  obtain ⟨⟨d50,F50⟩,g50⟩:=q50.go X G
  obtain ⟨⟨d51,F51⟩,g51⟩:=q51.go X G
  obtain ⟨⟨d52,F52⟩,g52⟩:=q52.go X G
  have F53:=fun_mk (st:=jcO) l53 c53 k53
  have g53:=PySem.W.mg_of X G a53
  obtain ⟨⟨d54,F54⟩,a54,n54,k54⟩:=q54.go
  obtain ⟨⟨d55,F55⟩,a55,n55,k55⟩:=q55.go
  obtain ⟨⟨d56,F56⟩,a56,n56,k56⟩:=q56.go
  obtain ⟨⟨d57,F57⟩,a57,n57,k57⟩:=q57.go
  obtain ⟨⟨d58,F58⟩,a58,n58,k58⟩:=q58.go
  obtain ⟨⟨d59,F59⟩,a59,n59,k59⟩:=q59.go
  obtain ⟨⟨d60,F60⟩,a60,n60,k60⟩:=q60.go
  obtain ⟨⟨d61,F61⟩,a61,n61,k61⟩:=q61.go
  obtain ⟨⟨d62,F62⟩,a62,n62,k62⟩:=q62.go
  obtain ⟨⟨d63,F63⟩,a63,n63,k63⟩:=q63.go
  obtain ⟨⟨d64,F64⟩,a64,n64,k64⟩:=q64.go
  obtain ⟨⟨d65,F65⟩,a65,n65,k65⟩:=q65.go
  obtain ⟨⟨d66,F66⟩,a66,n66,k66⟩:=q66.go
  obtain ⟨⟨d67,F67⟩,a67,n67,k67⟩:=q67.go
  obtain ⟨⟨d68,F68⟩,a68,n68,k68⟩:=q68.go
  obtain ⟨⟨d69,F69⟩,a69,n69,k69⟩:=q69.go
  obtain ⟨⟨d70,F70⟩,a70,n70,k70⟩:=q70.go
  obtain ⟨⟨d71,F71⟩,a71,n71,k71⟩:=q71.go
  obtain ⟨⟨d72,F72⟩,a72,n72,k72⟩:=q72.go
  obtain ⟨⟨d73,F73⟩,a73,n73,k73⟩:=q73.go
  obtain ⟨⟨d74,F74⟩,a74,n74,k74⟩:=q74.go
  obtain ⟨⟨d75,F75⟩,a75,n75,k75⟩:=q75.go
  obtain ⟨⟨d76,F76⟩,a76,n76,k76⟩:=q76.go
  obtain ⟨⟨d77,F77⟩,a77,n77,k77⟩:=q77.go
  obtain ⟨⟨d78,F78⟩,a78,n78,k78⟩:=q78.go
  obtain ⟨⟨d79,F79⟩,a79,n79,k79⟩:=q79.go
  obtain ⟨⟨d80,F80⟩,a80,n80,k80⟩:=q80.go
  obtain ⟨⟨d81,F81⟩,a81,n81,k81⟩:=q81.go
  obtain ⟨⟨d82,F82⟩,a82,n82,k82⟩:=q82.go
  obtain ⟨⟨d83,F83⟩,a83,n83,k83⟩:=q83.go
  have jZ:=PySem.W.mg_none_of X G jij
  have jat:=PySem.W.mg_none_of X G z_int
  have jd5:=PySem.W.mg_none_of X G z_bool
  have jQ:=PySem.W.mg_none_of X G z_range
  have Je:=PySem.W.mg_none_of X G z_len
  have Qm:=PySem.W.mg_none_of X G z_list
  have QQ:=PySem.W.mg_none_of X G z_max
  have QR:=PySem.W.mg_none_of X G z_sum
  have jbm:=PySem.W.mg_none_of X G z_zip
  have Qp:=PySem.W.mg_none_of X G z_str
  have Yb:=PySem.W.mg_none_of X G jjc
  have jdv:=PySem.W.mg_none_of X G z_all
  have jas:=PySem.W.mg_none_of X G z_divmod
  have YQ:=PySem.W.mg_none_of X G jj0
  have jbl:=PySem.W.mg_none_of X G z_min
  refine ⟨PySem.W.fnOf "law" "law" (qu jcO) (JV jcO) (jw jcO) .none kV53 dc53 pm53 an53 cd53 ct53,fun s v=>.of_eq rfl,fun base _ _=>?_⟩
  have jN:=q_Bid.own X G
  have jE:=q_Only.own X G
  have jt:=q_SoMany.own X G
  have jD:=q_UpTo.own X G
  have jx:=q_Several.own X G
  have jA:=q_AnyOf.own X G
  have jB:=q_OneOf.own X G
  have jy:=q_Stock.own X G
  have jaO:=jgK (P:=l.prog) (w:=w) (base:=base) F0 g0 jZ jat jd5
  have Ju:=jfW (P:=l.prog) (w:=w) (base:=base) F1 g1  jaO
  have qz:=jjE (P:=l.prog) (w:=w) (base:=base) F5 g5
  have Z2:=jfV (P:=l.prog) (w:=w) (base:=base) F2 g2  qz Ju
  have JS:=jfY (P:=l.prog) (w:=w) (base:=base) F3 g3 jQ qz
  have qb:=jhW (P:=l.prog) (w:=w) (base:=base) F4 g4 Je JS
  have jaP:=jgL (P:=l.prog) (w:=w) (base:=base) F6 g6  JS
  have Jx:=jdA (P:=l.prog) (w:=w) (base:=base) F7 g7  Ju
  have JX:=jc7 (P:=l.prog) (w:=w) (base:=base) F8 g8  Ju
  have Jw:=jdz (P:=l.prog) (w:=w) (base:=base) F9 g9  Ju
  have FO_M_Bid_depth:=jb2 (P:=l.prog) (w:=w) (base:=base) F55   jN jE jt jD jx jA jB jy
  have jbL:=jg5 (P:=l.prog) (w:=w) (base:=base) F55 F72 F11 g11 QQ jN jE jt jD jx jA jB jy ⟨a55,n55,k55⟩ ⟨i55_Only,n55,k55⟩ ⟨i55_SoMany,n55,k55⟩ ⟨i55_UpTo,n55,k55⟩ ⟨i72_AnyOf,n72,k72⟩ ⟨i72_OneOf,n72,k72⟩ 5
  have QH:=jbr (P:=l.prog) (w:=w) (base:=base) 4 F11 g11 QQ jN jE jt jD jx jA jB jy (jg5 (P:=l.prog) (w:=w) (base:=base) F55 F72 F11 g11 QQ jN jE jt jD jx jA jB jy ⟨a55,n55,k55⟩ ⟨i55_Only,n55,k55⟩ ⟨i55_SoMany,n55,k55⟩ ⟨i55_UpTo,n55,k55⟩ ⟨i72_AnyOf,n72,k72⟩ ⟨i72_OneOf,n72,k72⟩ 4)
  have FO_M_Bid_tally:=jb3 (P:=l.prog) (w:=w) (base:=base) F56   jN jE jt jD jx jA jB jy
  have jbM:=jg6 (P:=l.prog) (w:=w) (base:=base) F56 F73 F12 g12 QR jN jE jt jD jx jA jB jy ⟨a56,n56,k56⟩ ⟨i56_Only,n56,k56⟩ ⟨i56_SoMany,n56,k56⟩ ⟨i56_UpTo,n56,k56⟩ ⟨i73_AnyOf,n73,k73⟩ ⟨i73_OneOf,n73,k73⟩ 5
  have QM:=jbt (P:=l.prog) (w:=w) (base:=base) 4 F12 g12 QR jN jE jt jD jx jA jB jy (jg6 (P:=l.prog) (w:=w) (base:=base) F56 F73 F12 g12 QR jN jE jt jD jx jA jB jy ⟨a56,n56,k56⟩ ⟨i56_Only,n56,k56⟩ ⟨i56_SoMany,n56,k56⟩ ⟨i56_UpTo,n56,k56⟩ ⟨i73_AnyOf,n73,k73⟩ ⟨i73_OneOf,n73,k73⟩ 4)
  have Ze:=jeQ (P:=l.prog) (w:=w) (base:=base) F10 g10 jZ Qm QH QM jN jE jt jD jx jA jB jy yZ yj qT yl yF Qj Qk Y9
  have j6:=jaY (P:=l.prog) (w:=w) (base:=base) F13 g13 jQ
  have Zd:=jeP (P:=l.prog) (w:=w) (base:=base) F15 g15 QQ jaP
  have QL:=jeU (P:=l.prog) (w:=w) (base:=base) F14 g14 jQ Je Zd
  have QJ:=jeR (P:=l.prog) (w:=w) (base:=base) F16 g16 QQ jbm
  have Jd:=jec (P:=l.prog) (w:=w) (base:=base) F17 g17  JS
  have FO_M_Bid_words:=jb4 (P:=l.prog) (w:=w) (base:=base) F58   jN jE jt jD jx jA jB jy
  have jk6:=jbp (P:=l.prog) (w:=w) (base:=base) F62  Jd jN jE jt jD jx jA jB jy
  have jj1:=ZQ (P:=l.prog) (w:=w) (base:=base) F66  Jd jN jE jt jD jx jA jB jy
  have jk7:=jbq (P:=l.prog) (w:=w) (base:=base) F70  Jd jN jE jt jD jx jA jB jy
  have Qd:=jg7 (P:=l.prog) (w:=w) (base:=base) F58 F62 F66 F70 F76 F78 F18 g18 Jd jN jE jt jD jx jA jB jy ⟨a58,n58,k58⟩ ⟨a62,n62,k62⟩ ⟨a66,n66,k66⟩ ⟨a70,n70,k70⟩ ⟨a76,n76,k76⟩ ⟨a78,n78,k78⟩ 5
  have Yj:=jbs (P:=l.prog) (w:=w) (base:=base) 4 F18 g18 jN jE jt jD jx jA jB jy (jg7 (P:=l.prog) (w:=w) (base:=base) F58 F62 F66 F70 F76 F78 F18 g18 Jd jN jE jt jD jx jA jB jy ⟨a58,n58,k58⟩ ⟨a62,n62,k62⟩ ⟨a66,n66,k66⟩ ⟨a70,n70,k70⟩ ⟨a76,n76,k76⟩ ⟨a78,n78,k78⟩ 4)
  have Yi:=jgJ (P:=l.prog) (w:=w) (base:=base) F25 g25 jdv Je jbm
  have J9:=jhV (P:=l.prog) (w:=w) (base:=base) F29 g29 jdv jZ Qp Je
  have jcY:=jc5 (P:=l.prog) (w:=w) (base:=base) F83  J9 jN jE jt jD jx jA jB jy
  have jbH:=jb6 (P:=l.prog) (w:=w) (base:=base) F82  J9 jN jE jt jD jx jA jB jy
  have jc1:∀ C sp,jgV K ju jh jb jg jc jd je jf C sp->∃ ps,J3 l.prog w K mg base 2 C "kind_of" ps sp:=by
    rintro C sp (⟨e1,e2⟩)
    · subst e2; rw [e1]; exact ⟨_,f83,_,(jcY).mono (by decide),bnd2 F83 fun _ _ _ _ _ _ _ _=>rfl,⟨a83,n83,k83⟩,jy.cls⟩
  have jaV:∀ C sp,jez K ju jh jb jg jc jd je jf C sp->∃ ps,J3 l.prog w K mg base 2 C "number_of" ps sp:=by
    rintro C sp (⟨e1,e2⟩)
    · subst e2; rw [e1]; exact ⟨_,f82,_,(jbH).mono (by decide),bnd2 F82 fun _ _ _ _ _ _ _ _=>rfl,⟨a82,n82,k82⟩,jy.cls⟩
  have QK:=jeT (P:=l.prog) (w:=w) (base:=base) F26 g26  Z2 jN jE jt jD jx jA jB jy jc1 jaV
  have Zf:=jeS (P:=l.prog) (w:=w) (base:=base) F28 g28 jdv Je
  have J0:=jeb (P:=l.prog) (w:=w) (base:=base) F27 g27 jat Zf
  have jcX:=jc2 (P:=l.prog) (w:=w) (base:=base) F59  Jx Jw jN jE jt jD jx jA jB jy
  have jbG:=jb5 (P:=l.prog) (w:=w) (base:=base) F63  Jx JX Jw jN jE jt jD jx jA jB jy
  have jcZ:=jc6 (P:=l.prog) (w:=w) (base:=base) F67  Jx JX Jw jN jE jt jD jx jA jB jy
  have jjf:jik K mg "Bid" ju:=⟨q_Bid.mks,in_Bid,q_Bid.kp,jN.at_⟩
  have jhE:Zh l.prog w K mg base 4 "Only" jh ["self", "bundle", "amount"] (yP K jh):=⟨f59,_,jcX,bnd3 F59 fun _ _ _ _ _ _ _ _ _=>rfl,⟨q_Only.mks,a59,n59,q_Only.kp⟩,jE.at_⟩
  have jdV:Zh l.prog w K mg base 4 "SoMany" jb ["self", "kind", "least", "amount"] (Q6 K jb):=⟨f63,_,jbG,bnd4 F63 fun _ _ _ _ _ _ _ _ _ _=>rfl,⟨q_SoMany.mks,a63,n63,q_SoMany.kp⟩,jt.at_⟩
  have jhF:Zh l.prog w K mg base 4 "UpTo" jg ["self", "kind", "most", "each"] (yR K jg):=⟨f67,_,jcZ,bnd4 F67 fun _ _ _ _ _ _ _ _ _ _=>rfl,⟨q_UpTo.mks,a67,n67,q_UpTo.kp⟩,jD.at_⟩
  have qi:=jcG (P:=l.prog) (w:=w) (base:=base) F24 g24  Yi QK J0 jN jE jt jD jx jA jB jy jjf jhE jdV jhF
  have Zg:=jiQ (P:=l.prog) (w:=w) (base:=base) F23 g23 Yb
  have YK:=fun c=>jbE (P:=l.prog) (w:=w) (base:=base) c F71 Qm Ze jN jE jt jD jx jA jB jy
  have jbJ:Zh l.prog w K mg base 12 "AnyOf" jd ["self", "bids"] (Jq K jd ju jh jb jg jc jd je jf):=⟨f71,_,YK jd,bnd2 F71 fun _ _ _ _ _ _ _ _=>rfl,⟨q_AnyOf.mks,i71_AnyOf,n71,q_AnyOf.kp⟩,jA.at_⟩
  have jbK:Zh l.prog w K mg base 12 "OneOf" je ["self", "bids"] (Jq K je ju jh jb jg jc jd je jf):=⟨f71,_,YK je,bnd2 F71 fun _ _ _ _ _ _ _ _=>rfl,⟨q_OneOf.mks,i71_OneOf,n71,q_OneOf.kp⟩,jB.at_⟩
  have Yh:=fam_read (P:=l.prog) (w:=w) (base:=base) F21 g21 F22 g22 Zg qi jN jE jt jD jx jA jB jy jbJ jbK 4
  have yg:=jgM (P:=l.prog) (w:=w) (base:=base) F19 g19 jZ Qp Je Yh
  have jdT:=jea (P:=l.prog) (w:=w) (base:=base) F81 Qm  jN jE jt jD jx jA jB jy
  have jfJ:∀ C sp,jj3 K ju jh jb jg jc jd je jf C sp->∃ ps,J3 l.prog w K mg base 1 C "names" ps sp:=by
    rintro C sp (⟨e1,e2⟩)
    · subst e2; rw [e1]; exact ⟨_,f81,_,(jdT).mono (by decide),bnd1 F81 fun _ _ _ _ _ _ _=>rfl,⟨a81,n81,k81⟩,jy.cls⟩
  have Z3:=jfX (P:=l.prog) (w:=w) (base:=base) F20 g20   jN jE jt jD jx jA jB jy Qd jfJ
  have Jy:=jkM (P:=l.prog) (w:=w) (base:=base) F30 g30 Je
  have Zc:=jkS (P:=l.prog) (w:=w) (base:=base) F31 g31 jQ jas
  have jdR:=jjz (P:=l.prog) (w:=w) (base:=base) F32 g32 jQ Qm YQ Jy Zc
  have jdQ:=jjy (P:=l.prog) (w:=w) (base:=base) F33 g33 jQ Je Zc Jy
  have jcW:=jiN (P:=l.prog) (w:=w) (base:=base) F34 g34
  have jfj:=jkP (P:=l.prog) (w:=w) (base:=base) F35 g35  jcW
  have ZK:=jhU (P:=l.prog) (w:=w) (base:=base) F36 g36 jQ Je jas
  have jae:=jjA (P:=l.prog) (w:=w) (base:=base) F37 g37 jQ
  have zx:=jjl (P:=l.prog) (w:=w) (base:=base) F38 g38 Qp jae 4
  have jfi:=jkN (P:=l.prog) (w:=w) (base:=base) F39 g39 jQ Jy ZK jfj
  have jfk:=jkQ (P:=l.prog) (w:=w) (base:=base) F40 g40 QR
  have jad:=jjx (P:=l.prog) (w:=w) (base:=base) F41 g41 jat jbl jfk
  have Za:=jiO (P:=l.prog) (w:=w) (base:=base) F42 g42 jQ Je
  have z6:=jix (P:=l.prog) (w:=w) (base:=base) F43 g43 jQ QQ Je jad Za 4
  have jaf:=jiy (P:=l.prog) (w:=w) (base:=base) F44 g44 QR 5
  have jac:=jiw (P:=l.prog) (w:=w) (base:=base) F45 g45 QQ 5
  have Zb:=jhN (P:=l.prog) (w:=w) (base:=base) F46 g46 5
  have QD:=jeO (P:=l.prog) (w:=w) (base:=base) F47 g47 QR Je Qm jQ YQ
  have yz:=jeM (P:=l.prog) (w:=w) (base:=base) F48 g48 jQ Je Qp QD 4
  have jdS:=jjD (P:=l.prog) (w:=w) (base:=base) F49 g49 jZ jat jd5
  have jaN:=jgG (P:=l.prog) (w:=w) (base:=base) F50 g50 jZ  jN jE jt jD jx jA jB jy jcJ jbS jap jbW ZM zG jbe jbi jcK jbT jaq jbX ZP jbd zH jbj jds Z4 jbg jcM jan jbN jbQ jbU jbP jbf Yl jbk Zn jal jam jar jdt jcL jbh Z5 jao jbO jbR jbV
  have jk4:=jbn (P:=l.prog) (w:=w) (base:=base) F57   jN jE jt jD jx jA jB jy
  have jkn:=jau (P:=l.prog) (w:=w) (base:=base) F61   jN jE jt jD jx jA jB jy
  have jjd:=Zq (P:=l.prog) (w:=w) (base:=base) F65   jN jE jt jD jx jA jB jy
  have jkp:=jaw (P:=l.prog) (w:=w) (base:=base) F69   jN jE jt jD jx jA jB jy
  have jaj:=jjm (P:=l.prog) (w:=w) (base:=base) F57 F74 F61 F65 F69 jN jE jt jD jx jA jB jy ⟨a57,n57,k57⟩ ⟨a61,n61,k61⟩ ⟨a65,n65,k65⟩ ⟨a69,n69,k69⟩ ⟨i74_AnyOf,n74,k74⟩ ⟨i74_OneOf,n74,k74⟩ 5
  have jk5:=jbo (P:=l.prog) (w:=w) (base:=base) F54  j6 jN jE jt jD jx jA jB jy
  have jko:=jav (P:=l.prog) (w:=w) (base:=base) F60 jQ qz jN jE jt jD jx jA jB jy
  have jje:=Zr (P:=l.prog) (w:=w) (base:=base) F64 jQ qb jN jE jt jD jx jA jB jy
  have jkq:=jax (P:=l.prog) (w:=w) (base:=base) F68 jbl jQ qb jN jE jt jD jx jA jB jy
  have YM:=jjn (P:=l.prog) (w:=w) (base:=base) F54 F60 F64 F68 F75 F77 j6 qz qb QL QJ jQ jbl jN jE jt jD jx jA jB jy ⟨a54,n54,k54⟩ ⟨a60,n60,k60⟩ ⟨a64,n64,k64⟩ ⟨a68,n68,k68⟩ ⟨a75,n75,k75⟩ ⟨a77,n77,k77⟩ 4
  have jdm:=jkO (P:=l.prog) (w:=w) (base:=base) F51 g51 jbm jbl Je jZ Qm z6 jaN zx jac jaf Zb jdS jN jE jt jD jx jA jB jy jbL jbM jaj YM Qd yZ yj qT yl yF Qj Qk Y9
  have Yg:=jfB (P:=l.prog) (w:=w) (base:=base) F52 g52 QR jQ Je 4
  have jcD:=jcF (P:=l.prog) (w:=w) (base:=base) F79 Yb Je J9 jN jE jt jD jx jA jB jy
  have jdn:Zh l.prog w K mg base 4 "Stock" jf ["self", "rows"] (yu K jf):=⟨f79,_,jcD,bnd2 F79 fun _ _ _ _ _ _ _ _=>rfl,⟨q_Stock.mks,a79,n79,q_Stock.kp⟩,jy.at_⟩
  exact ok_law (P:=l.prog) (w:=w) (base:=base) F53 g53 jbm Je jdR jdQ Yg yz yg jfi Jy jdm Z3 zx jN jE jt jD jx jA jB jy jdn Qd
theorem walk {l:PySem.W.OpenLaw} {q:Program} {loose:List Str} {XP:(Str->Option Value)->Heap->Prop} {YP:World->Heap->Prop} {d:DefRec} {K:Params->PySem.W.Frag} (hn:l.most = some 63) (hdf:d.params.defaults = [])
    (hY:∀ (w:World) (h:Heap),YP w h->(K w.params).In h)
    (F:∀ (w:World) (mg:Str->Option Value) (fa:Addr) (h:Heap),(K w.params).In h->h.Ns mainGlobals mg->mg d.name = some (.ref fa) ->
      ∃ fd:FuncData,(∀ (s:Shared) (u:Value),BindsTo s fd ⟨[u],[]⟩ [("_law_script",u)]) /\ ∀ base:Heap,(K w.params).In base->base.Ns mainGlobals mg->FnOk l.prog w (K w.params) mg base CX0 24 fa fd ["_law_script"] (jie (K w.params))) :
    PySem.W.WalkO q loose XP YP l.row.toRowW d [] (fun f vs=>PySem.call f vs) :=
  L2.walk_of (n:=63) (k:=24) (x := "_law_script") (CX:=fun _=>CX0) (sp:=fun w=>jie (K w.params)) hn (by decide) hdf ⟨rfl,by decide,by decide,rfl⟩ hY F (fun _ _ a ns hl _ hS=>⟨a,ns,rfl,hS,hl,fun _=>rfl⟩) fun _ _ _ _ _ z=>z
theorem walkX_of {q:Program} {loose:List Str} {XP:(Str->Option Value)->Heap->Prop} {K:Params->PySem.W.Frag} {as:List Addr} {n t:Nat} {r:PySem.W.RowW} {d:DefRec} {kwd:List (Str × Expr)} {run:Value->List Value->Sem Value} (e:∀ P,as = (K P).map (·.1))
    (h:PySem.W.WalkO q loose XP (PySem.W.InK K) r d kwd run):PySem.W.WalkX q loose XP (PySem.W.X.obsZ as) (PySem.W.X.valZ K n t) r d kwd run :=
  fun w s₀ s₁ mg mb G y a o pm cd doc dV kV h1 h2 h3 h4 h5 h6 args vals as' L hp hl hr hw hlo=>h w s₀ s₁ mg mb G (PySem.W.InK.keeps w _ _ (PySem.W.X.z_facts e y).2.1 L.keeps) a o pm cd doc dV kV h1 h2 h3 h4 h5 h6 args vals as' hp hl hr hw hlo
end My
noncomputable def PySem.W.Fast.tw8692279052190136812:Nat:=0
noncomputable def PySem.W.Fast.tw24990327394271852:Nat:=0
noncomputable def PySem.W.Fast.tw12670575400976088551:Nat:=0
noncomputable def PySem.W.Fast.tw4836146258524138899:Nat:=0
noncomputable def PySem.W.Fast.tw14177362794787701043:Nat:=0
noncomputable def PySem.W.Fast.tw543689002432448180:Nat:=0
noncomputable def PySem.W.Fast.tw2586437223199003831:Nat:=0
noncomputable def PySem.W.Fast.tw13813564407273031608:Nat:=0
noncomputable def PySem.W.Fast.tw16556492810531915530:Nat:=0
noncomputable def PySem.W.Fast.tw12948381183969180536:Nat:=0
noncomputable def PySem.W.Fast.tw16082683939150471840:Nat:=0
noncomputable def PySem.W.Fast.tw6323081782594965477:Nat:=0
noncomputable def PySem.W.Fast.tw1579073319914954731:Nat:=0
noncomputable def PySem.W.Fast.tw14971911338672343116:Nat:=0
noncomputable def PySem.W.Fast.tw4670972611568972258:Nat:=0
noncomputable def PySem.W.Fast.tw16802739481194759656:Nat:=0
noncomputable def PySem.W.Fast.tw12048026132877426890:Nat:=0
noncomputable def PySem.W.Fast.tw17312580092422179152:Nat:=0
noncomputable def PySem.W.Fast.tw12532036220877915737:Nat:=0
noncomputable def PySem.W.Fast.tw15227502533730059970:Nat:=0
noncomputable def PySem.W.Fast.tw7991300427160157829:Nat:=0
noncomputable def PySem.W.Fast.tw8426950358781862478:Nat:=0
noncomputable def PySem.W.Fast.tw8437073967187609209:Nat:=0
noncomputable def PySem.W.Fast.tw10498284883055527464:Nat:=0
noncomputable def PySem.W.Fast.tw9541576941226836859:Nat:=0
noncomputable def PySem.W.Fast.tw1040210238806027286:Nat:=0
noncomputable def PySem.W.Fast.tw11656454980199059699:Nat:=0
noncomputable def PySem.W.Fast.tw16749150120648400846:Nat:=0
noncomputable def PySem.W.Fast.tw8259306123102017887:Nat:=0
noncomputable def PySem.W.Fast.tw4688712806917035922:Nat:=0
noncomputable def PySem.W.Fast.tw8093227408916808949:Nat:=0
noncomputable def PySem.W.Fast.tw16963661787607708082:Nat:=0
noncomputable def PySem.W.Fast.tw10617740336898137065:Nat:=0
noncomputable def PySem.W.Fast.tw2491078441571300617:Nat:=0
noncomputable def PySem.W.Fast.tw4227971214749206038:Nat:=0
noncomputable def PySem.W.Fast.tw8888274001186666774:Nat:=0
noncomputable def PySem.W.Fast.tw11558964850109229814:Nat:=0
noncomputable def PySem.W.Fast.tw17325832612061731009:Nat:=0
noncomputable def PySem.W.Fast.tw6936228283961732455:Nat:=0
noncomputable def PySem.W.Fast.tw15000598486428040058:Nat:=0
noncomputable def PySem.W.Fast.tw11618701520411041226:Nat:=0
noncomputable def PySem.W.Fast.tw11882964179193441983:Nat:=0
noncomputable def PySem.W.Fast.tw5639971412020693118:Nat:=0
noncomputable def PySem.W.Fast.tw15118167194638935076:Nat:=0
noncomputable def PySem.W.Fast.tw4909759311321531052:Nat:=0
noncomputable def PySem.W.Fast.tw13164082376527373134:Nat:=0
noncomputable def PySem.W.Fast.tw16627571064705405193:Nat:=0
noncomputable def PySem.W.Fast.tw11352037757711573743:Nat:=0
noncomputable def PySem.W.Fast.tw10150708639576726953:Nat:=0
noncomputable def PySem.W.Fast.tw9640598105068384315:Nat:=0
noncomputable def PySem.W.Fast.tw8069601762518009352:Nat:=0
noncomputable def PySem.W.Fast.tw4357725677337549538:Nat:=0
noncomputable def PySem.W.Fast.tw7973425042074170092:Nat:=0
noncomputable def PySem.W.Fast.tw11378286917095907942:Nat:=0
noncomputable def PySem.W.Fast.tw5935077360771392121:Nat:=0
noncomputable def PySem.W.Fast.tw6361845157903934956:Nat:=0
noncomputable def PySem.W.Fast.tw7134482405289943647:Nat:=0
noncomputable def PySem.W.Fast.tw12633675728352528848:Nat:=0
noncomputable def PySem.W.Fast.tw11042560732120909087:Nat:=0
noncomputable def PySem.W.Fast.tw1810666798316468778:Nat:=0
noncomputable def PySem.W.Fast.tw17251040723860467060:Nat:=0
noncomputable def PySem.W.Fast.tw4074971908716185418:Nat:=0
noncomputable def PySem.W.Fast.tw7253547881061769481:Nat:=0
noncomputable def PySem.W.Fast.tw17169516987150838128:Nat:=0
noncomputable def PySem.W.Fast.tw17872457033571149231:Nat:=0
noncomputable def PySem.W.Fast.tw11896895485737111718:Nat:=0
noncomputable def PySem.W.Fast.tw16688082918419868861:Nat:=0
noncomputable def PySem.W.Fast.tw16255448308100788292:Nat:=0
noncomputable def PySem.W.Fast.tw9526823392333077860:Nat:=0
noncomputable def PySem.W.Fast.tw8122397627665521307:Nat:=0
noncomputable def PySem.W.Fast.tw13215269892697180355:Nat:=0
noncomputable def PySem.W.Fast.tw2416731241990734731:Nat:=0
noncomputable def PySem.W.Fast.tw8275544688036774387:Nat:=0
noncomputable def PySem.W.Fast.tw4388495998508247752:Nat:=0
noncomputable def PySem.W.Fast.tw15278535517616008132:Nat:=0
noncomputable def PySem.W.Fast.tw3218028915718168558:Nat:=0
noncomputable def PySem.W.Fast.tw8712431992323421191:Nat:=0
noncomputable def PySem.W.Fast.tw1871626456777872255:Nat:=0
noncomputable def PySem.W.Fast.tw14381232188976605982:Nat:=0
noncomputable def PySem.W.Fast.tw133900646522148905:Nat:=0
noncomputable def PySem.W.Fast.tw8540790683115517333:Nat:=0
noncomputable def PySem.W.Fast.tw2016171559152992297:Nat:=0
noncomputable def PySem.W.Fast.tw5072270955046803377:Nat:=0
noncomputable def PySem.W.Fast.tw4100993011456639038:Nat:=0
noncomputable def PySem.W.Fast.tw15411798341330923561:Nat:=0
noncomputable def PySem.W.Fast.tw2321358687081167310:Nat:=0
noncomputable def PySem.W.Fast.tw2919578810717606881:Nat:=0
noncomputable def PySem.W.Fast.tw14201981746622507150:Nat:=0
noncomputable def PySem.W.Fast.tw5724421208150832635:Nat:=0
noncomputable def PySem.W.Fast.tw13212404675884138251:Nat:=0
noncomputable def PySem.W.Fast.tw15443314321025380850:Nat:=0
noncomputable def PySem.W.Fast.tw3560902382776705891:Nat:=0
noncomputable def PySem.W.Fast.tw2499146037647627163:Nat:=0
noncomputable def PySem.W.Fast.tw6188618799636386257:Nat:=0
noncomputable def PySem.W.Fast.tw10230237403036983425:Nat:=0
noncomputable def PySem.W.Fast.tw2799587010643511896:Nat:=0
noncomputable def PySem.W.Fast.tw1606058873104300194:Nat:=0
noncomputable def PySem.W.Fast.tw7681033014888865873:Nat:=0
noncomputable def PySem.W.Fast.tw10144544228632016172:Nat:=0
noncomputable def PySem.W.Fast.tw18283457917325780003:Nat:=0
noncomputable def PySem.W.Fast.tw693642929400959587:Nat:=0
noncomputable def PySem.W.Fast.tw15647356243551319133:Nat:=0
noncomputable def PySem.W.Fast.tw17591701495173155332:Nat:=0
noncomputable def PySem.W.Fast.tw17036100242842775068:Nat:=0
noncomputable def PySem.W.Fast.tw7942926238798836906:Nat:=0
noncomputable def PySem.W.Fast.tw7020153055600140003:Nat:=0
noncomputable def PySem.W.Fast.tw8153786877961845970:Nat:=0
noncomputable def PySem.W.Fast.tw1635506268379958873:Nat:=0
noncomputable def PySem.W.Fast.tw2473273163500540617:Nat:=0
noncomputable def PySem.W.Fast.tw15636670511335253710:Nat:=0
noncomputable def PySem.W.Fast.tw994068605370147478:Nat:=0
noncomputable def PySem.W.Fast.tw1726353413926849069:Nat:=0
noncomputable def PySem.W.Fast.tw16501867472700107346:Nat:=0
noncomputable def PySem.W.Fast.tw1953360390981353461:Nat:=0
noncomputable def PySem.W.Fast.tw10319339667325916090:Nat:=0
noncomputable def PySem.W.Fast.tw3670516301303223693:Nat:=0
noncomputable def PySem.W.Fast.tw10945279442417403118:Nat:=0
noncomputable def PySem.W.Fast.tw11269111258719130443:Nat:=0
noncomputable def PySem.W.Fast.tw1075830308929895678:Nat:=0
noncomputable def PySem.W.Fast.tw16002359242516266066:Nat:=0
noncomputable def PySem.W.Fast.tw11880749822939170785:Nat:=0
noncomputable def PySem.W.Fast.tw16621326279683902216:Nat:=0
noncomputable def PySem.W.Fast.tw908689715730131011:Nat:=0
noncomputable def PySem.W.Fast.tw4986383303100402705:Nat:=0
noncomputable def PySem.W.Fast.tw2259603616007987156:Nat:=0
noncomputable def PySem.W.Fast.tw10415984144656554364:Nat:=0
noncomputable def PySem.W.Fast.tw10474480145831458871:Nat:=0
noncomputable def PySem.W.Fast.tw13823975475015257247:Nat:=0
noncomputable def PySem.W.Fast.tw5818536690159442442:Nat:=0
noncomputable def PySem.W.Fast.tw9295783930143023936:Nat:=0
noncomputable def PySem.W.Fast.tw17191661122678669255:Nat:=0
noncomputable def PySem.W.Fast.tw14247715332164582385:Nat:=0
noncomputable def PySem.W.Fast.tw1117603904564226237:Nat:=0
noncomputable def PySem.W.Fast.tw2420078777694416809:Nat:=0
noncomputable def PySem.W.Fast.tw9596591357387198589:Nat:=0
noncomputable def PySem.W.Fast.tw6266482964133451810:Nat:=0
noncomputable def PySem.W.Fast.tw16131343867749062988:Nat:=0
noncomputable def PySem.W.Fast.tw5018361082487331714:Nat:=0
noncomputable def PySem.W.Fast.tw3353650592754393756:Nat:=0
noncomputable def PySem.W.Fast.tw12891212884085583408:Nat:=0
noncomputable def PySem.W.Fast.tw10332869559737755011:Nat:=0
noncomputable def PySem.W.Fast.tw12762731457496387524:Nat:=0
noncomputable def PySem.W.Fast.tw12173190767163902154:Nat:=0
noncomputable def PySem.W.Fast.tw1659142359669976326:Nat:=0
noncomputable def PySem.W.Fast.tw12572886482290591950:Nat:=0
noncomputable def PySem.W.Fast.tw3102092898981556109:Nat:=0
noncomputable def PySem.W.Fast.tw4712528942293666936:Nat:=0
noncomputable def PySem.W.Fast.tw4615799372719372533:Nat:=0
noncomputable def PySem.W.Fast.tw10241092778200328186:Nat:=0
noncomputable def PySem.W.Fast.tw12631952273712803499:Nat:=0
noncomputable def PySem.W.Fast.tw7934880793231963429:Nat:=0
noncomputable def PySem.W.Fast.tw2238902591249287854:Nat:=0
noncomputable def PySem.W.Fast.tw6663434728972701205:Nat:=0
noncomputable def PySem.W.Fast.tw8927958523828375047:Nat:=0
noncomputable def PySem.W.Fast.tw4577188025911193311:Nat:=0
noncomputable def PySem.W.Fast.tw5509517517571368405:Nat:=0
noncomputable def PySem.W.Fast.tw14282238837153128806:Nat:=0
noncomputable def PySem.W.Fast.tw12871792250205802225:Nat:=0
noncomputable def PySem.W.Fast.tw2510591810477860330:Nat:=0
noncomputable def PySem.W.Fast.tw4015709260381958730:Nat:=0
noncomputable def PySem.W.Fast.tw12464216629091404408:Nat:=0
noncomputable def PySem.W.Fast.tw16989398981996242415:Nat:=0
noncomputable def PySem.W.Fast.tw1258366286750869365:Nat:=0
noncomputable def PySem.W.Fast.tw16395704458079918959:Nat:=0
noncomputable def PySem.W.Fast.tw7304888822447923007:Nat:=0
noncomputable def PySem.W.Fast.tw356513118278155961:Nat:=0
noncomputable def PySem.W.Fast.tw4414785787383426786:Nat:=0
noncomputable def PySem.W.Fast.tw1387812099732786838:Nat:=0
noncomputable def PySem.W.Fast.tw8070201630090899820:Nat:=0
noncomputable def PySem.W.Fast.tw8137462424262307951:Nat:=0
noncomputable def PySem.W.Fast.tw3903184761066083746:Nat:=0
noncomputable def PySem.W.Fast.tw15953219158714958102:Nat:=0
noncomputable def PySem.W.Fast.tw16442143580664103815:Nat:=0
noncomputable def PySem.W.Fast.tw5232792830316276949:Nat:=0
noncomputable def PySem.W.Fast.tw797624551707737412:Nat:=0
noncomputable def PySem.W.Fast.tw12315826885729084885:Nat:=0
noncomputable def PySem.W.Fast.tw18297320770846152927:Nat:=0
noncomputable def PySem.W.Fast.tw7552580769154597252:Nat:=0
noncomputable def PySem.W.Fast.tw656292621013478142:Nat:=0
noncomputable def PySem.W.Fast.tw9166358808711431296:Nat:=0
noncomputable def PySem.W.Fast.tw630860989678324018:Nat:=0
noncomputable def PySem.W.Fast.tw3180035814860302917:Nat:=0
noncomputable def PySem.W.Fast.tw16941025807936697495:Nat:=0
noncomputable def PySem.W.Fast.tw6202936706746906685:Nat:=0
noncomputable def PySem.W.Fast.tw6280482444115193886:Nat:=0
noncomputable def PySem.W.Fast.tw8773897334365204381:Nat:=0
noncomputable def PySem.W.Fast.tw16096851063327368478:Nat:=0
noncomputable def PySem.W.Fast.tw7606334605284695129:Nat:=0
noncomputable def PySem.W.Fast.tw12041865504876592065:Nat:=0
noncomputable def PySem.W.Fast.tw1787088596015079822:Nat:=0
noncomputable def PySem.W.Fast.tw411833409585886438:Nat:=0
noncomputable def PySem.W.Fast.tw7802617052514978257:Nat:=0
noncomputable def PySem.W.Fast.tw93145952391080242:Nat:=0
noncomputable def PySem.W.Fast.tw11770060254749323415:Nat:=0
noncomputable def PySem.W.Fast.tw15293530762657384691:Nat:=0
noncomputable def PySem.W.Fast.tw9073885193979415646:Nat:=0
noncomputable def PySem.W.Fast.tw9284719427480770197:Nat:=0
noncomputable def PySem.W.Fast.tw971097032999894459:Nat:=0
noncomputable def PySem.W.Fast.tw4278748369376407580:Nat:=0
noncomputable def PySem.W.Fast.tw4966319173642920795:Nat:=0
noncomputable def PySem.W.Fast.tw4150553518541935008:Nat:=0
noncomputable def PySem.W.Fast.tw831144264465312557:Nat:=0
noncomputable def PySem.W.Fast.tw4971161788048747832:Nat:=0
noncomputable def PySem.W.Fast.tw7717216820072222071:Nat:=0
noncomputable def PySem.W.Fast.tw8542688976577410823:Nat:=0
noncomputable def PySem.W.Fast.tw16867428927671083092:Nat:=0
noncomputable def PySem.W.Fast.tw12275046790059282188:Nat:=0
noncomputable def PySem.W.Fast.tw10703708541650963356:Nat:=0
noncomputable def PySem.W.Fast.tw17947280663575902465:Nat:=0
noncomputable def PySem.W.Fast.tw8376319009035206810:Nat:=0
noncomputable def PySem.W.Fast.tw8853205884312181644:Nat:=0
noncomputable def PySem.W.Fast.tw6391647086389073990:Nat:=0
noncomputable def PySem.W.Fast.tw12064578070120517182:Nat:=0
noncomputable def PySem.W.Fast.tw4964408050777674965:Nat:=0
noncomputable def PySem.W.Fast.tw5697657953440449329:Nat:=0
noncomputable def PySem.W.Fast.tw5507830863008908738:Nat:=0
noncomputable def PySem.W.Fast.tw1104181654323592123:Nat:=0
noncomputable def PySem.W.Fast.tw12936347710388122510:Nat:=0
noncomputable def PySem.W.Fast.tw3757068437316200739:Nat:=0
noncomputable def PySem.W.Fast.tw7125187188407385731:Nat:=0
noncomputable def PySem.W.Fast.tw2092961387392830936:Nat:=0
noncomputable def PySem.W.Fast.tw6658409769905796956:Nat:=0
noncomputable def PySem.W.Fast.tw8457487837836845707:Nat:=0
noncomputable def PySem.W.Fast.tw4627497326513717304:Nat:=0
noncomputable def PySem.W.Fast.tw5290658957742672327:Nat:=0
noncomputable def PySem.W.Fast.tw1455338664154309938:Nat:=0
noncomputable def PySem.W.Fast.tw14345618167017134761:Nat:=0
noncomputable def PySem.W.Fast.tw3827630478579668455:Nat:=0
noncomputable def PySem.W.Fast.tw1061764842655393471:Nat:=0
noncomputable def PySem.W.Fast.tw14198516718322444696:Nat:=0
noncomputable def PySem.W.Fast.tw17443101844907674933:Nat:=0
noncomputable def PySem.W.Fast.tw7472973139326211549:Nat:=0
noncomputable def PySem.W.Fast.tw1452625907865818931:Nat:=0
noncomputable def PySem.W.Fast.tw9948518705314295503:Nat:=0
noncomputable def PySem.W.Fast.tw4737007169277716379:Nat:=0
noncomputable def PySem.W.Fast.tw6884717493913228763:Nat:=0
noncomputable def PySem.W.Fast.tw2629756441657486570:Nat:=0
noncomputable def PySem.W.Fast.tw6109597470781495290:Nat:=0
noncomputable def PySem.W.Fast.tw13391388185566039742:Nat:=0
noncomputable def PySem.W.Fast.tw3228697330764960328:Nat:=0
noncomputable def PySem.W.Fast.tw11988025029366988688:Nat:=0
noncomputable def PySem.W.Fast.tw6186117436118903296:Nat:=0
noncomputable def PySem.W.Fast.tw1578110962660249546:Nat:=0
noncomputable def PySem.W.Fast.tw7033739875418115700:Nat:=0
noncomputable def PySem.W.Fast.tw6344961242196345934:Nat:=0
noncomputable def PySem.W.Fast.tw13219300515719597308:Nat:=0
noncomputable def PySem.W.Fast.tw6930822934448787376:Nat:=0
noncomputable def PySem.W.Fast.tw4127003377619144539:Nat:=0
noncomputable def PySem.W.Fast.tw4927975614729570732:Nat:=0
noncomputable def PySem.W.Fast.tw16483954957507739760:Nat:=0
noncomputable def PySem.W.Fast.tw13558916444936659993:Nat:=0
noncomputable def PySem.W.Fast.tw12075963987549402095:Nat:=0
noncomputable def PySem.W.Fast.tw1578994397049279030:Nat:=0
noncomputable def PySem.W.Fast.tw11567896198592019897:Nat:=0
noncomputable def PySem.W.Fast.tw16475645745772345585:Nat:=0
noncomputable def PySem.W.Fast.tw939250371501795375:Nat:=0
noncomputable def PySem.W.Fast.tw9287162440177525366:Nat:=0
noncomputable def PySem.W.Fast.tw3566250890801524053:Nat:=0
noncomputable def PySem.W.Fast.tw4088960821094302859:Nat:=0
noncomputable def PySem.W.Fast.tw5853034945863197580:Nat:=0
noncomputable def PySem.W.Fast.tw6331103237996213559:Nat:=0
noncomputable def PySem.W.Fast.tw14571700778483654380:Nat:=0
noncomputable def PySem.W.Fast.tw8619751968687907265:Nat:=0
noncomputable def PySem.W.Fast.tw16508419038462182562:Nat:=0
noncomputable def PySem.W.Fast.tw3966950832546866998:Nat:=0
noncomputable def PySem.W.Fast.tw8498167483435144439:Nat:=0
noncomputable def PySem.W.Fast.tw12906951917953786075:Nat:=0
noncomputable def PySem.W.Fast.tw4257147329359130130:Nat:=0
noncomputable def PySem.W.Fast.tw4758918943337623517:Nat:=0
noncomputable def PySem.W.Fast.tw8649521778561379921:Nat:=0
noncomputable def PySem.W.Fast.tw1811709924771304261:Nat:=0
noncomputable def PySem.W.Fast.tw5603806408075488022:Nat:=0
noncomputable def PySem.W.Fast.tw5103807718770708412:Nat:=0
noncomputable def PySem.W.Fast.tw2893490702558104477:Nat:=0
noncomputable def PySem.W.Fast.tw13093315579490813300:Nat:=0
noncomputable def PySem.W.Fast.tw5108616247281884064:Nat:=0
noncomputable def PySem.W.Fast.tw6400486203281422732:Nat:=0
noncomputable def PySem.W.Fast.tw15287345225587436778:Nat:=0
noncomputable def PySem.W.Fast.tw4783022070021267343:Nat:=0
noncomputable def PySem.W.Fast.tw11109142856285763181:Nat:=0
noncomputable def PySem.W.Fast.tw15757083637090203806:Nat:=0
noncomputable def PySem.W.Fast.tw3896144030867872690:Nat:=0
noncomputable def PySem.W.Fast.tw9108761273434006502:Nat:=0
noncomputable def PySem.W.Fast.tw9104377078862320157:Nat:=0
noncomputable def PySem.W.Fast.tw12864647875910613709:Nat:=0
noncomputable def PySem.W.Fast.tw11809654522467483779:Nat:=0
noncomputable def PySem.W.Fast.tw6721271372456346319:Nat:=0
noncomputable def PySem.W.Fast.tw16435453288878018319:Nat:=0
noncomputable def PySem.W.Fast.tw8620016945843735595:Nat:=0
noncomputable def PySem.W.Fast.tw4901912817472974700:Nat:=0
noncomputable def PySem.W.Fast.tw4444570683772833178:Nat:=0
noncomputable def PySem.W.Fast.tw4085464968461872532:Nat:=0
noncomputable def PySem.W.Fast.tw1500733211636015539:Nat:=0
noncomputable def PySem.W.Fast.tw7930019277904201424:Nat:=0
noncomputable def PySem.W.Fast.tw13163106647473724669:Nat:=0
noncomputable def PySem.W.Fast.tw149536309827411820:Nat:=0
noncomputable def PySem.W.Fast.tw3519692155559330936:Nat:=0
noncomputable def PySem.W.Fast.tw14959910123337226346:Nat:=0
noncomputable def PySem.W.Fast.tw14564310836911618358:Nat:=0
noncomputable def PySem.W.Fast.tw6118530213388818810:Nat:=0
noncomputable def PySem.W.Fast.tw12835053969519011682:Nat:=0
noncomputable def PySem.W.Fast.tw7282172745729558822:Nat:=0
noncomputable def PySem.W.Fast.tw13829418361556207271:Nat:=0
noncomputable def PySem.W.Fast.tw8783745702724527168:Nat:=0
noncomputable def PySem.W.Fast.tw4069348882668234679:Nat:=0
noncomputable def PySem.W.Fast.tw13937444195306806768:Nat:=0
noncomputable def PySem.W.Fast.tw5919278769521886125:Nat:=0
noncomputable def PySem.W.Fast.tw17630577208122780216:Nat:=0
noncomputable def PySem.W.Fast.tw6962647019657898664:Nat:=0
noncomputable def PySem.W.Fast.tw2332836345282922187:Nat:=0
noncomputable def PySem.W.Fast.tw16990379038814729978:Nat:=0
noncomputable def PySem.W.Fast.tw15983481542468887335:Nat:=0
noncomputable def PySem.W.Fast.tw4916644687987225746:Nat:=0
noncomputable def PySem.W.Fast.tw1239270175805611620:Nat:=0
noncomputable def PySem.W.Fast.tw7002033199904671532:Nat:=0
noncomputable def PySem.W.Fast.tw2510488110291069418:Nat:=0
noncomputable def PySem.W.Fast.tw5414914350041713653:Nat:=0
noncomputable def PySem.W.Fast.tw7893216641400557575:Nat:=0
noncomputable def PySem.W.Fast.tw14159615372448420017:Nat:=0
noncomputable def PySem.W.Fast.tw15249899918644896782:Nat:=0
noncomputable def PySem.W.Fast.tw15013058335329316669:Nat:=0
noncomputable def PySem.W.Fast.tw11820868786315596143:Nat:=0
noncomputable def PySem.W.Fast.tw8311511089338611770:Nat:=0
noncomputable def PySem.W.Fast.tw2510944005739207590:Nat:=0
noncomputable def PySem.W.Fast.tw3823911387518480600:Nat:=0
noncomputable def PySem.W.Fast.tw8438323482893622550:Nat:=0
noncomputable def PySem.W.Fast.tw4973809996333000760:Nat:=0
noncomputable def PySem.W.Fast.tw13833894548390234670:Nat:=0
noncomputable def PySem.W.Fast.tw3798501667346352117:Nat:=0
noncomputable def PySem.W.Fast.tw14010405928620716567:Nat:=0
noncomputable def PySem.W.Fast.tw2321182321099486230:Nat:=0
noncomputable def PySem.W.Fast.tw1486602819032686714:Nat:=0
noncomputable def PySem.W.Fast.tw14228517746943047426:Nat:=0
noncomputable def PySem.W.Fast.tw11085914016297680332:Nat:=0
noncomputable def PySem.W.Fast.tw11119767715271925294:Nat:=0
noncomputable def PySem.W.Fast.tw10489246038723103914:Nat:=0
noncomputable def PySem.W.Fast.tw14738919608753498950:Nat:=0
noncomputable def PySem.W.Fast.tw15065881770993785549:Nat:=0
noncomputable def PySem.W.Fast.tw9020587080158807591:Nat:=0
noncomputable def PySem.W.Fast.tw7847610705266271526:Nat:=0
noncomputable def PySem.W.Fast.tw17529104178486808519:Nat:=0
noncomputable def PySem.W.Fast.tw15640224587298450562:Nat:=0
noncomputable def PySem.W.Fast.tw860187699444293130:Nat:=0
noncomputable def PySem.W.Fast.tw13805170506579494414:Nat:=0
noncomputable def PySem.W.Fast.tw9789911308018533443:Nat:=0
noncomputable def PySem.W.Fast.tw1088305482269249329:Nat:=0
noncomputable def PySem.W.Fast.tw3851237495875872452:Nat:=0
noncomputable def PySem.W.Fast.tw3606199075799337130:Nat:=0
noncomputable def PySem.W.Fast.tw5948993179718813374:Nat:=0
noncomputable def PySem.W.Fast.tw5884294629349415816:Nat:=0
noncomputable def PySem.W.Fast.tw5713364379399169370:Nat:=0
noncomputable def PySem.W.Fast.tw8020359966055730049:Nat:=0
noncomputable def PySem.W.Fast.tw8732345647113971019:Nat:=0
noncomputable def PySem.W.Fast.tw14010918991503553256:Nat:=0
noncomputable def PySem.W.Fast.tw1784693091983746388:Nat:=0
noncomputable def PySem.W.Fast.tw11398812435499896809:Nat:=0
noncomputable def PySem.W.Fast.tw15955378170151530714:Nat:=0
noncomputable def PySem.W.Fast.tw6252468526537525446:Nat:=0
noncomputable def PySem.W.Fast.tw4155746685089927086:Nat:=0
noncomputable def PySem.W.Fast.tw2181808183236507136:Nat:=0
noncomputable def PySem.W.Fast.tw1906593529581437036:Nat:=0
noncomputable def PySem.W.Fast.tw6513927265146636193:Nat:=0
noncomputable def PySem.W.Fast.tw1180642536292864339:Nat:=0
noncomputable def PySem.W.Fast.tw4282221159912458986:Nat:=0
noncomputable def PySem.W.Fast.tw14929689363528912431:Nat:=0
noncomputable def PySem.W.Fast.tw5277193497673885482:Nat:=0
noncomputable def PySem.W.Fast.tw17743024578946509502:Nat:=0
noncomputable def PySem.W.Fast.tw6216209466113545740:Nat:=0
noncomputable def PySem.W.Fast.tw11057464485221798191:Nat:=0
noncomputable def PySem.W.Fast.tw12160829988518083986:Nat:=0
noncomputable def PySem.W.Fast.tw15329857816090706301:Nat:=0
noncomputable def PySem.W.Fast.tw12664780334873986944:Nat:=0
noncomputable def PySem.W.Fast.tw2305657157783101024:Nat:=0
noncomputable def PySem.W.Fast.tw6487157206881518997:Nat:=0
noncomputable def PySem.W.Fast.tw8968461226952688666:Nat:=0
noncomputable def PySem.W.Fast.tw4780105482435830097:Nat:=0
noncomputable def PySem.W.Fast.tw10764261405647245693:Nat:=0
noncomputable def PySem.W.Fast.tw14586135069986182086:Nat:=0
noncomputable def PySem.W.Fast.tw15566896248330604121:Nat:=0
noncomputable def PySem.W.Fast.tw9668516151232928688:Nat:=0
noncomputable def PySem.W.Fast.tw13132001864995714138:Nat:=0
noncomputable def PySem.W.Fast.tw358700505069777697:Nat:=0
noncomputable def PySem.W.Fast.tw5298346078244430030:Nat:=0
noncomputable def PySem.W.Fast.tw4140547154555202873:Nat:=0
noncomputable def PySem.W.Fast.tw7146697546621521917:Nat:=0
noncomputable def PySem.W.Fast.tw15097503390422002271:Nat:=0
noncomputable def PySem.W.Fast.tw1749564165163352228:Nat:=0
noncomputable def PySem.W.Fast.tw6926232846004842905:Nat:=0
noncomputable def PySem.W.Fast.tw16856551046654603780:Nat:=0
noncomputable def PySem.W.Fast.tw13690080120763658665:Nat:=0
noncomputable def PySem.W.Fast.tw102874484767972064:Nat:=0
noncomputable def PySem.W.Fast.tw14663878800221781764:Nat:=0
noncomputable def PySem.W.Fast.tw6170234614936816748:Nat:=0
noncomputable def PySem.W.Fast.tw11740403746941656272:Nat:=0
noncomputable def PySem.W.Fast.tw11121972153733755982:Nat:=0
noncomputable def PySem.W.Fast.tw4398552641659720208:Nat:=0
noncomputable def PySem.W.Fast.tw6573143416427455169:Nat:=0
noncomputable def PySem.W.Fast.tw13878023996198089622:Nat:=0
noncomputable def PySem.W.Fast.tw187761299277594287:Nat:=0
noncomputable def PySem.W.Fast.tw14413178406960570086:Nat:=0
noncomputable def PySem.W.Fast.tw7378659070971333913:Nat:=0
noncomputable def PySem.W.Fast.tw3511734747436536396:Nat:=0
noncomputable def PySem.W.Fast.tw7223707692760293595:Nat:=0
noncomputable def PySem.W.Fast.tw1812280199880884952:Nat:=0
noncomputable def PySem.W.Fast.tw5467544585866417723:Nat:=0
noncomputable def PySem.W.Fast.tw17370174388176329962:Nat:=0
noncomputable def PySem.W.Fast.tw16708213953775962080:Nat:=0
noncomputable def PySem.W.Fast.tw15728331569609553459:Nat:=0
noncomputable def PySem.W.Fast.tw3783740344019310947:Nat:=0
noncomputable def PySem.W.Fast.tw13030301696249116486:Nat:=0
noncomputable def PySem.W.Fast.tw3315110484418776458:Nat:=0
noncomputable def PySem.W.Fast.tw1401883989461760889:Nat:=0
noncomputable def PySem.W.Fast.tw303854682482967621:Nat:=0
noncomputable def PySem.W.Fast.tw11398121633789749786:Nat:=0
noncomputable def PySem.W.Fast.tw17078804369403111108:Nat:=0
noncomputable def PySem.W.Fast.tw12625352399562787959:Nat:=0
noncomputable def PySem.W.Fast.tw16360047598829302088:Nat:=0
noncomputable def PySem.W.Fast.tw5592640533502253977:Nat:=0
noncomputable def PySem.W.Fast.tw10431647394075578803:Nat:=0
noncomputable def PySem.W.Fast.tw12124613026011363701:Nat:=0
noncomputable def PySem.W.Fast.tw17386627447510840593:Nat:=0
noncomputable def PySem.W.Fast.tw14291864313881114576:Nat:=0
noncomputable def PySem.W.Fast.tw13246749420479478329:Nat:=0
noncomputable def PySem.W.Fast.tw18234999653324235709:Nat:=0
noncomputable def PySem.W.Fast.tw11984124067222522942:Nat:=0
noncomputable def PySem.W.Fast.tw17887455175031799011:Nat:=0
noncomputable def PySem.W.Fast.tw28599880727190080:Nat:=0
noncomputable def PySem.W.Fast.tw13187673390553849962:Nat:=0
noncomputable def PySem.W.Fast.tw8695663555299782160:Nat:=0
noncomputable def PySem.W.Fast.tw17628369627547468319:Nat:=0
noncomputable def PySem.W.Fast.tw5154142494566187797:Nat:=0
noncomputable def PySem.W.Fast.tw17193002971025256096:Nat:=0
noncomputable def PySem.W.Fast.tw17544981439435260321:Nat:=0
noncomputable def PySem.W.Fast.tw14092963900105869887:Nat:=0
noncomputable def PySem.W.Fast.tw11265409464172443955:Nat:=0
noncomputable def PySem.W.Fast.tw17974139175341463208:Nat:=0
noncomputable def PySem.W.Fast.tw18001451188583076370:Nat:=0
noncomputable def PySem.W.Fast.tw137951287756080253:Nat:=0
noncomputable def PySem.W.Fast.tw14755935536602017343:Nat:=0
noncomputable def PySem.W.Fast.tw1122385370415785775:Nat:=0
noncomputable def PySem.W.Fast.tw15900531287418926185:Nat:=0
noncomputable def PySem.W.Fast.tw5274458634315261865:Nat:=0
noncomputable def PySem.W.Fast.tw879181953029929294:Nat:=0
noncomputable def PySem.W.Fast.tw6377136272902424124:Nat:=0
noncomputable def PySem.W.Fast.tw824670544049139072:Nat:=0
noncomputable def PySem.W.Fast.tw3493366651678440952:Nat:=0
noncomputable def PySem.W.Fast.tw10463597663187694672:Nat:=0
noncomputable def PySem.W.Fast.tw16873211610895077871:Nat:=0
noncomputable def PySem.W.Fast.tw3364039785184354451:Nat:=0
noncomputable def PySem.W.Fast.tw8264381673809077511:Nat:=0
noncomputable def PySem.W.Fast.tw1386051872588500610:Nat:=0
noncomputable def PySem.W.Fast.tw9205733046031346138:Nat:=0
noncomputable def PySem.W.Fast.tw6703765512706950481:Nat:=0
noncomputable def PySem.W.Fast.tw7969053375883151654:Nat:=0
noncomputable def PySem.W.Fast.tw11141150051914809318:Nat:=0
noncomputable def PySem.W.Fast.tw17434981172122708510:Nat:=0
noncomputable def PySem.W.Fast.tw17282496983421526578:Nat:=0
noncomputable def PySem.W.Fast.tw3533908032545244176:Nat:=0
noncomputable def PySem.W.Fast.tw17490237209778336715:Nat:=0
noncomputable def PySem.W.Fast.tw3213000516871367299:Nat:=0
noncomputable def PySem.W.Fast.tw13948120370475692082:Nat:=0
noncomputable def PySem.W.Fast.tw8691510981558627782:Nat:=0
noncomputable def PySem.W.Fast.tw9569867185832015198:Nat:=0
noncomputable def PySem.W.Fast.tw10425073587412752854:Nat:=0
noncomputable def PySem.W.Fast.tw4637619518420388055:Nat:=0
noncomputable def PySem.W.Fast.tw13272474191458334533:Nat:=0
noncomputable def PySem.W.Fast.tw6241931108361843554:Nat:=0
noncomputable def PySem.W.Fast.tw9652816064217357869:Nat:=0
noncomputable def PySem.W.Fast.tw1387400448403372509:Nat:=0
noncomputable def PySem.W.Fast.tw13946209409243680636:Nat:=0
noncomputable def PySem.W.Fast.tw13129200861025754442:Nat:=0
noncomputable def PySem.W.Fast.tw805797620908660723:Nat:=0
noncomputable def PySem.W.Fast.tw9792659619358092303:Nat:=0
noncomputable def PySem.W.Fast.tw8038024485165659980:Nat:=0
noncomputable def PySem.W.Fast.tw15709369391319693832:Nat:=0
noncomputable def PySem.W.Fast.tw18412403959138115786:Nat:=0
noncomputable def PySem.W.Fast.tw9866525659941971702:Nat:=0
noncomputable def PySem.W.Fast.tw15348167286217472821:Nat:=0
noncomputable def PySem.W.Fast.tw3133997343370851414:Nat:=0
noncomputable def PySem.W.Fast.tw15321841373849795365:Nat:=0
noncomputable def PySem.W.Fast.tw18339108977012457479:Nat:=0
noncomputable def PySem.W.Fast.tw1732113039508688690:Nat:=0
noncomputable def PySem.W.Fast.tw10867320481751434787:Nat:=0
noncomputable def PySem.W.Fast.tw12083067281589255925:Nat:=0
noncomputable def PySem.W.Fast.tw7134043015551023015:Nat:=0
noncomputable def PySem.W.Fast.tw13743002088714638772:Nat:=0
noncomputable def PySem.W.Fast.tw5989486036949158849:Nat:=0
noncomputable def PySem.W.Fast.tw4905785077677513289:Nat:=0
noncomputable def PySem.W.Fast.tw6797691362107284883:Nat:=0
noncomputable def PySem.W.Fast.tw8169663583208870413:Nat:=0
noncomputable def PySem.W.Fast.tw6186286362420833384:Nat:=0
noncomputable def PySem.W.Fast.tw9003974664031150597:Nat:=0
noncomputable def PySem.W.Fast.tw11903648383549233718:Nat:=0
noncomputable def PySem.W.Fast.tw4608146628142611158:Nat:=0
noncomputable def PySem.W.Fast.tw9610427416283863543:Nat:=0
noncomputable def PySem.W.Fast.tw11962713384561609856:Nat:=0
noncomputable def PySem.W.Fast.tw9884389726918133470:Nat:=0
noncomputable def PySem.W.Fast.tw15846314972373374003:Nat:=0
noncomputable def PySem.W.Fast.tw10779341392320736712:Nat:=0
noncomputable def PySem.W.Fast.tw8019306338490643267:Nat:=0
noncomputable def PySem.W.Fast.tw5751446386204697908:Nat:=0
noncomputable def PySem.W.Fast.tw3322461800965345494:Nat:=0
noncomputable def PySem.W.Fast.tw7220693893020660183:Nat:=0
noncomputable def PySem.W.Fast.tw17441802329529592207:Nat:=0
noncomputable def PySem.W.Fast.tw5903252593672864257:Nat:=0
noncomputable def PySem.W.Fast.tw9014360391779531472:Nat:=0
noncomputable def PySem.W.Fast.tw5341486474497102532:Nat:=0
noncomputable def PySem.W.Fast.tw13074854572286841560:Nat:=0
noncomputable def PySem.W.Fast.tw5181074138333865196:Nat:=0
noncomputable def PySem.W.Fast.tw16777563974371748606:Nat:=0
noncomputable def PySem.W.Fast.tw15496769465387829369:Nat:=0
noncomputable def PySem.W.Fast.tw1220316520221931864:Nat:=0
noncomputable def PySem.W.Fast.tw17109478842816471298:Nat:=0
noncomputable def PySem.W.Fast.tw17362368483965123286:Nat:=0
noncomputable def PySem.W.Fast.tw16916861174753011430:Nat:=0
noncomputable def PySem.W.Fast.tw15309921613800574378:Nat:=0
noncomputable def PySem.W.Fast.tw7659301111223122317:Nat:=0
noncomputable def PySem.W.Fast.tw9842082142347661880:Nat:=0
noncomputable def PySem.W.Fast.tw17332852307951816332:Nat:=0
noncomputable def PySem.W.Fast.tw870363245258048531:Nat:=0
noncomputable def PySem.W.Fast.tw9904280824339410726:Nat:=0
noncomputable def PySem.W.Fast.tw14777803699837843880:Nat:=0
noncomputable def PySem.W.Fast.tw5945263715128548111:Nat:=0
noncomputable def PySem.W.Fast.tw7820285108430858725:Nat:=0
noncomputable def PySem.W.Fast.tw6778437855973688285:Nat:=0
noncomputable def PySem.W.Fast.tw1341565299250408326:Nat:=0
noncomputable def PySem.W.Fast.tw4030220523455586998:Nat:=0
noncomputable def PySem.W.Fast.tw10888384953277271942:Nat:=0
noncomputable def PySem.W.Fast.tw789100163951826709:Nat:=0
noncomputable def PySem.W.Fast.tw2498822750898985236:Nat:=0
noncomputable def PySem.W.Fast.tw16459133427127154071:Nat:=0
noncomputable def PySem.W.Fast.tw17942419072403995491:Nat:=0
noncomputable def PySem.W.Fast.tw2355142432692300303:Nat:=0
noncomputable def PySem.W.Fast.tw13459815902717181046:Nat:=0
noncomputable def PySem.W.Fast.tw8379833045983123758:Nat:=0
noncomputable def PySem.W.Fast.tw2859209375576781847:Nat:=0
noncomputable def PySem.W.Fast.tw6006113158497787192:Nat:=0
noncomputable def PySem.W.Fast.tw759758562853338668:Nat:=0
noncomputable def PySem.W.Fast.tw1165829560421595320:Nat:=0
noncomputable def PySem.W.Fast.tw16336299360426947068:Nat:=0
noncomputable def PySem.W.Fast.tw3295223821384877537:Nat:=0
noncomputable def PySem.W.Fast.tw7503539311831294385:Nat:=0
noncomputable def PySem.W.Fast.tw8560512285071744056:Nat:=0
noncomputable def PySem.W.Fast.tw16327102544096591744:Nat:=0
noncomputable def PySem.W.Fast.tw12555452354151443866:Nat:=0
noncomputable def PySem.W.Fast.tw14337592063921186000:Nat:=0
noncomputable def PySem.W.Fast.tw14171698581019092356:Nat:=0
noncomputable def PySem.W.Fast.tw6530618730355585246:Nat:=0
noncomputable def PySem.W.Fast.tw5284965895239943650:Nat:=0
noncomputable def PySem.W.Fast.tw11603229284217862275:Nat:=0
noncomputable def PySem.W.Fast.tw16326025633697343285:Nat:=0
noncomputable def PySem.W.Fast.tw14009595854323375290:Nat:=0
noncomputable def PySem.W.Fast.tw1543050970904745460:Nat:=0
noncomputable def PySem.W.Fast.tw8911355277867264651:Nat:=0
noncomputable def PySem.W.Fast.tw9095652746485742592:Nat:=0
noncomputable def PySem.W.Fast.tw6303086004214489627:Nat:=0
noncomputable def PySem.W.Fast.tw9282562744865455667:Nat:=0
noncomputable def PySem.W.Fast.tw1953309533998938562:Nat:=0
noncomputable def PySem.W.Fast.tw1262689764912267006:Nat:=0
noncomputable def PySem.W.Fast.tw934650450630262902:Nat:=0
noncomputable def PySem.W.Fast.tw10625102300628638784:Nat:=0
noncomputable def PySem.W.Fast.tw44660066837004900:Nat:=0
noncomputable def PySem.W.Fast.tw9660182046836670329:Nat:=0
noncomputable def PySem.W.Fast.tw3037043770008724659:Nat:=0
noncomputable def PySem.W.Fast.tw17201874957623857414:Nat:=0
noncomputable def PySem.W.Fast.tw4847967092696943140:Nat:=0
noncomputable def PySem.W.Fast.tw12780261023599497063:Nat:=0
noncomputable def PySem.W.Fast.tw1912252714630798452:Nat:=0
noncomputable def PySem.W.Fast.tw7520712856392692686:Nat:=0
noncomputable def PySem.W.Fast.tw17290370263558696259:Nat:=0
noncomputable def PySem.W.Fast.tw8536244026274828729:Nat:=0
noncomputable def PySem.W.Fast.tw15300557389690995940:Nat:=0
noncomputable def PySem.W.Fast.tw14044940081952448779:Nat:=0
noncomputable def PySem.W.Fast.tw4873405729471575099:Nat:=0
noncomputable def PySem.W.Fast.tw2137908787295737670:Nat:=0
noncomputable def PySem.W.Fast.tw2908767536828021609:Nat:=0
noncomputable def PySem.W.Fast.tw15561634771122583964:Nat:=0
noncomputable def PySem.W.Fast.tw16957384994432638773:Nat:=0
noncomputable def PySem.W.Fast.tw13308886071877984690:Nat:=0
noncomputable def PySem.W.Fast.tw17947437182548929768:Nat:=0
noncomputable def PySem.W.Fast.tw1981633126443844950:Nat:=0
noncomputable def PySem.W.Fast.tw12747236813130464575:Nat:=0
noncomputable def PySem.W.Fast.tw486185622457551388:Nat:=0
noncomputable def PySem.W.Fast.tw279235103387123718:Nat:=0
noncomputable def PySem.W.Fast.tw16925694973018974116:Nat:=0
noncomputable def PySem.W.Fast.tw7505098396354596271:Nat:=0
noncomputable def PySem.W.Fast.tw13653111942179126132:Nat:=0
noncomputable def PySem.W.Fast.tw12700642053519164636:Nat:=0
noncomputable def PySem.W.Fast.tw1589181012716447383:Nat:=0
noncomputable def PySem.W.Fast.tw7992170666675618053:Nat:=0
noncomputable def PySem.W.Fast.tw12251205398827439318:Nat:=0
noncomputable def PySem.W.Fast.tw13383661044501129625:Nat:=0
noncomputable def PySem.W.Fast.tw9239597636381488866:Nat:=0
noncomputable def PySem.W.Fast.tw2947281093398715838:Nat:=0
noncomputable def PySem.W.Fast.tw17107163711531285550:Nat:=0
noncomputable def PySem.W.Fast.tw11809227175458324818:Nat:=0
noncomputable def PySem.W.Fast.tw13996264402526796942:Nat:=0
noncomputable def PySem.W.Fast.tw17518141917261659982:Nat:=0
noncomputable def PySem.W.Fast.tw17128744433571522743:Nat:=0
noncomputable def PySem.W.Fast.tw3140659274702780720:Nat:=0
noncomputable def PySem.W.Fast.tw12869112014592465014:Nat:=0
noncomputable def PySem.W.Fast.tw7814449268846678275:Nat:=0
noncomputable def PySem.W.Fast.tw9894405837871660300:Nat:=0
noncomputable def PySem.W.Fast.tw7150379882490192297:Nat:=0
noncomputable def PySem.W.Fast.tw965397341648235960:Nat:=0
noncomputable def PySem.W.Fast.tw11447289076662504248:Nat:=0
noncomputable def PySem.W.Fast.tw17869271320486730182:Nat:=0
noncomputable def PySem.W.Fast.tw15753556899486674827:Nat:=0
noncomputable def PySem.W.Fast.tw14047787401006207129:Nat:=0
noncomputable def PySem.W.Fast.tw10869102173190122110:Nat:=0
noncomputable def PySem.W.Fast.tw14084144435531539524:Nat:=0
noncomputable def PySem.W.Fast.tw69077850300284133:Nat:=0
noncomputable def PySem.W.Fast.tw15197430209994998044:Nat:=0
noncomputable def PySem.W.Fast.tw9514617787252054466:Nat:=0
noncomputable def PySem.W.Fast.tw3483575013535126728:Nat:=0
noncomputable def PySem.W.Fast.tw6579309087635753021:Nat:=0
noncomputable def PySem.W.Fast.tw17826870282630547532:Nat:=0
noncomputable def PySem.W.Fast.tw8456913185325906900:Nat:=0
noncomputable def PySem.W.Fast.tw1856562693693387666:Nat:=0
noncomputable def PySem.W.Fast.tw13787716874680274884:Nat:=0
noncomputable def PySem.W.Fast.tw6398412947230937548:Nat:=0
noncomputable def PySem.W.Fast.tw4818502080322814955:Nat:=0
noncomputable def PySem.W.Fast.tw17378302558957685642:Nat:=0
noncomputable def PySem.W.Fast.tw15897218350656758961:Nat:=0
noncomputable def PySem.W.Fast.tw928692431276301940:Nat:=0
noncomputable def PySem.W.Fast.tw16317149573990409223:Nat:=0
noncomputable def PySem.W.Fast.tw3853021463008338610:Nat:=0
noncomputable def PySem.W.Fast.tw5763924511825892261:Nat:=0
noncomputable def PySem.W.Fast.tw4796737267866826101:Nat:=0
noncomputable def PySem.W.Fast.tw16132036404576935613:Nat:=0
noncomputable def PySem.W.Fast.tw17220455395386522983:Nat:=0
noncomputable def PySem.W.Fast.tw12998339960799430731:Nat:=0
noncomputable def PySem.W.Fast.tw433153369469777962:Nat:=0
noncomputable def PySem.W.Fast.tw10781070106679601968:Nat:=0
noncomputable def PySem.W.Fast.tw16544086811442579455:Nat:=0
noncomputable def PySem.W.Fast.tw10406010855301613536:Nat:=0
noncomputable def PySem.W.Fast.tw2043947930041161522:Nat:=0
noncomputable def PySem.W.Fast.tw3901847520050247583:Nat:=0
noncomputable def PySem.W.Fast.tw6423175987209372850:Nat:=0
noncomputable def PySem.W.Fast.tw7630056347481963124:Nat:=0
noncomputable def PySem.W.Fast.tw3075252230452241465:Nat:=0
noncomputable def PySem.W.Fast.tw4229129682456008761:Nat:=0
noncomputable def PySem.W.Fast.tw5375752925435878219:Nat:=0
noncomputable def PySem.W.Fast.tw10150647909104131064:Nat:=0
noncomputable def PySem.W.Fast.tw3103605437349703112:Nat:=0
noncomputable def PySem.W.Fast.tw14213965542094802120:Nat:=0
noncomputable def PySem.W.Fast.tw8030141217404143469:Nat:=0
noncomputable def PySem.W.Fast.tw6779151018498917246:Nat:=0
noncomputable def PySem.W.Fast.tw5496107922401283025:Nat:=0
noncomputable def PySem.W.Fast.tw8881622566560178187:Nat:=0
noncomputable def PySem.W.Fast.tw1130448841246903734:Nat:=0
noncomputable def PySem.W.Fast.tw13095651012386028178:Nat:=0
noncomputable def PySem.W.Fast.tw16944700556510915688:Nat:=0
noncomputable def PySem.W.Fast.tw7791465210529409324:Nat:=0
noncomputable def PySem.W.Fast.tw4902865649670783716:Nat:=0
noncomputable def PySem.W.Fast.tw15302566450573260419:Nat:=0
noncomputable def PySem.W.Fast.tw14525235347978933371:Nat:=0
noncomputable def PySem.W.Fast.tw7047228606434368949:Nat:=0
noncomputable def PySem.W.Fast.tw7929080659366941478:Nat:=0
noncomputable def PySem.W.Fast.tw16444693215361908892:Nat:=0
noncomputable def PySem.W.Fast.tw12621997301342105776:Nat:=0
noncomputable def PySem.W.Fast.tw6067621517179947589:Nat:=0
noncomputable def PySem.W.Fast.tw5095136755722848039:Nat:=0
noncomputable def PySem.W.Fast.tw15179142436235791187:Nat:=0
noncomputable def PySem.W.Fast.tw9914933230235119421:Nat:=0
noncomputable def PySem.W.Fast.tw2830196023904615522:Nat:=0
noncomputable def PySem.W.Fast.tw13490567399692474536:Nat:=0
noncomputable def PySem.W.Fast.tw7963116160606879186:Nat:=0
noncomputable def PySem.W.Fast.tw11684330457769625300:Nat:=0
noncomputable def PySem.W.Fast.tw14740117138331035744:Nat:=0
noncomputable def PySem.W.Fast.tw10319622798440472946:Nat:=0
noncomputable def PySem.W.Fast.tw12880994198895641520:Nat:=0
noncomputable def PySem.W.Fast.tw15873106396942992219:Nat:=0
noncomputable def PySem.W.Fast.tw14669431513240740268:Nat:=0
noncomputable def PySem.W.Fast.tw17239678291639403279:Nat:=0
noncomputable def PySem.W.Fast.tw17094329834665474899:Nat:=0
noncomputable def PySem.W.Fast.tw7793039701711337648:Nat:=0
noncomputable def PySem.W.Fast.tw7440600541138006294:Nat:=0
noncomputable def PySem.W.Fast.tw7740409099493091735:Nat:=0
noncomputable def PySem.W.Fast.tw17151998045396631297:Nat:=0
noncomputable def PySem.W.Fast.tw1107837520603074756:Nat:=0
noncomputable def PySem.W.Fast.tw6750626675557450310:Nat:=0
noncomputable def PySem.W.Fast.tw5230631273113454051:Nat:=0
noncomputable def PySem.W.Fast.tw3813980324424324790:Nat:=0
noncomputable def PySem.W.Fast.tw6486084613626399199:Nat:=0
noncomputable def PySem.W.Fast.tw17552562171474373731:Nat:=0
noncomputable def PySem.W.Fast.tw16183590241200499772:Nat:=0
noncomputable def PySem.W.Fast.tw2384953808483725489:Nat:=0
noncomputable def PySem.W.Fast.tw16161463550289914055:Nat:=0
noncomputable def PySem.W.Fast.tw11617930890853236584:Nat:=0
noncomputable def PySem.W.Fast.tw17579294515197042477:Nat:=0
noncomputable def PySem.W.Fast.tw9811495607350819109:Nat:=0
noncomputable def PySem.W.Fast.tw7878123248120162828:Nat:=0
noncomputable def PySem.W.Fast.tw3585356581870273526:Nat:=0
noncomputable def PySem.W.Fast.tw17927406755772089079:Nat:=0
open PySem PySem.W PyProof.Rows
set_option maxRecDepth 100000 in
set_option maxHeartbeats 0 in
theorem PySem.Challenge.cw_gavelhall_k34_read_bids_holds : PySem.Challenge.rw_gavelhall_k34_read_bids.Holds := by
  w_on; o_law; z_head; (case hw=>w_witness2)
  k_fill
  refine My.walkX_of (fun _=>by kernel_rfl) (My.walk (l:=PySem.Challenge.rw_gavelhall_k34_read_bids) rfl rfl (fun w h Y=>Y) ?F)
  case F =>
    intro w mg fa h KX G hmg
    refine' My.all_mk KX G hmg (.of0 ?_ ?_ ?_ ?_ ?_ ?_ ?_ ?_ ?_ ?_ ?_) (.of2 ?_ ?_ ?_ ?_ ?_ ?_ ?_ ?_ ?_ ?_ ?_ ?_ ?_) (.of3 ?_ ?_ ?_ ?_ ?_ ?_ ?_ ?_ ?_ ?_ ?_ ?_ ?_ ?_) (.of3 ?_ ?_ ?_ ?_ ?_ ?_ ?_ ?_ ?_ ?_ ?_ ?_ ?_ ?_) (.of1 ?_ ?_ ?_ ?_ ?_ ?_ ?_ ?_ ?_ ?_ ?_ ?_) (.of1 ?_ ?_ ?_ ?_ ?_ ?_ ?_ ?_ ?_ ?_ ?_ ?_) (.of1 ?_ ?_ ?_ ?_ ?_ ?_ ?_ ?_ ?_ ?_ ?_ ?_) (.of2 ?_ ?_ ?_ ?_ ?_ ?_ ?_ ?_ ?_ ?_ ?_ ?_ ?_) ?_ ?_ ?_ ?_ ?_ ?_ ?_ ?_ ?_ ?_ ?_ ?_ ?_ ?_ ?_ ?_ ?_ ?_ ?_ ?_ ?_ ?_ ?_ ?_ ?_ ?_ ?_ ?_ ?_ ?_ ?_ ?_ ?_ ?_ ?_ ?_ ?_ ?_ ?_ ?_ ?_ ?_ ?_ ?_ ?_ ?_ ?_ ?_ ?_ (.of ?_ ?_ ?_ ?_ ?_) (.of ?_ ?_ ?_ ?_ ?_) (.of ?_ ?_ ?_ ?_ ?_) (.of ?_ ?_ ?_ ?_ ?_) (.of ?_ ?_ ?_ ?_ ?_) (.of ?_ ?_ ?_ ?_ ?_) (.of ?_ ?_ ?_ ?_ ?_) (.of ?_ ?_ ?_ ?_ ?_) (.of ?_ ?_ ?_ ?_ ?_) (.of ?_ ?_ ?_ ?_ ?_) (.of ?_ ?_ ?_ ?_ ?_) (.of ?_ ?_ ?_ ?_ ?_) (.of ?_ ?_ ?_ ?_ ?_) (.of ?_ ?_ ?_ ?_ ?_) (.of ?_ ?_ ?_ ?_ ?_) (.of ?_ ?_ ?_ ?_ ?_) (.of ?_ ?_ ?_ ?_ ?_) (.of ?_ ?_ ?_ ?_ ?_) (.of ?_ ?_ ?_ ?_ ?_) (.of ?_ ?_ ?_ ?_ ?_) (.of ?_ ?_ ?_ ?_ ?_) (.of ?_ ?_ ?_ ?_ ?_) (.of ?_ ?_ ?_ ?_ ?_) (.of ?_ ?_ ?_ ?_ ?_) (.of ?_ ?_ ?_ ?_ ?_) (.of ?_ ?_ ?_ ?_ ?_) (.of ?_ ?_ ?_ ?_ ?_) (.of ?_ ?_ ?_ ?_ ?_) (.of ?_ ?_ ?_ ?_ ?_) (.of ?_ ?_ ?_ ?_ ?_) (.of ?_ ?_ ?_ ?_ ?_) (.of ?_ ?_ ?_ ?_ ?_) (.of ?_ ?_ ?_ ?_ ?_) (.of ?_ ?_ ?_ ?_ ?_) (.of ?_ ?_ ?_ ?_ ?_) (.of ?_ ?_ ?_ ?_ ?_) (.of ?_ ?_ ?_ ?_ ?_) (.of ?_ ?_ ?_ ?_ ?_) (.of ?_ ?_ ?_ ?_ ?_) (.of ?_ ?_ ?_ ?_ ?_) (.of ?_ ?_ ?_ ?_ ?_) (.of ?_ ?_ ?_ ?_ ?_) (.of ?_ ?_ ?_ ?_ ?_) (.of ?_ ?_ ?_ ?_ ?_) (.of ?_ ?_ ?_ ?_ ?_) (.of ?_ ?_ ?_ ?_ ?_) (.of ?_ ?_ ?_ ?_ ?_) (.of ?_ ?_ ?_ ?_ ?_) (.of ?_ ?_ ?_ ?_ ?_) (.of ?_ ?_ ?_ ?_ ?_) (.of ?_ ?_ ?_ ?_ ?_) (.of ?_ ?_ ?_ ?_ ?_) (.of ?_ ?_ ?_ ?_ ?_) ?_ ?_ ?_ ?_ (.of ?_ ?_ ?_ ?_ ?_) ?_ (.of ?_ ?_ ?_ ?_ ?_) ?_ ?_ ?_ (.of ?_ ?_ ?_ ?_ ?_) ?_ ?_ ?_ (.of ?_ ?_ ?_ ?_ ?_) (.of ?_ ?_ ?_ ?_ ?_) ?_ (.of ?_ ?_ ?_ ?_ ?_) (.of ?_ ?_ ?_ ?_ ?_) (.of ?_ ?_ ?_ ?_ ?_) (.of ?_ ?_ ?_ ?_ ?_) (.of ?_ ?_ ?_ ?_ ?_) (.of ?_ ?_ ?_ ?_ ?_) (.of ?_ ?_ ?_ ?_ ?_) (.of ?_ ?_ ?_ ?_ ?_) (.of ?_ ?_ ?_ ?_ ?_) (.of ?_ ?_ ?_ ?_ ?_) (.of ?_ ?_ ?_ ?_ ?_) (.of ?_ ?_ ?_ ?_ ?_) (.of ?_ ?_ ?_ ?_ ?_) ?_ ?_ (.of ?_ ?_ ?_ ?_ ?_) ?_ ?_ (.of ?_ ?_ ?_ ?_ ?_) ?_ ?_ (.of ?_ ?_ ?_ ?_ ?_) ?_ ?_ (.of ?_ ?_ ?_ ?_ ?_) (.of ?_ ?_ ?_ ?_ ?_) (.of ?_ ?_ ?_ ?_ ?_) (.of ?_ ?_ ?_ ?_ ?_) (.of ?_ ?_ ?_ ?_ ?_) (.of ?_ ?_ ?_ ?_ ?_) (.of ?_ ?_ ?_ ?_ ?_) (.of ?_ ?_ ?_ ?_ ?_) (.of ?_ ?_ ?_ ?_ ?_) ?_ ?_ ?_ ?_ ?_ ?_ ?_ ?_ ?_ ?_ ?_ ?_ ?_ ?_ ?_
    all_goals first | k_is | kit_is | skip
