import PyProof.Rows.All
import Wide.All
import OpenK.AllK
import Wide.FinOn
import Lean
import PyProof.EqAt
import PyProof.EqKinds
import PyProof.TupleCall
import PyProof.StationsW
import PyProof.ExcClass3
import OpenK.KOwn
import PyProof.ExcArgsOwn
import KE.KListMore
import KE.KIntText
import KE.KEqDat
import PyProof.MinMaxWalk
import PyProof.SumAny
import PyProof.Rows.SortRuns
import KE.KSortKey
import PyProof.Rows.CallKwBuiltin
import PySem.SetTable
import PyProof.Rows.SetFrom
import PyProof.TupleKey
import PyProof.IsRules
import KE.KRevIter
import PyProof.ListRange
import PyProof.TupleOfGen
import PyProof.CollectIter
import PySem.Challenge.RW_seamwright_k20_tables_put_together
set_option linter.all false
set_option Elab.async false
set_option maxRecDepth 100000
set_option maxHeartbeats 4000000
section
namespace L2
open PySem PySem.Spec PyProof.Rows
abbrev Key := Sum Int Str
def keyIs : Key → Value → Bool
 | .inl k,v => Value.isInt k v
 | .inr x,v => Value.isStrOf x v
def keyH (w : World) : Key → Int
 | .inl k => hashInt k
 | .inr x => hashStr w x
theorem keyIs_shape : ∀ {k : Key} {v : Value},keyIs k v = true → (∃ i t,k = Sum.inl i ∧ v = Value.int i t) ∨ (∃ x t,k = Sum.inr x ∧ v = Value.str x t)
 | .inl i,v,h => by
  obtain ⟨t,e⟩ := Value.isInt_shape (k := i) (v := v) h
  exact .inl ⟨i,t,rfl,e⟩
 | .inr x,v,h => by
  obtain ⟨t,e⟩ := Value.isStrOf_shape (x := x) (v := v) h
  exact .inr ⟨x,t,rfl,e⟩
theorem key_ll (a b : Int) : decide ((Sum.inl a : Key) = Sum.inl b) = (a == b) := by
 by_cases e : a = b
 ·subst e; simp
 ·have h : ¬ (Sum.inl a : Key) = Sum.inl b := fun q => e (Sum.inl.inj q)
  rw [decide_eq_false h]
  exact (beq_eq_false_iff_ne.mpr e).symm
theorem key_rr (a b : Str) : decide ((Sum.inr a : Key) = Sum.inr b) = decide (a = b) := by
 by_cases e : a = b
 ·subst e; simp
 ·have h : ¬ (Sum.inr a : Key) = Sum.inr b := fun q => e (Sum.inr.inj q)
  rw [decide_eq_false h,decide_eq_false e]
theorem key_lr (a : Int) (b : Str) : decide ((Sum.inl a : Key) = Sum.inr b) = false := decide_eq_false (fun q => nomatch q)
theorem key_rl (a : Str) (b : Int) : decide ((Sum.inr a : Key) = Sum.inl b) = false := decide_eq_false (fun q => nomatch q)
def mixKind (prog : Program) (w : World) : PySem.KeyKind prog w Key where
 is := keyIs
 hash := keyH w
 inj := fun v a b ha hb => by
  rcases keyIs_shape ha with ⟨i,t,rfl,rfl⟩ | ⟨x,t,rfl,rfl⟩
  ·rcases keyIs_shape hb with ⟨j,u,rfl,e⟩ | ⟨y,u,rfl,e⟩
   ·injection e with e1 _; rw [e1]
   ·exact nomatch e
  ·rcases keyIs_shape hb with ⟨j,u,rfl,e⟩ | ⟨y,u,rfl,e⟩
   ·exact nomatch e
   ·injection e with e1 _; rw [e1]
 byValue := fun k v h => by
  rcases keyIs_shape h with ⟨i,t,rfl,rfl⟩ | ⟨x,t,rfl,rfl⟩ <;> rfl
 pyHash := fun hv h => by
  rcases keyIs_shape hv with ⟨i,t,rfl,rfl⟩ | ⟨x,t,rfl,rfl⟩
  ·exact wpAny_pyHash_int h
  ·exact wpAny_pyHash_str h
 eqBool := fun hu hv h => by
  rcases keyIs_shape hu with ⟨i,t,rfl,rfl⟩ | ⟨x,t,rfl,rfl⟩
  ·rcases keyIs_shape hv with ⟨j,u,rfl,rfl⟩ | ⟨y,u,rfl,rfl⟩
   ·rw [key_ll] at h; exact wpAny_eqBool_int h
   ·rw [key_lr] at h; exact SeqAt.EqAt.int_str i t y u _ _ _ _ h
  ·rcases keyIs_shape hv with ⟨j,u,rfl,rfl⟩ | ⟨y,u,rfl,rfl⟩
   ·rw [key_rl] at h; exact SeqAt.EqAt.str_int x t j u _ _ _ _ h
   ·rw [key_rr] at h; exact wpAny_eqBool_str h
 «strs» := fun k x t v h => by
  rcases keyIs_shape h with ⟨i,u,rfl,e⟩ | ⟨y,u,rfl,e⟩
  ·exact nomatch e
  ·injection e with e1 _
   subst e1
   cases v <;> rfl
end L2
namespace L2
open PySem PySem.Spec PyProof.Rows
inductive V where
 | non | bl (b : Bool) | int (i : Int) | str (x : Str) | byt (b : Array UInt8) | flt (b : UInt64) | ref (a : Addr) | ty (n : String)
 deriving DecidableEq
def RelV : V → Value → Prop
 | .non,u => u = Value.none
 | .bl b,u => u = Value.bool b
 | .int i,u => ∃ t,u = Value.int i t
 | .str x,u => ∃ t,u = Value.str x t
 | .byt b,u => ∃ t,u = Value.bytes b t
 | .flt b,u => ∃ t,u = Value.float b t
 | .ref a,u => u = Value.ref a
 | .ty n,u => u = Value.type n
abbrev Vals : List V → List Value → Prop := Paired RelV
theorem Vals.length {xs : List V} {us : List Value} (r : Vals xs us) : xs.length = us.length := Paired.length r
theorem Vals.get : ∀ {xs : List V} {us : List Value} {i : Nat} {x : V},Vals xs us → xs[i]? = some x → ∃ u,us[i]? = some u ∧ RelV x u
 | _,_,_,_,.nil,e => by simp at e
 | _,_,0,_,.cons r _,e => by simp at e; subst e; exact ⟨_,rfl,r⟩
 | _,_,i + 1,x,.cons _ t,e => by
  obtain ⟨u,h1,h2⟩ := Vals.get (i := i) (x := x) t (by simpa using e)
  exact ⟨u,by simpa using h1,h2⟩
theorem Vals.set {x : V} {u : Value} (r : RelV x u) : ∀ {xs : List V} {us : List Value} (i : Nat),Vals xs us → Vals (xs.set i x) (us.set i u)
 | _,_,_,.nil => .nil
 | _,_,0,.cons _ t => .cons r t
 | _,_,i + 1,.cons q t => .cons q (Vals.set r i t)
theorem Vals.append {xs ys : List V} {us ws : List Value} (h : Vals xs us) (g : Vals ys ws) : Vals (xs ++ ys) (us ++ ws) := by
 induction h with
 | nil => exact g
 | cons r _ ih => exact .cons r ih
theorem Vals.take : ∀ {xs : List V} {us : List Value} (n : Nat),Vals xs us → Vals (xs.take n) (us.take n)
 | _,_,0,_ => .nil
 | _,_,_ + 1,.nil => .nil
 | _,_,n + 1,.cons r t => .cons r (Vals.take n t)
theorem Vals.drop : ∀ {xs : List V} {us : List Value} (n : Nat),Vals xs us → Vals (xs.drop n) (us.drop n)
 | _,_,0,r => r
 | _,_,_ + 1,.nil => .nil
 | _,_,n + 1,.cons _ t => Vals.drop n t
def RelO : Option V → Option Value → Prop
 | some v,some u => RelV v u
 | none,none => True
 | _,_ => False
def KV {κ : Type} : List (κ × V) → List (κ × Value) → Prop := Paired fun (p : κ × V) (q : κ × Value) => p.1 = q.1 ∧ RelV p.2 q.2
def kV : Key → V
 | .inl i => .int i
 | .inr x => .str x
inductive HO where
 | lst (xs : List V)
 | tup (xs : List V)
 | dK (kvs : List (Key × V)) | dT (kvs : List (List Key × V))
 | set (S : Int → Bool) (n : Nat)
 | ins (C dx : Addr) (fs : List (Str × V))
 | own (x : Addr)
 | xd (fs : List (Str × V))
 | met (f x : Addr)
 | rng (lo hi : Int)
 | frz (o : Obj) (u : HO)
 | tbl (ps : Array Value)
 | ext (φ : Heap → Prop)
abbrev Hp := Addr → Option HO
def upd (H : Hp) (a : Addr) (o : HO) : Hp := fun b => if b = a then some o else H b
theorem upd_same {H : Hp} {a : Addr} {o : HO} : upd H a o a = some o := by unfold upd; rw [if_pos rfl]
theorem upd_ne {H : Hp} {a b : Addr} {o : HO} (h : b ≠ a) : upd H a o b = H b := by unfold upd; rw [if_neg h]
theorem ne_of {H : Hp} {a b : Addr} {o u : HO} (h : H a = some o) (h' : H b = some u) (d : o ≠ u) : a ≠ b := by
 intro e; subst e; rw [h] at h'; exact d (Option.some.inj h')
theorem ne_of_none {H : Hp} {a b : Addr} {o : HO} (h : H a = some o) (h' : H b = none) : a ≠ b := by
 intro e; subst e; rw [h] at h'; cases h'
section
variable (P : Program) (w : World)
def ObjOk (H : Hp) (h : Heap) (a : Addr) : HO → Prop
 | .lst xs => xs.length ≤ sizeLine ∧ ∃ (its : List Value) (n : Nat),Vals xs its ∧ h.get? a = some { cls := .type "list",data := .seq its.toArray n }
 | .tup xs => xs.length ≤ sizeLine ∧ ∃ its : List Value,Vals xs its ∧ IsTup h a its.toArray
 | .dK kvs => kvs.length ≤ sizeLine ∧ (a == sysModules) = false ∧ ∃ vs,KV kvs vs ∧ h.DictOf (mixKind P w) a vs
 | .dT kvs => kvs.length ≤ sizeLine ∧ (a == sysModules) = false ∧ ∃ xs : List (List Key × Addr × Value),
   Paired (fun (p : List Key × V) (q : List Key × Addr × Value) => p.1 = q.1 ∧ H q.2.1 = some (.tup (p.1.map kV)) ∧ RelV p.2 q.2.2) kvs xs ∧
   ∃ o es ep,h.get? a = some o ∧ o.ExactDict ∧ o.data = .dict es ep ∧ es.toList = xs.map (entryOfKey (tupleKind (mixKind P w))) ∧ (xs.map (·.1)).Nodup
 | .set S n => h.SetOf (intKind P w) a S n
 | .ins C dx fs => H dx = some (.own a) ∧ fs.length ≤ 1000 ∧ dx ≠ a ∧ h.get? a = some (PySem.W.instObj C dx) ∧
   ∃ mA,h.Ns1 dx mA ∧ (∀ f,RelO (fs.lookup f) (mA f)) ∧ PySem.Within mA (fs.map (·.1))
 | .own _ => ∃ o,h.get? a = some o
 | .xd fs => ∃ mA,h.Ns1 a mA ∧ ∀ f,RelO (fs.lookup f) (mA f)
 | .rng lo hi => ∃ t u v,h.get? a = some { cls := .type "range",data := .fields #[.int lo t,.int hi u,.int 1 v] }
 | .frz o u => h.get? a = some o ∧ ObjOk H h a u
 | .tbl ps => h.get? a = some { cls := .none,data := .fields ps }
 | .met f x => h.get? a = some (PySem.W.methodObj (.ref f) (.ref x))
 | .ext φ => φ h ∧ (∃ o,h.get? a = some o) ∧ ∀ h1 h2 : Heap,φ h1 → (∀ o,h1.get? a = some o → h2.get? a = some o) → φ h2
def HOk (H : Hp) (h : Heap) : Prop := ∀ a o,H a = some o → ObjOk P w H h a o
end
section
variable {P : Program} {w : World} {H H' : Hp} {h h' : Heap} {a : Addr} {o : HO}
theorem ObjOk.lt (x : ObjOk P w H h a o) : a < h.objs.size := by
 cases o with
 | lst xs => obtain ⟨_,_,_,_,e⟩ := x; exact Heap.lt_size e
 | tup xs => obtain ⟨_,_,_,p⟩ := x; exact p.lt
 | dK kvs => obtain ⟨_,_,_,_,o,_,_,e,_⟩ := x; exact Heap.lt_size e
 | dT kvs => obtain ⟨_,_,_,_,o,_,_,e,_⟩ := x; exact Heap.lt_size e
 | set S n => obtain ⟨o,_,_,_,e,_⟩ := x; exact Heap.lt_size e
 | ins C dx fs => obtain ⟨_,_,_,e,_⟩ := x; exact Heap.lt_size e
 | own y => obtain ⟨_,e⟩ := x; exact Heap.lt_size e
 | xd fs => obtain ⟨_,⟨_,_,_,e,_⟩,_⟩ := x; exact Heap.lt_size e
 | rng lo hi => obtain ⟨_,_,_,e⟩ := x; exact Heap.lt_size e
 | frz ob u => obtain ⟨e,_⟩ := x; exact Heap.lt_size e
 | tbl ps => exact Heap.lt_size (show h.get? a = some _ from x)
 | met f y => exact Heap.lt_size (show h.get? a = some _ from x)
 | ext φ => obtain ⟨_,⟨_,e⟩,_⟩ := x; exact Heap.lt_size e
theorem Paired.mapP {α β : Type} {F G : α → β → Prop} {l₁ : List α} {l₂ : List β} (h : Paired F l₁ l₂) (f : ∀ a b,F a b → G a b) : Paired G l₁ l₂ := by
 induction h with
 | nil => exact .nil
 | cons r _ ih => exact .cons (f _ _ r) ih
theorem ObjOk.stay (x : ObjOk P w H h a o) (k : ∀ b u,(b = a ∨ H b = some (.own a)) → h.get? b = some u → h'.get? b = some u)
  (ho : ∀ b,H b = some (.own a) → H' b = some (.own a)) (ht : ∀ b xs,H b = some (.tup xs) → H' b = some (.tup xs)) : ObjOk P w H' h' a o := by
 induction o with
 | lst xs => obtain ⟨z,its,n,r,e⟩ := x; exact ⟨z,its,n,r,k _ _ (.inl rfl) e⟩
 | tup xs => obtain ⟨z,its,r,ob,e,c⟩ := x; exact ⟨z,its,r,ob,k _ _ (.inl rfl) e,c⟩
 | dK kvs => obtain ⟨z,y,vs,r,ob,es,ep,e,c⟩ := x; exact ⟨z,y,vs,r,ob,es,ep,k _ _ (.inl rfl) e,c⟩
 | dT kvs =>
  obtain ⟨z,y,xs,r,ob,es,ep,e,c⟩ := x
  exact ⟨z,y,xs,Paired.mapP r fun p q z => ⟨z.1,ht _ _ z.2.1,z.2.2⟩,ob,es,ep,k _ _ (.inl rfl) e,c⟩
 | set S n => obtain ⟨ob,es,ep,t,e,c⟩ := x; exact ⟨ob,es,ep,t,k _ _ (.inl rfl) e,c⟩
 | ins C dx fs =>
  obtain ⟨d,z,ne,e,mA,⟨od,es,ep,e2,c⟩,r⟩ := x
  exact ⟨ho _ d,z,ne,k _ _ (.inl rfl) e,mA,⟨od,es,ep,k _ _ (.inr d) e2,c⟩,r⟩
 | own y => obtain ⟨ob,e⟩ := x; exact ⟨ob,k _ _ (.inl rfl) e⟩
 | xd fs => obtain ⟨mA,⟨od,es,ep,e,c⟩,r⟩ := x; exact ⟨mA,⟨od,es,ep,k _ _ (.inl rfl) e,c⟩,r⟩
 | rng lo hi => obtain ⟨t,u,v,e⟩ := x; exact ⟨t,u,v,k _ _ (.inl rfl) e⟩
 | frz ob u ih => obtain ⟨e,q⟩ := x; exact ⟨k _ _ (.inl rfl) e,ih q⟩
 | tbl ps =>
  have e : h.get? a = some { cls := .none,data := .fields ps } := x
  show h'.get? a = some { cls := .none,data := .fields ps }
  exact k a _ (.inl rfl) e
 | met f y =>
  have e : h.get? a = some (PySem.W.methodObj (.ref f) (.ref y)) := x
  show h'.get? a = some (PySem.W.methodObj (.ref f) (.ref y))
  exact k a _ (.inl rfl) e
 | ext φ => obtain ⟨p,⟨o,e⟩,st⟩ := x; exact ⟨st _ _ p fun o q => k _ _ (.inl rfl) q,⟨o,k _ _ (.inl rfl) e⟩,st⟩
theorem HOk.lt (x : HOk P w H h) (e : H a = some o) : a < h.objs.size := (x a o e).lt
theorem HOk.fresh (x : HOk P w H h) (e : h.objs.size ≤ a) : H a = none := by
 cases q : H a with
 | none => rfl
 | some u => exact absurd (Nat.lt_of_lt_of_le (x.lt q) e) (Nat.lt_irrefl _)
theorem HOk.kept (x : HOk P w H h) (k : ∀ b u,h.get? b = some u → h'.get? b = some u) : HOk P w H h' := fun a o e =>
 (x a o e).stay (fun b u _ q => k b u q) (fun _ q => q) fun _ _ q => q
theorem HOk.laid (x : HOk P w H h) (k : ∀ b u,h.get? b = some u → h'.get? b = some u) (hp : h.objs.size ≤ a) (new : ObjOk P w (upd H a o) h' a o) : HOk P w (upd H a o) h' := fun b u e => by
 have hn := x.fresh hp
 by_cases hb : b = a
 ·subst hb; rw [upd_same] at e; cases e; exact new
 ·rw [upd_ne hb] at e
  exact (x b u e).stay (fun c v _ q => k c v q) (fun c q => by rw [upd_ne (ne_of_none q hn)]; exact q) fun c xs q => by rw [upd_ne (ne_of_none q hn)]; exact q
end
def Rd (H : Hp) (a : Addr) (u : HO) : Prop := H a = some u ∨ ∃ o,H a = some (.frz o u)
theorem Rd.of {H : Hp} {a : Addr} {u : HO} (h : H a = some u) : Rd H a u := .inl h
theorem Rd.ok {P : Program} {w : World} {H : Hp} {h : Heap} {a : Addr} {u : HO} (r : Rd H a u) (x : HOk P w H h) : ObjOk P w H h a u := by
 rcases r with r | ⟨o,r⟩
 ·exact x a u r
 ·obtain ⟨_,q⟩ := x a _ r
  exact q
def Mut : Option HO → Prop
 | some (.lst _) => True
 | some (.dK _) => True
 | some (.dT _) => True
 | some (.set _ _) => True
 | some (.ins _ _ _) => True
 | some (.ext _) => True
 | _ => False
section
variable {P : Program} {w : World} {H : Hp} {h h' : Heap} {x e : Addr} {o' : HO}
theorem HOk.write (ok : HOk P w H h) (mu : Mut (H x)) (he : e = x ∨ H e = some (.own x)) (k : ∀ b u,b ≠ e → h.get? b = some u → h'.get? b = some u) (heo : ∃ u,h'.get? e = some u)
  (new : ObjOk P w (upd H x o') h' x o') : HOk P w (upd H x o') h' := fun b u q => by
 have nown : ∀ c y,H c = some (.own y) → c ≠ x := fun c y r z => by subst z; rw [r] at mu; exact mu
 have ntup : ∀ c xs,H c = some (.tup xs) → c ≠ x := fun c xs r z => by subst z; rw [r] at mu; exact mu
 by_cases hb : b = x
 ·subst hb; rw [upd_same] at q; cases q; exact new
 ·rw [upd_ne hb] at q
  by_cases hbe : b = e
  ·have q' : H b = some (.own x) := by
    rcases he with z | z
    ·exact absurd (hbe.trans z) hb
    ·rw [hbe]; exact z
   rw [q] at q'; cases q'
   obtain ⟨v,hv⟩ := heo
   exact ⟨v,by rw [hbe]; exact hv⟩
  ·refine (ok b u q).stay (fun c v hc r => k c v ?_ r) (fun c r => by rw [upd_ne (nown c b r)]; exact r) fun c xs r => by rw [upd_ne (ntup c xs r)]; exact r
   rcases hc with rfl | hc
   ·exact hbe
   ·rintro rfl
    rcases he with z | z
    ·exact nown c b hc z
    ·rw [hc] at z; cases z; exact hb rfl
end
structure Un (fs ex : List Addr) (H H' : Hp) (h h' : Heap) : Prop where
 keep : ∀ b o,h.get? b = some o → H b = none → b ∉ fs → b ∉ ex → h'.get? b = some o
 slot : ∀ b o,h.get? b = some o → H b = none → b ∈ fs → b ∉ ex → ∃ sl,h'.get? b = some { o with slots := sl }
 free : ∀ b o,h.get? b = some o → H b = none → b ∉ ex → H' b = none
 there : ∀ b o,h.get? b = some o → b ∉ ex → ∃ o',h'.get? b = some o'
 tups : ∀ b xs,H b = some (.tup xs) → H' b = some (.tup xs)
 frzs : ∀ b o u,H b = some (.frz o u) → H' b = some (.frz o u)
 tbls : ∀ b ps,H b = some (.tbl ps) → ∃ more,H' b = some (.tbl (ps ++ more))
section
variable {fs fs' ex ex' : List Addr} {H H1 H2 : Hp} {h h1 h2 h' : Heap} {a x e : Addr} {o : HO}
theorem Un.any (u : Un fs ex H H1 h h1) {b : Addr} {ob : Obj} (q : h.get? b = some ob) (n : H b = none) (hx : b ∉ ex) : ∃ sl,h1.get? b = some { ob with slots := sl } := by
 by_cases hb : b ∈ fs
 ·exact u.slot b ob q n hb hx
 ·exact ⟨ob.slots,u.keep b ob q n hb hx⟩
theorem Un.kept (k : ∀ b u,h.get? b = some u → h'.get? b = some u) : Un fs ex H H h h' :=
 ⟨fun b ob q _ _ _ => k b ob q,fun b ob q _ _ _ => ⟨ob.slots,k b ob q⟩,fun _ _ _ n _ => n,fun b ob q _ => ⟨ob,k b ob q⟩,fun _ _ q => q,fun _ _ _ q => q,fun _ ps q => ⟨#[],by rw [q]; simp⟩⟩
theorem Un.refl : Un fs ex H H h h := Un.kept fun _ _ q => q
theorem Un.laid (k : ∀ b u,h.get? b = some u → h'.get? b = some u) (hp : h.objs.size ≤ a) (hn : H a = none) : Un fs ex H (upd H a o) h h' where
 keep := fun b u q _ _ _ => k b u q
 slot := fun b u q _ _ _ => ⟨u.slots,k b u q⟩
 free := fun b u q n _ => by rw [upd_ne (Nat.ne_of_lt (Nat.lt_of_lt_of_le (Heap.lt_size q) hp))]; exact n
 there := fun b u q _ => ⟨u,k b u q⟩
 tups := fun b xs q => by rw [upd_ne (ne_of_none q hn)]; exact q
 frzs := fun b u xs q => by rw [upd_ne (ne_of_none q hn)]; exact q
 tbls := fun b ps q => ⟨#[],by rw [upd_ne (ne_of_none q hn),q]; simp⟩
theorem Un.write (mu : Mut (H x)) (he : e = x ∨ H e = some (.own x)) (k : ∀ b u,b ≠ e → h.get? b = some u → h'.get? b = some u) (heo : ∃ u,h'.get? e = some u) : Un fs ex H (upd H x o) h h' := by
 have hx : ∀ b,H b = none → b ≠ x := fun b n z => by subst z; rw [n] at mu; exact mu
 have hb : ∀ b,H b = none → b ≠ e := fun b n z => by
  subst z
  rcases he with r | r
  ·exact hx b n r
  ·rw [n] at r; cases r
 have hm : ∀ b u,H b = some u → ¬ Mut (some u) → b ≠ x := fun b u q nm z => by subst z; rw [q] at mu; exact nm mu
 refine ⟨fun b u q n _ _ => k b u (hb b n) q,fun b u q n _ _ => ⟨u.slots,k b u (hb b n) q⟩,fun b u q n _ => by rw [upd_ne (hx b n)]; exact n,fun b u q _ => ?_,
  fun b xs q => by rw [upd_ne (hm b _ q fun z => z)]; exact q,fun b u xs q => by rw [upd_ne (hm b _ q fun z => z)]; exact q,fun b ps q => ⟨#[],by rw [upd_ne (hm b _ q fun z => z),q]; simp⟩⟩
 by_cases hbe : b = e
 ·subst hbe; exact heo
 ·exact ⟨u,k b u hbe q⟩
end
def trk (h : Heap) (H : Hp) : List Addr := (List.range h.objs.size).filter fun a => (H a).isSome
def hidT (h : Heap) (H : Hp) : Heap := PySem.W.hideAll h (trk h H)
theorem hidT_size (h : Heap) (H : Hp) : (hidT h H).objs.size = h.objs.size := PySem.W.hideAll_size _ _
theorem hidT_get {h : Heap} {H : Hp} {b : Addr} {o : Obj} (e : h.get? b = some o) (n : H b = none) : (hidT h H).get? b = some o :=
 PySem.W.hideAll_get _ e fun hm => by
  have q : (H b).isSome = true := (List.mem_filter.mp hm).2
  rw [n] at q; simp at q
theorem of_hidT {h : Heap} {H : Hp} {b : Addr} {o : Obj} (e : (hidT h H).get? b = some o) : h.get? b = some o ∧ H b = none := by
 have e' : h.get? b = some o := PySem.W.of_hideAll (trk h H) e
 refine ⟨e',?_⟩
 cases q : H b with
 | none => rfl
 | some x =>
  have hm : b ∈ trk h H := List.mem_filter.mpr ⟨List.mem_range.mpr (Heap.lt_size e'),by simp [q]⟩
  have z : (hidT h H).get? b = none := PySem.W.hideAll_none (trk h H) hm
  rw [z] at e; cases e
def allNews (g h : Heap) (L : Addr) : List (Addr × Obj) := (List.range h.objs.size).filterMap fun a => if a = L ∨ (g.get? a).isSome = true then none else (h.get? a).map fun o => (a,o)
def rest (g h : Heap) (L d : Addr) : List (Addr × Obj) := (allNews g h L).filter fun p => decide (p.1 ≠ d)
end L2
namespace L2
open PySem PySem.Spec PyProof.Rows
structure Mod (K : PySem.W.Frag) (mg : Str → Option Value) (base : Heap) : Prop where
 kin : K.In base
 glob : base.Ns mainGlobals mg
 blt : ∃ mb,base.Ns builtinsNs mb ∧ ∀ x : Str,x ≠ "__name__" → mb x = bootBuiltins x
 nolimit : base.NoLimit
structure Cx where
 prog : Program
 w : World
 K : PySem.W.Frag
 mg : Str → Option Value
 base : Heap
 A : Around
 N : List Str
 s₀ : Shared
 H₀ : Hp
 env : Env
 outer : List Env
 stack : List Env
 ex : List Addr
 fn : Str → Bool
 calm : Bool
 pn : List (Addr × Obj)
 xe : Value → Shared → Prop
def frs (l : List Env) : List Addr := l.filterMap (·.frame)
abbrev Cx.fs (X : Cx) : List Addr := frs X.outer
def Vis (sc : Scope) (x : Str) : Prop := sc.names.lookup x = some .local ∨ sc.names.lookup x = some .cell ∨ sc.names.lookup x = some .free
def Loc (sc : Scope) (x : Str) : Prop := sc.names.lookup x = some .local ∨ sc.names.lookup x = some .cell
def Look (env : Env) (h : Heap) (m : Str → Option Value) (x : Str) (u : Value) : Prop :=
 (env.kindOf x = some .local ∧ m x = some u) ∨ ((env.kindOf x = some .cell ∨ env.kindOf x = some .free) ∧ ∃ c,env.cells.lookup x = some c ∧ h.IsCell c (some u))
structure Cx.Ok (X : Cx) : Prop where
 mod : Mod X.K X.mg X.base
 kind : X.env.scope.kind = .function
 glob : X.env.globals = mainGlobals
 blt : X.env.builtins = builtinsNs
 above : X.s₀.heap.objs.size ≤ X.env.locals
 inj : ∀ x y c,X.env.cells.lookup x = some c → X.env.cells.lookup y = some c → x = y
 has : ∀ x,(X.env.kindOf x = some .cell ∨ X.env.kindOf x = some .free) → ∃ c,X.env.cells.lookup x = some c
 cab : ∀ x c,X.fn x = true → X.env.cells.lookup x = some c → X.s₀.heap.objs.size ≤ c
 hd : X.calm = true → X.A.handled = none
 frames : X.A.frames = some X.stack
 stk : X.stack = X.outer ∨ (X.stack = X.env :: X.outer ∧ X.env.frame = some X.env.locals)
 exf : ∀ b ∈ X.ex,b ≠ X.env.locals ∧ ∀ x c,X.env.cells.lookup x = some c → c ≠ b
 bs : ∀ b o,X.base.get? b = some o → X.s₀.heap.get? b = some o ∧ X.H₀ b = none
 bsz : X.base.objs.size ≤ X.s₀.heap.objs.size
 noex : ∀ b o,X.base.get? b = some o → b ∉ X.ex
 exfs : ∀ b ∈ X.ex,b ∉ X.fs
 funs : X.s₀.heap.FunFrames X.base X.outer
 frf : ∀ b ∈ X.fs,X.H₀ b = none
structure Inv (X : Cx) (pins : List (Addr × Obj)) (σ : List (Option V)) (H : Hp) (s : Shared) : Prop where
 ok : X.Ok
 os : s.os = X.s₀.os
 bare : AllBare s.gens
 base : Un X.fs X.ex X.H₀ H X.s₀.heap s.heap
 loc : ∃ m,s.heap.Ns X.env.locals m ∧ ∀ (i : Nat) (x : Str) (v : V),X.N[i]? = some x → σ[i]? = some (some v) → Vis X.env.scope x → ∃ u,RelV v u ∧ Look X.env s.heap m x u
 cell : ∀ x c,X.env.cells.lookup x = some c → ∃ v,s.heap.IsCell c v
 free : H X.env.locals = none
 freeC : ∀ x c,X.env.cells.lookup x = some c → H c = none
 pin : ∀ p ∈ X.pn ++ pins,s.heap.get? p.1 = some p.2 ∧ H p.1 = none ∧ p.1 ≠ X.env.locals ∧ p.1 ∉ X.fs ∧ ∀ v,p.2.data ≠ .cell v
 hok : HOk X.prog X.w H s.heap
 len : σ.length = X.N.length
section
variable {X : Cx} {pins : List (Addr × Obj)} {σ : List (Option V)} {H H' : Hp} {s : Shared} {h' : Heap}
theorem Cx.Ok.nofr (ok : X.Ok) {b : Addr} {o : Obj} (e : X.base.get? b = some o) : b ∉ X.fs := fun hb => by
 have := (ok.funs.mem hb).1
 rw [e] at this; cases this
theorem Inv.bs (I : Inv X pins σ H s) : ∀ b o,X.base.get? b = some o → s.heap.get? b = some o ∧ H b = none := fun b o e =>
 ⟨I.base.keep b o (I.ok.bs b o e).1 (I.ok.bs b o e).2 (I.ok.nofr e) (I.ok.noex b o e),I.base.free b o (I.ok.bs b o e).1 (I.ok.bs b o e).2 (I.ok.noex b o e)⟩
theorem Inv.bk (I : Inv X pins σ H s) : ∀ b o,X.base.get? b = some o → s.heap.get? b = some o := fun b o e => (I.bs b o e).1
theorem Inv.mod (I : Inv X pins σ H s) : Mod X.K X.mg X.base := I.ok.mod
theorem Inv.kIn (I : Inv X pins σ H s) : X.K.In s.heap := I.ok.mod.kin.keeps I.bk
theorem Inv.nolimit (I : Inv X pins σ H s) : s.heap.NoLimit := I.ok.mod.nolimit.keeps I.bk
theorem Inv.fr (I : Inv X pins σ H s) : ∃ m,Fr X.base X.env.locals s.heap m :=
 let ⟨m,hn,_⟩ := I.loc
 ⟨m,hn,I.bk,Nat.le_trans I.ok.bsz I.ok.above⟩
theorem Inv.lt (I : Inv X pins σ H s) : X.env.locals < s.heap.objs.size := let ⟨_,hn,_⟩ := I.loc; hn.lt
theorem Inv.sz (I : Inv X pins σ H s) : X.s₀.heap.objs.size ≤ s.heap.objs.size := Nat.le_trans I.ok.above (Nat.le_of_lt I.lt)
theorem Inv.nofs (I : Inv X pins σ H s) {a : Addr} (h : s.heap.objs.size ≤ a) : a ∉ X.fs := fun hb => by
 obtain ⟨_,o,ho,_⟩ := I.ok.funs.mem hb
 exact absurd (Nat.lt_of_lt_of_le (Heap.lt_size ho) (Nat.le_trans I.sz h)) (Nat.lt_irrefl _)
theorem Inv.cne (I : Inv X pins σ H s) : ∀ x c,X.env.cells.lookup x = some c → c ≠ X.env.locals := fun x c e z => by
 obtain ⟨v,o,ho,hd⟩ := I.cell x c e
 obtain ⟨m,⟨o',es,ep,ho',hd',_⟩,_⟩ := I.loc
 rw [z,ho'] at ho; cases ho; rw [hd'] at hd; cases hd
theorem Inv.funs (I : Inv X pins σ H s) : s.heap.FunFrames X.base X.outer := by
 have all : ∀ (l : List Env),(∀ b ∈ frs l,b ∈ X.fs) → X.s₀.heap.FunFrames X.base l → s.heap.FunFrames X.base l := by
  intro l
  induction l with
  | nil => intro _ _; trivial
  | cons env r ih =>
   intro hs hl
   obtain ⟨hk,⟨L,o,hf,hn,ho,hd⟩,hr⟩ := hl
   have hL : L ∈ X.fs := hs L (by unfold frs; rw [List.filterMap_cons,hf]; exact List.mem_cons_self)
   obtain ⟨sl,e⟩ := I.base.slot L o ho (I.ok.frf L hL) hL fun z => I.ok.exfs L z hL
   exact ⟨hk,⟨L,_,hf,hn,e,hd⟩,ih (fun b hb => hs b (by unfold frs; rw [List.filterMap_cons,hf]; exact List.mem_cons_of_mem _ hb)) hr⟩
 exact all X.outer (fun _ hb => hb) I.ok.funs
theorem Inv.stack (I : Inv X pins σ H s) : s.heap.FunFrames X.base X.stack := by
 rcases I.ok.stk with e | ⟨e,hf⟩
 ·rw [e]; exact I.funs
 ·rw [e]
  obtain ⟨m,hn,_⟩ := I.loc
  refine .cons (by rw [I.ok.kind]; decide) hf hn ?_ I.funs
  exact Heap.get?_none_of_le (Nat.le_trans I.ok.bsz I.ok.above)
theorem Inv.stkSub (I : Inv X pins σ H s) : ∀ b ∈ frs X.stack,b ∈ X.env.locals :: X.fs := fun b hb => by
 rcases I.ok.stk with e | ⟨e,hf⟩
 ·rw [e] at hb; exact List.mem_cons_of_mem _ hb
 ·rw [e] at hb
  unfold frs at hb
  rw [List.filterMap_cons,hf] at hb
  exact hb
theorem Inv.stkFree (I : Inv X pins σ H s) : ∀ b ∈ frs X.stack,H b = none := fun b hb => by
 rcases List.mem_cons.mp (I.stkSub b hb) with e | hb
 ·rw [e]; exact I.free
 ·obtain ⟨_,o,ho,_⟩ := I.ok.funs.mem hb
  exact I.base.free b o ho (I.ok.frf b hb) fun z => I.ok.exfs b z hb
theorem Inv.step {g' : Array GenState} {t' : Nat} {d' : Drawn} {ch : List Addr} (I : Inv X pins σ H s)
  (hch : ∀ b ∈ ch,(b ∈ X.ex ∨ X.s₀.heap.objs.size ≤ b) ∧ b ≠ X.env.locals ∧ (∀ x c,X.env.cells.lookup x = some c → c ≠ b) ∧ ∀ p ∈ X.pn ++ pins,p.1 ≠ b)
  (keep : ∀ b o,b ≠ X.env.locals → b ∉ X.fs → b ∉ ch → s.heap.get? b = some o → H b = none → h'.get? b = some o)
  (slot : ∀ b o,b ≠ X.env.locals → b ∈ X.fs → b ∉ ch → s.heap.get? b = some o → H b = none → ∃ sl,h'.get? b = some { o with slots := sl }) (free : ∀ b o,b ∉ ch → s.heap.get? b = some o → H b = none → H' b = none)
  (there : ∀ b o,b ∉ ch → s.heap.get? b = some o → ∃ o',h'.get? b = some o')
  (tups : ∀ b xs,H b = some (.tup xs) → H' b = some (.tup xs)) (frzs : ∀ b o u,H b = some (.frz o u) → H' b = some (.frz o u)) (tbls : ∀ b ps,H b = some (.tbl ps) → ∃ more,H' b = some (.tbl (ps ++ more)))
  (ns : ∀ m,s.heap.Ns X.env.locals m → h'.Ns X.env.locals m) (hok : HOk X.prog X.w H' h') (hg : AllBare g') :
  Inv X pins σ H' { s with heap := h',gens := g',drawn := d',toks := t' } := by
 have neL : ∀ b o,X.s₀.heap.get? b = some o → b ≠ X.env.locals := fun b o e => Nat.ne_of_lt (Nat.lt_of_lt_of_le (Heap.lt_size e) I.ok.above)
 have neC : ∀ b o,X.s₀.heap.get? b = some o → b ∉ X.ex → b ∉ ch := fun b o e hx hb => by
  rcases (hch b hb).1 with z | z
  ·exact hx z
  ·exact absurd (Nat.lt_of_lt_of_le (Heap.lt_size e) z) (Nat.lt_irrefl _)
 have cellK : ∀ x c,X.env.cells.lookup x = some c → ∀ v,s.heap.IsCell c v → h'.IsCell c v := fun x c e v ⟨o,ho,hd⟩ => by
  have nch : c ∉ ch := fun z => (hch c z).2.2.1 x c e rfl
  by_cases hc : c ∈ X.fs
  ·obtain ⟨sl,q⟩ := slot c o (I.cne x c e) hc nch ho (I.freeC x c e)
   exact ⟨_,q,hd⟩
  ·exact ⟨o,keep c o (I.cne x c e) hc nch ho (I.freeC x c e),hd⟩
 refine ⟨I.ok,I.os,hg,⟨fun b o e n hb hx => ?_,fun b o e n hb hx => ?_,fun b o e n hx => ?_,fun b o e hx => ?_,fun b xs e => tups b xs (I.base.tups b xs e),fun b o xs e => frzs b o xs (I.base.frzs b o xs e),fun b ps e => ?_⟩,?_,fun x c e => ?_,?_,fun x c e => ?_,fun p hp => ?_,hok,I.len⟩
 ·exact keep b o (neL b o e) hb (neC b o e hx) (I.base.keep b o e n hb hx) (I.base.free b o e n hx)
 ·obtain ⟨sl,e1⟩ := I.base.slot b o e n hb hx
  obtain ⟨sl',e2⟩ := slot b _ (neL b o e) hb (neC b o e hx) e1 (I.base.free b o e n hx)
  exact ⟨sl',e2⟩
 ·obtain ⟨o',e1⟩ := I.base.there b o e hx
  exact free b o' (neC b o e hx) e1 (I.base.free b o e n hx)
 ·obtain ⟨o',e1⟩ := I.base.there b o e hx
  exact there b o' (neC b o e hx) e1
 ·obtain ⟨m1,e1⟩ := I.base.tbls b ps e
  obtain ⟨m2,e2⟩ := tbls b _ e1
  exact ⟨m1 ++ m2,by rw [e2,Array.append_assoc]⟩
 ·obtain ⟨m,hn,hl⟩ := I.loc
  refine ⟨m,ns m hn,fun i x v e1 e2 e3 => ?_⟩
  obtain ⟨u,r,l⟩ := hl i x v e1 e2 e3
  refine ⟨u,r,?_⟩
  rcases l with l | ⟨k,c,e,z⟩
  ·exact .inl l
  ·exact .inr ⟨k,c,e,cellK x c e _ z⟩
 ·obtain ⟨v,z⟩ := I.cell x c e
  exact ⟨v,cellK x c e v z⟩
 ·obtain ⟨m,⟨o,_,_,ho,_⟩,_⟩ := I.loc
  exact free _ o (fun z => (hch _ z).2.1 rfl) ho I.free
 ·obtain ⟨v,o,ho,hd⟩ := I.cell x c e
  exact free c o (fun z => (hch c z).2.2.1 x c e rfl) ho (I.freeC x c e)
 ·obtain ⟨e,n,ne,nf,d⟩ := I.pin p hp
  have nch : p.1 ∉ ch := fun z => (hch p.1 z).2.2.2 p hp rfl
  exact ⟨keep p.1 p.2 ne nf nch e n,free p.1 p.2 nch e n,ne,nf,d⟩
theorem Inv.un {t' : Nat} (I : Inv X pins σ H s) (u : Un X.fs [] H H' s.heap h') (hok : HOk X.prog X.w H' h') : Inv X pins σ H' { s with heap := h',toks := t' } := by
 obtain ⟨m,⟨o,es,ep,ho,r⟩,_⟩ := id I.loc
 obtain ⟨sl,hL⟩ := u.any ho I.free (by simp)
 exact I.step (g' := s.gens) (d' := s.drawn) (ch := []) (fun _ z => nomatch z) (fun b o _ hb _ e n => u.keep b o e n hb (by simp)) (fun b o _ hb _ e n => u.slot b o e n hb (by simp)) (fun b o _ e n => u.free b o e n (by simp)) (fun b o _ e => u.there b o e (by simp)) u.tups u.frzs u.tbls (fun m' hm => by
  obtain ⟨o',es',ep',ho',r'⟩ := hm
  rw [ho] at ho'; cases ho'
  exact ⟨_,es',ep',hL,r'⟩) hok I.bare
theorem Inv.call {g' : Array GenState} {t' : Nat} {d' : Drawn} {ch : List Addr} (I : Inv X pins σ H s) (u : Un (frs X.stack) ch H H' s.heap h') (hok : HOk X.prog X.w H' h') (hg : AllBare g')
  (hch : ∀ b ∈ ch,(b ∈ X.ex ∨ X.s₀.heap.objs.size ≤ b) ∧ b ≠ X.env.locals ∧ (∀ x c,X.env.cells.lookup x = some c → c ≠ b) ∧ ∀ p ∈ X.pn ++ pins,p.1 ≠ b) :
  Inv X pins σ H' { s with heap := h',gens := g',drawn := d',toks := t' } := by
 obtain ⟨m,⟨o,es,ep,ho,r⟩,_⟩ := id I.loc
 obtain ⟨sl,hL⟩ := u.any ho I.free fun z => (hch _ z).2.1 rfl
 exact I.step (ch := ch) hch (fun b o hL hb hc e n => u.keep b o e n (fun z => (List.mem_cons.mp (I.stkSub b z)).elim hL hb) hc) (fun b o _ _ hc e n => u.any e n hc) (fun b o hc e n => u.free b o e n hc) (fun b o hc e => u.there b o e hc) u.tups u.frzs u.tbls (fun m' hm => by
  obtain ⟨o',es',ep',ho',r'⟩ := hm
  rw [ho] at ho'; cases ho'
  exact ⟨_,es',ep',hL,r'⟩) hok hg
theorem Inv.turned {t' : Nat} {it : Addr} (I : Inv X pins σ H s) (k : ∀ b o,b ≠ it → s.heap.get? b = some o → h'.get? b = some o) (hn : H it = none) (hL : it ≠ X.env.locals)
  (h1 : it ∈ X.ex ∨ X.s₀.heap.objs.size ≤ it) (h2 : ∀ x c,X.env.cells.lookup x = some c → c ≠ it) (h3 : ∀ p ∈ X.pn ++ pins,p.1 ≠ it) : Inv X pins σ H { s with heap := h',toks := t' } := by
 have nit : ∀ b u,H b = some u → b ≠ it := fun b u e z => by rw [z,hn] at e; cases e
 refine I.step (g' := s.gens) (d' := s.drawn) (ch := [it]) (fun b hb => ?_) (fun b o _ _ hc e _ => k b o (fun z => hc (by simp [z])) e) (fun b o _ _ hc e _ => ⟨o.slots,k b o (fun z => hc (by simp [z])) e⟩) (fun _ _ _ _ n => n)
  (fun b o hc e => ⟨o,k b o (fun z => hc (by simp [z])) e⟩) (fun _ _ e => e) (fun _ _ _ e => e) (fun b ps e => ⟨#[],by rw [e]; simp⟩) (fun m hm => ?_) (fun b u e => ?_) I.bare
 ·have e : b = it := by simpa using hb
  subst e
  exact ⟨h1,hL,h2,h3⟩
 ·obtain ⟨o,es,ep,ho,r⟩ := hm
  exact ⟨o,es,ep,k _ o (Ne.symm hL) ho,r⟩
 ·refine (I.hok b u e).stay (fun c v hc q => k c v ?_ q) (fun _ q => q) fun _ _ q => q
  rcases hc with z | z
  ·rw [z]; exact nit b u e
  ·exact nit c _ z
theorem Inv.tok (I : Inv X pins σ H s) (t : Nat) : Inv X pins σ H { s with toks := t } := I.un (h' := s.heap) (t' := t) Un.refl I.hok
theorem Inv.kept {t' : Nat} (I : Inv X pins σ H s) (k : ∀ b u,s.heap.get? b = some u → h'.get? b = some u) : Inv X pins σ H { s with heap := h',toks := t' } := I.un (Un.kept k) (I.hok.kept k)
theorem Inv.laid {a : Addr} {o : HO} {t' : Nat} (I : Inv X pins σ H s) (k : ∀ b u,s.heap.get? b = some u → h'.get? b = some u) (hp : s.heap.objs.size ≤ a) (new : ObjOk X.prog X.w (upd H a o) h' a o) :
  Inv X pins σ (upd H a o) { s with heap := h',toks := t' } := I.un (Un.laid k hp (I.hok.fresh hp)) (I.hok.laid k hp new)
theorem Inv.write {x e : Addr} {o : HO} {t' : Nat} (I : Inv X pins σ H s) (mu : Mut (H x)) (he : e = x ∨ H e = some (.own x)) (k : ∀ b u,b ≠ e → s.heap.get? b = some u → h'.get? b = some u) (heo : ∃ u,h'.get? e = some u)
  (new : ObjOk X.prog X.w (upd H x o) h' x o) : Inv X pins σ (upd H x o) { s with heap := h',toks := t' } := I.un (Un.write mu he k heo) (I.hok.write mu he k heo new)
theorem Inv.pins_of {pins' : List (Addr × Obj)} (I : Inv X pins σ H s) (h : ∀ p ∈ pins',s.heap.get? p.1 = some p.2 ∧ H p.1 = none ∧ p.1 ≠ X.env.locals ∧ p.1 ∉ X.fs ∧ ∀ v,p.2.data ≠ .cell v) : Inv X pins' σ H s :=
 ⟨I.ok,I.os,I.bare,I.base,I.loc,I.cell,I.free,I.freeC,fun p hp => (List.mem_append.mp hp).elim (fun z => I.pin p (List.mem_append_left _ z)) (h p),I.hok,I.len⟩
theorem nodup_ix {N : List Str} (hN : N.Nodup) {i j : Nat} {x : Str} (a : N[i]? = some x) (b : N[j]? = some x) : i = j := by
 obtain ⟨h1,e1⟩ := List.getElem?_eq_some_iff.mp a
 obtain ⟨h2,e2⟩ := List.getElem?_eq_some_iff.mp b
 exact (List.getElem_inj hN).mp (e1.trans e2.symm)
theorem store_ok2 {M : Model} {A : Around} {E : Value → Shared → Prop} {i : Nat} {x : Str} {v : V} {u : Value} {Q : Unit → Shared → Prop} (I : Inv X pins σ H s) (hN : X.N.Nodup) (hi : X.N[i]? = some x) (hx : Loc X.env.scope x) (r : RelV v u)
  (h : ∀ s',Inv X pins (σ.set i (some v)) H s' → (∃ a,Heap.SameBut a s.heap s'.heap ∧ (a = X.env.locals ∨ X.env.cells.lookup x = some a)) → Q () s') (hf : X.fn x = true ∨ X.env.scope.names.lookup x = some .local := by first | exact .inl rfl | exact .inr rfl | assumption) : wpAny M A (storeName X.env x u) Q E s := by
 obtain ⟨m,hn,hl⟩ := id I.loc
 have hcls : (X.env.scope.kind == .class || (X.env.scope.kind == .module && X.env.locals != X.env.globals)) = false := by rw [I.ok.kind]; rfl
 have hiσ : i < σ.length := by rw [I.len]; exact (List.getElem?_eq_some_iff.mp hi).1
 have cne := I.cne
 have tracked : ∀ {a : Addr} {h' : Heap},(∃ o,s.heap.get? a = some o ∧ H a = none) → Heap.SameBut a s.heap h' → HOk X.prog X.w H h' := fun {a h'} ha hs b ob e => by
  obtain ⟨_,_,hfree⟩ := ha
  refine (I.hok b ob e).stay (fun c w' hc q => (hs.2 c ?_).trans q) (fun _ q => q) fun _ _ q => q
  rintro rfl
  rcases hc with rfl | hc
  ·rw [hfree] at e; cases e
  ·rw [hfree] at hc; cases hc
 rcases hx with hk | hk
 ·refine wpAny_storeName_local hk hn (fun h' hn' hs => ?_) hcls
  obtain ⟨oL,_,_,hoL,_⟩ := id hn
  refine h _ ⟨I.ok,I.os,I.bare,⟨fun b o e n hb hx => ?_,fun b o e n hb hx => ?_,I.base.free,fun b o e hx => ?_,I.base.tups,I.base.frzs,I.base.tbls⟩,⟨_,hn',fun j y v' e1 e2 e3 => ?_⟩,fun y c e => ?_,I.free,I.freeC,fun p hp => ?_,tracked ⟨oL,hoL,I.free⟩ hs,by simpa using I.len⟩ ⟨_,hs,.inl rfl⟩
  ·exact (hs.2 b (Nat.ne_of_lt (Nat.lt_of_lt_of_le (Heap.lt_size e) I.ok.above))).trans (I.base.keep b o e n hb hx)
  ·obtain ⟨sl,e1⟩ := I.base.slot b o e n hb hx
   exact ⟨sl,(hs.2 b (Nat.ne_of_lt (Nat.lt_of_lt_of_le (Heap.lt_size e) I.ok.above))).trans e1⟩
  ·obtain ⟨o',e1⟩ := I.base.there b o e hx
   exact ⟨o',(hs.2 b (Nat.ne_of_lt (Nat.lt_of_lt_of_le (Heap.lt_size e) I.ok.above))).trans e1⟩
  ·by_cases hj : j = i
   ·subst hj
    rw [hi] at e1; cases e1
    rw [List.getElem?_set_self hiσ] at e2
    cases e2
    exact ⟨u,r,.inl ⟨hk,by simp⟩⟩
   ·rw [List.getElem?_set_ne (Ne.symm hj)] at e2
    obtain ⟨u',r',q⟩ := hl j y v' e1 e2 e3
    refine ⟨u',r',?_⟩
    rcases q with ⟨k,e⟩ | ⟨k,c,e,z⟩
    ·refine .inl ⟨k,?_⟩
     have : y ≠ x := fun e => hj (nodup_ix hN e1 (e ▸ hi))
     simp [this,e]
    ·exact .inr ⟨k,c,e,z.sameBut hs (cne y c e)⟩
  ·obtain ⟨w',z⟩ := I.cell y c e
   exact ⟨w',z.sameBut hs (cne y c e)⟩
  ·obtain ⟨e,n,ne,nf,d⟩ := I.pin p hp
   exact ⟨(hs.2 p.1 ne).trans e,n,ne,nf,d⟩
 ·have hfn : X.fn x = true := by
   rcases hf with z | z
   ·exact z
   ·rw [z] at hk; cases hk
  obtain ⟨c,hc⟩ := I.ok.has x (.inl hk)
  obtain ⟨w',z⟩ := I.cell x c hc
  refine wpAny_storeName_cell I.ok.kind hk hc z (fun h' hc' hs => ?_)
  obtain ⟨oc,hoc,hocd⟩ := id z
  refine h { s with heap := h' } ⟨I.ok,I.os,I.bare,⟨fun b o e n hb hx => ?_,fun b o e n hb hx => ?_,I.base.free,fun b o e hx => ?_,I.base.tups,I.base.frzs,I.base.tbls⟩,⟨m,hn.sameBut hs (Ne.symm (cne x c hc)),fun j y v' e1 e2 e3 => ?_⟩,fun y c' e => ?_,I.free,I.freeC,fun p hp => ?_,tracked ⟨oc,hoc,I.freeC x c hc⟩ hs,by simpa using I.len⟩ ⟨c,hs,.inr hc⟩
  ·exact (hs.2 b (Nat.ne_of_lt (Nat.lt_of_lt_of_le (Heap.lt_size e) (I.ok.cab x c hfn hc)))).trans (I.base.keep b o e n hb hx)
  ·obtain ⟨sl,e1⟩ := I.base.slot b o e n hb hx
   exact ⟨sl,(hs.2 b (Nat.ne_of_lt (Nat.lt_of_lt_of_le (Heap.lt_size e) (I.ok.cab x c hfn hc)))).trans e1⟩
  ·obtain ⟨o',e1⟩ := I.base.there b o e hx
   exact ⟨o',(hs.2 b (Nat.ne_of_lt (Nat.lt_of_lt_of_le (Heap.lt_size e) (I.ok.cab x c hfn hc)))).trans e1⟩
  ·by_cases hj : j = i
   ·subst hj
    rw [hi] at e1; cases e1
    rw [List.getElem?_set_self hiσ] at e2
    cases e2
    exact ⟨u,r,.inr ⟨.inl hk,c,hc,hc'⟩⟩
   ·rw [List.getElem?_set_ne (Ne.symm hj)] at e2
    obtain ⟨u',r',q⟩ := hl j y v' e1 e2 e3
    refine ⟨u',r',?_⟩
    rcases q with q | ⟨k,c',e,z'⟩
    ·exact .inl q
    ·refine .inr ⟨k,c',e,z'.sameBut hs ?_⟩
     rintro rfl
     exact hj (nodup_ix hN e1 (I.ok.inj _ _ _ e hc ▸ hi))
  ·by_cases hcc : c' = c
   ·subst hcc; exact ⟨_,hc'⟩
   ·obtain ⟨w2,z2⟩ := I.cell y c' e
    exact ⟨w2,z2.sameBut hs hcc⟩
  ·obtain ⟨e,n,ne,nf,d⟩ := I.pin p hp
   refine ⟨(hs.2 p.1 ?_).trans e,n,ne,nf,d⟩
   intro q
   rw [q,hoc] at e
   have q' : oc = p.2 := Option.some.inj e
   exact d w' (by rw [← q']; exact hocd)
theorem store_ok {M : Model} {A : Around} {E : Value → Shared → Prop} {i : Nat} {x : Str} {v : V} {u : Value} {Q : Unit → Shared → Prop} (I : Inv X pins σ H s) (hN : X.N.Nodup) (hi : X.N[i]? = some x) (hx : Loc X.env.scope x) (r : RelV v u)
  (h : ∀ s',Inv X pins (σ.set i (some v)) H s' → Q () s') (hf : X.fn x = true ∨ X.env.scope.names.lookup x = some .local := by first | exact .inl rfl | exact .inr rfl | assumption) : wpAny M A (storeName X.env x u) Q E s :=
 store_ok2 I hN hi hx r (fun s' I' _ => h s' I') hf
theorem Inv.call' {s' : Shared} {ch : List Addr} (I : Inv X pins σ H s) (ho : s'.os = s.os) (u : Un (frs X.stack) ch H H' s.heap s'.heap) (hok : HOk X.prog X.w H' s'.heap) (hg : AllBare s'.gens)
  (hch : ∀ b ∈ ch,(b ∈ X.ex ∨ X.s₀.heap.objs.size ≤ b) ∧ b ≠ X.env.locals ∧ (∀ x c,X.env.cells.lookup x = some c → c ≠ b) ∧ ∀ p ∈ X.pn ++ pins,p.1 ≠ b) : Inv X pins σ H' s' := by
 obtain ⟨h',g',d',t',o'⟩ := s'
 have e : o' = s.os := ho
 subst e
 exact I.call (g' := g') (t' := t') (d' := d') u hok hg hch
end
abbrev XK := Value → Option Addr → Hp → Prop
abbrev St := List (Option V)
abbrev VK := V → Hp → Prop
abbrev TE := St → Hp → VK → Prop
abbrev TT := St → Hp → (Bool → Hp → Prop) → Prop
abbrev TA := St → Hp → (List V → Hp → Prop) → Prop
structure Ends where
 nx : St → Hp → Prop
 rt : VK
 bk : St → Hp → Prop := fun _ _ => False
 ct : St → Hp → Prop := fun _ _ => False
abbrev TS := Ends → St → Hp → Prop
def EP (X : Cx) (pins : List (Addr × Obj)) (σ : St) (Q : VK) (u : Value) (s' : Shared) : Prop := ∃ v H',Inv X pins σ H' s' ∧ RelV v u ∧ Q v H'
def TP (X : Cx) (pins : List (Addr × Obj)) (σ : St) (Q : Bool → Hp → Prop) (b : Bool) (s' : Shared) : Prop := ∃ H',Inv X pins σ H' s' ∧ Q b H'
def AP (X : Cx) (pins : List (Addr × Obj)) (σ : St) (Q : List V → Hp → Prop) (us : List Value) (s' : Shared) : Prop := ∃ vs H',Inv X pins σ H' s' ∧ Vals vs us ∧ Q vs H'
def SP (X : Cx) (pins : List (Addr × Obj)) (D : Ends) (f : Flow) (s' : Shared) : Prop :=
 match f with
 | .next => ∃ σ' H',Inv X pins σ' H' s' ∧ D.nx σ' H'
 | .brk => ∃ σ' H',Inv X pins σ' H' s' ∧ D.bk σ' H'
 | .cont => ∃ σ' H',Inv X pins σ' H' s' ∧ D.ct σ' H'
 | .ret u => ∃ v σ' H',Inv X pins σ' H' s' ∧ RelV v u ∧ D.rt v H'
def PE (X : Cx) (e : Expr) (t : TE) : Prop :=
 ∀ (pins : List (Addr × Obj)) (s : Shared) (σ : St) (H : Hp) (Q : VK),Inv X pins σ H s → t σ H Q → wpAny (model X.prog X.w) X.A (eval e X.env) (EP X pins σ Q) X.xe s
def PT (X : Cx) (e : Expr) (t : TT) : Prop :=
 ∀ (pins : List (Addr × Obj)) (s : Shared) (σ : St) (H : Hp) (Q : Bool → Hp → Prop),Inv X pins σ H s → t σ H Q → wpAny (model X.prog X.w) X.A (isTrue e X.env (eval e X.env)) (TP X pins σ Q) X.xe s
def PW (X : Cx) (e : Expr) (t : TT) : Prop :=
 ∀ (whole : Sem Value) (pins : List (Addr × Obj)) (s : Shared) (σ : St) (H : Hp) (Q : Bool → Hp → Prop),Inv X pins σ H s → t σ H Q → wpAny (model X.prog X.w) X.A (isTrue e X.env whole) (TP X pins σ Q) X.xe s
theorem PW.pt {X : Cx} {e : Expr} {t : TT} (h : PW X e t) : PT X e t := h _
def PA (X : Cx) (es : List Expr) (t : TA) : Prop :=
 ∀ (pos : Pos) (pins : List (Addr × Obj)) (s : Shared) (σ : St) (H : Hp) (Q : List V → Hp → Prop),Inv X pins σ H s → t σ H Q → wpAny (model X.prog X.w) X.A (spliced (backTo pos (starEach es X.env))) (AP X pins σ Q) X.xe s
def PS (X : Cx) (st : Stmt) (t : TS) : Prop :=
 ∀ (pins : List (Addr × Obj)) (s : Shared) (σ : St) (H : Hp) (D : Ends),Inv X pins σ H s → t D σ H → wpAny (model X.prog X.w) X.A (exec st X.env) (SP X pins D) X.xe s
def PSs (X : Cx) (st : List Stmt) (t : TS) : Prop :=
 ∀ (pins : List (Addr × Obj)) (s : Shared) (σ : St) (H : Hp) (D : Ends),Inv X pins σ H s → t D σ H → wpAny (model X.prog X.w) X.A (execs st X.env) (SP X pins D) X.xe s
theorem thn {α : Type} {t : Sem α} {Q Q' : α → Shared → Prop} {M : Model} {A : Around} {E : Value → Shared → Prop} {s : Shared} (h : wpAny M A t Q E s) (hQ : ∀ a s,Q a s → Q' a s) : wpAny M A t Q' E s := wpAny_mono h hQ fun _ _ x => x
end L2
namespace L2
open PySem PySem.Spec PyProof.Rows
section
variable {X : Cx}
def tVar (i : Nat) : TE := fun σ H Q => ∃ v,σ[i]? = some (some v) ∧ Q v H
def tC (v : V) : TE := fun _ H Q => Q v H
theorem pe_var {i : Nat} {x : Str} {pos : Pos} (hN : X.N[i]? = some x) (hv : Vis X.env.scope x) (hd : (x == ("__debug__" : Str)) = false := by decide) (hcd : (x == ("__classdict__" : Str)) = false := by decide) : PE X (.Name x pos) (tVar i) := by
 intro pins s σ H Q I h
 obtain ⟨v,e,h⟩ := h
 obtain ⟨m,hn,hl⟩ := I.loc
 obtain ⟨u,r,l⟩ := hl i x v hN e hv
 have fin : EP X pins σ Q u s := ⟨v,H,I,r,h⟩
 rcases l with ⟨hk,hm⟩ | ⟨hk,c,hc,hcell⟩
 ·exact wpAny_Name (wpAny_loadName_local I.ok.kind hk hn hm fin) hd
 ·rcases hk with hk | hk
  ·exact wpAny_Name (wpAny_loadName_cell I.ok.kind hk hc hcell fin) hd
  ·exact wpAny_Name (wpAny_loadName_free I.ok.kind hk hc hcell fin hcd) hd
theorem pe_int {i j pos} : PE X (.Constant (.int i) j pos) (tC (.int i)) := fun _ _ _ H _ I h => wpAny_Constant_int ⟨.int i,H,I.tok _,⟨_,rfl⟩,h⟩
theorem pe_bl {b j pos} : PE X (.Constant (.bool b) j pos) (tC (.bl b)) := fun _ _ _ H _ I h => Constant_bool ⟨.bl b,H,I,rfl,h⟩
theorem pe_non {j pos} : PE X (.Constant .none j pos) (tC .non) := fun _ _ _ H _ I h => Constant_none ⟨.non,H,I,rfl,h⟩
theorem pe_str {x j pos} : PE X (.Constant (.str x) j pos) (tC (.str x)) := fun _ _ _ H _ I h => Calls.Constant_str ⟨.str x,H,I.tok _,⟨_,rfl⟩,h⟩
def Gl (X : Cx) (x : Str) : Prop := X.env.kindOf x = some .globalImplicit
theorem ld_glob {E : Value → Shared → Prop} {pins : List (Addr × Obj)} {s : Shared} {σ : St} {H : Hp} {x : Str} {u : Value} {pos : Pos} {Q : Value → Shared → Prop} (I : Inv X pins σ H s) (hg : Gl X x) (hm : X.mg x = some u) (h : Q u s)
  (hd : (x == ("__debug__" : Str)) = false := by decide) : wpAny (model X.prog X.w) X.A (eval (.Name x pos) X.env) Q E s :=
 Calls.Name_function_global I.ok.kind hg (Calls.loadGlobal_global (by rw [I.ok.glob]; exact I.mod.glob.keeps I.bk) hm h) hd
theorem ld_blt {E : Value → Shared → Prop} {pins : List (Addr × Obj)} {s : Shared} {σ : St} {H : Hp} {x : Str} {u : Value} {pos : Pos} {Q : Value → Shared → Prop} (I : Inv X pins σ H s) (hg : Gl X x) (hm : X.mg x = none) (hv : bootBuiltins x = some u) (h : Q u s)
  (hn : x ≠ "__name__" := by decide) (hd : (x == ("__debug__" : Str)) = false := by decide) : wpAny (model X.prog X.w) X.A (eval (.Name x pos) X.env) Q E s := by
 obtain ⟨mb,h1,h2⟩ := I.mod.blt
 exact Calls.Name_function_global I.ok.kind hg (Calls.loadGlobal_builtin (by rw [I.ok.glob]; exact I.mod.glob.keeps I.bk) hm (by rw [I.ok.blt]; exact h1.keeps I.bk) ((h2 x hn).trans hv) h) hd
theorem pe_glob {x : Str} {v : V} {u : Value} {pos : Pos} (hg : Gl X x) (hm : X.mg x = some u) (r : RelV v u) (hd : (x == ("__debug__" : Str)) = false := by decide) : PE X (.Name x pos) (tC v) :=
 fun _ _ _ H _ I h => ld_glob I hg hm ⟨v,H,I,r,h⟩ hd
theorem pe_bltn {x : Str} {v : V} {u : Value} {pos : Pos} (hg : Gl X x) (hm : X.mg x = none) (hv : bootBuiltins x = some u) (r : RelV v u) (hn : x ≠ "__name__" := by decide) (hd : (x == ("__debug__" : Str)) = false := by decide) : PE X (.Name x pos) (tC v) :=
 fun _ _ _ H _ I h => ld_blt I hg hm hv ⟨v,H,I,r,h⟩ hn hd
variable {a b : Expr} {ta tb : TE} {pos : Pos}
def tB (t : TE) : TT := fun σ H Q => t σ H fun x H1 => ∃ c,x = .bl c ∧ Q c H1
theorem pt_val {e : Expr} {t : TE} (h : PE X e t) (he : ∀ whole,isTrue e X.env whole = (do let v ← whole; standAt e.pos; holding [v] (truthy v)) := by intro _; rfl) : PT X e (tB t) := by
 intro pins s σ H Q I hw
 refine isTrue_plain (thn (h pins s σ H _ I hw) fun v s1 ⟨x,H1,I1,r1,q1⟩ => ?_) (he _)
 obtain ⟨d,rfl,q⟩ := q1
 cases r1
 exact wpAny_truthy_bool ⟨H1,I1,q⟩
variable {tA tB' : TT} {rest : List Expr}
def tAnd (t u : TT) : TT := fun σ H Q => t σ H fun c H1 => if c = true then u σ H1 Q else Q false H1
def tOr (t u : TT) : TT := fun σ H Q => t σ H fun c H1 => if c = true then Q true H1 else u σ H1 Q
def tNot (t : TT) : TT := fun σ H Q => t σ H fun c H1 => Q (!c) H1
theorem pw_and1 (ha : PT X a tA) : PW X (.BoolOp .And [a] pos) tA := by
 intro wh pins s σ H Q I h
 refine isTrue_and (thn (ha pins s σ H Q I h) fun c s1 e => ?_)
 cases c with
 | true => exact isTrue_and_nil e
 | false => exact e
theorem pw_or1 (ha : PT X a tA) : PW X (.BoolOp .Or [a] pos) tA := by
 intro wh pins s σ H Q I h
 refine isTrue_or (thn (ha pins s σ H Q I h) fun c s1 e => ?_)
 cases c with
 | false => exact isTrue_or_nil e
 | true => exact e
theorem pw_and (ha : PT X a tA) (hb : PW X (.BoolOp .And (b :: rest) pos) tB') : PW X (.BoolOp .And (a :: b :: rest) pos) (tAnd tA tB') := by
 intro wh pins s σ H Q I h
 refine isTrue_and (thn (ha pins s σ H _ I h) fun c s1 ⟨H1,I1,q1⟩ => ?_)
 cases c with
 | true => exact hb wh pins s1 σ H1 Q I1 q1
 | false => exact ⟨H1,I1,q1⟩
theorem pw_or (ha : PT X a tA) (hb : PW X (.BoolOp .Or (b :: rest) pos) tB') : PW X (.BoolOp .Or (a :: b :: rest) pos) (tOr tA tB') := by
 intro wh pins s σ H Q I h
 refine isTrue_or (thn (ha pins s σ H _ I h) fun c s1 ⟨H1,I1,q1⟩ => ?_)
 cases c with
 | true => exact ⟨H1,I1,q1⟩
 | false => exact hb wh pins s1 σ H1 Q I1 q1
theorem pt_not (ha : PT X a tA) : PT X (.UnaryOp .Not a pos) (tNot tA) := by
 intro pins s σ H Q I h
 exact isTrue_not (ha pins s σ H (fun c H1 => Q (!c) H1) I h)
def tAndV (ta tb : TE) : TE := fun σ H Q => ta σ H fun x H1 => ∃ c,x = .bl c ∧ if c = true then tb σ H1 Q else Q (.bl false) H1
def tNotV (ta : TE) : TE := fun σ H Q => ta σ H fun x H1 => ∃ c,x = .bl c ∧ Q (.bl (!c)) H1
theorem pe_one {op} {t : TE} (h : PE X a t) : PE X (.BoolOp op [a] pos) t := fun pins s σ H Q I hw => BoolOp_one (h pins s σ H Q I hw)
theorem pe_and (ha : PE X a ta) (hb : PE X (.BoolOp .And (b :: rest) pos) tb) : PE X (.BoolOp .And (a :: b :: rest) pos) (tAndV ta tb) := by
 intro pins s σ H Q I h
 refine BoolOp_and (thn (ha pins s σ H _ I h) fun v s1 ⟨x,H1,I1,r1,q1⟩ => ?_)
 obtain ⟨c,rfl,q1⟩ := q1
 cases r1
 refine wpAny_truthy_bool ?_
 cases c with
 | true => exact hb pins s1 σ H1 Q I1 q1
 | false => exact ⟨.bl false,H1,I1,rfl,q1⟩
theorem pe_not (ha : PE X a ta) : PE X (.UnaryOp .Not a pos) (tNotV ta) := by
 intro pins s σ H Q I h
 refine UnaryOp_ (thn (ha pins s σ H _ I h) fun v s1 ⟨x,H1,I1,r1,q1⟩ => ?_)
 obtain ⟨c,rfl,q1⟩ := q1
 cases r1
 exact not_of (wpAny_truthy_bool ⟨.bl (!c),H1,I1,rfl,q1⟩)
def tIf (t : TT) (ta tb : TE) : TE := fun σ H Q => t σ H fun c H1 => if c = true then ta σ H1 Q else tb σ H1 Q
theorem pe_ifExp {c : Expr} (hc : PT X c tA) (ha : PE X a ta) (hb : PE X b tb) : PE X (.IfExp c a b pos) (tIf tA ta tb) := by
 intro pins s σ H Q I h
 refine wpAny_IfExp (thn (hc pins s σ H _ I h) fun d s1 ⟨H1,I1,q1⟩ => ?_)
 cases d with
 | true => exact ha pins s1 σ H1 Q I1 q1
 | false => exact hb pins s1 σ H1 Q I1 q1
end
end L2
namespace L2
open PySem PySem.Spec PyProof.Rows
def SqL (K : PySem.W.Frag) (H : Hp) (a : Addr) (xs : List V) : Prop :=
 Rd H a (.lst xs) ∨
  ∃ (o : Obj) (its : Array Value) (n : Nat),K.lookup a = some o ∧ o.cls = .type "list" ∧ o.dict = none ∧ o.data = .seq its n ∧ its.size ≤ sizeLine ∧ Vals xs its.toList
def SqT (K : PySem.W.Frag) (H : Hp) (a : Addr) (xs : List V) : Prop :=
 Rd H a (.tup xs) ∨
  ∃ (o : Obj) (its : Array Value) (n : Nat),K.lookup a = some o ∧ o.cls = .type "tuple" ∧ o.data = .seq its n ∧ its.size ≤ sizeLine ∧ Vals xs its.toList
def absV : Value → Option V
 | .none => some .non
 | .bool b => some (.bl b)
 | .int i _ => some (.int i)
 | .str x _ => some (.str x)
 | .bytes b _ => some (.byt b)
 | .float b _ => some (.flt b)
 | .ref a => some (.ref a)
 | .type n => some (.ty n)
 | _ => none
theorem RelV.abs {x : V} {u : Value} (r : RelV x u) : absV u = some x := by
 cases x with
 | non => cases r; rfl
 | bl _ => cases r; rfl
 | int _ => obtain ⟨t,rfl⟩ := r; rfl
 | str _ => obtain ⟨t,rfl⟩ := r; rfl
 | byt _ => obtain ⟨t,rfl⟩ := r; rfl
 | flt _ => obtain ⟨t,rfl⟩ := r; rfl
 | ref _ => cases r; rfl
 | ty _ => cases r; rfl
theorem RelV.inj {x y : V} {u : Value} (r : RelV x u) (q : RelV y u) : x = y := Option.some.inj (r.abs.symm.trans q.abs)
theorem Vals.inj {xs ys : List V} {us : List Value} (h : Vals xs us) (g : Vals ys us) : xs = ys := by
 induction h generalizing ys with
 | nil => cases g; rfl
 | cons r t ih => cases g with | cons r' t' => rw [r.inj r',ih t']
section
variable {X : Cx} {pins : List (Addr × Obj)} {σ : St} {H : Hp} {s : Shared} {a : Addr} {xs ys : List V}
theorem SqL.of {K : PySem.W.Frag} (h : H a = some (.lst xs)) : SqL K H a xs := .inl (.inl h)
theorem SqT.of {K : PySem.W.Frag} (h : H a = some (.tup xs)) : SqT K H a xs := .inl (.inl h)
theorem Inv.list (I : Inv X pins σ H s) (h : SqL X.K H a xs) : ∃ its : List Value,Vals xs its ∧ PlainL s.heap a its.toArray ∧ xs.length ≤ sizeLine := by
 rcases h with h | ⟨o,its,n,hk,hc,hd,hs,hz,r⟩
 ·obtain ⟨z,its,n,r,e⟩ := h.ok I.hok
  exact ⟨its,r,⟨_,n,e,rfl,rfl,rfl⟩,z⟩
 ·refine ⟨its.toList,r,⟨o,n,I.kIn a o hk,hc,hd,by simpa using hs⟩,?_⟩
  have e := r.length
  simp only [Array.length_toList] at e
  omega
theorem Inv.tuple (I : Inv X pins σ H s) (h : SqT X.K H a xs) : ∃ its : List Value,Vals xs its ∧ IsTup s.heap a its.toArray ∧ xs.length ≤ sizeLine := by
 rcases h with h | ⟨o,its,n,hk,hc,hs,hz,r⟩
 ·obtain ⟨z,its,r,p⟩ := h.ok I.hok
  exact ⟨its,r,p,z⟩
 ·refine ⟨its.toList,r,⟨o,I.kIn a o hk,hc,n,by simpa using hs⟩,?_⟩
  have e := r.length
  simp only [Array.length_toList] at e
  omega
theorem Inv.list_inj (I : Inv X pins σ H s) (h : SqL X.K H a xs) (h' : SqL X.K H a ys) : xs = ys := by
 obtain ⟨its,r,⟨o,n,e,_,_,d⟩,_⟩ := I.list h
 obtain ⟨its',r',⟨o',n',e',_,_,d'⟩,_⟩ := I.list h'
 rw [e] at e'; cases e'
 rw [d] at d'
 injection d' with d1 _
 have : its = its' := by simpa using congrArg Array.toList d1
 subst this
 exact r.inj r'
end
abbrev Cx.wish (X : Cx) (E : Value → Shared → Prop) : Cx := { X with xe := E }
abbrev Cx.nox (X : Cx) : Cx := X.wish fun _ _ => False
theorem Cx.Ok.wish {X : Cx} (ok : X.Ok) (E : Value → Shared → Prop) : (X.wish E).Ok :=
 ⟨ok.mod,ok.kind,ok.glob,ok.blt,ok.above,ok.inj,ok.has,ok.cab,ok.hd,ok.frames,ok.stk,ok.exf,ok.bs,ok.bsz,ok.noex,ok.exfs,ok.funs,ok.frf⟩
theorem Cx.Ok.unwish {X : Cx} {E : Value → Shared → Prop} (ok : (X.wish E).Ok) : X.Ok :=
 ⟨ok.mod,ok.kind,ok.glob,ok.blt,ok.above,ok.inj,ok.has,ok.cab,ok.hd,ok.frames,ok.stk,ok.exf,ok.bs,ok.bsz,ok.noex,ok.exfs,ok.funs,ok.frf⟩
section
variable {X : Cx} {pins : List (Addr × Obj)} {σ : St} {H : Hp} {s : Shared} {E : Value → Shared → Prop}
theorem Inv.wish (I : Inv X pins σ H s) (E : Value → Shared → Prop) : Inv (X.wish E) pins σ H s := ⟨I.ok.wish E,I.os,I.bare,I.base,I.loc,I.cell,I.free,I.freeC,I.pin,I.hok,I.len⟩
theorem Inv.unwish (I : Inv (X.wish E) pins σ H s) : Inv X pins σ H s := ⟨I.ok.unwish,I.os,I.bare,I.base,I.loc,I.cell,I.free,I.freeC,I.pin,I.hok,I.len⟩
theorem SP.unwish {D : Ends} {f : Flow} {s' : Shared} (h : SP (X.wish E) pins D f s') : SP X pins D f s' := by
 cases f with
 | next => obtain ⟨σ',H',I,q⟩ := h; exact ⟨σ',H',I.unwish,q⟩
 | brk => obtain ⟨σ',H',I,q⟩ := h; exact ⟨σ',H',I.unwish,q⟩
 | cont => obtain ⟨σ',H',I,q⟩ := h; exact ⟨σ',H',I.unwish,q⟩
 | ret u => obtain ⟨v,σ',H',I,r,q⟩ := h; exact ⟨v,σ',H',I.unwish,r,q⟩
theorem PSs.nox {st : List Stmt} {t : TS} (h : PSs X.nox st t) : PSs X st t := fun pins s σ H D I hw =>
 wpAny_mono (h pins s σ H D (I.wish _) hw) (fun _ _ q => q.unwish) fun _ _ z => False.elim z
end
section
variable {X : Cx} {st : Stmt} {rest : List Stmt} {t u : TS} {e : Expr} {te : TE} {pos : Pos}
def tNext : TS := fun D σ H => D.nx σ H
def tSeq (t u : TS) : TS := fun D σ H => t { D with nx := u D } σ H
theorem pss_nil : PSs X [] tNext := fun _ _ σ H _ I h => wpAny_execs_nil ⟨σ,H,I,h⟩
theorem pss_cons (h1 : PS X st t) (h2 : PSs X rest u) : PSs X (st :: rest) (tSeq t u) := by
 intro pins s σ H D I h
 refine wpAny_execs_cons (thn (h1 pins s σ H { D with nx := u D } I h) fun f s1 q => ?_)
 cases f with
 | next =>
  obtain ⟨σ',H',I',q⟩ := q
  exact h2 pins s1 σ' H' D I' q
 | ret v => exact q
 | brk => exact q
 | cont => exact q
theorem pss_one (h1 : PS X st t) : PSs X [st] t := by
 intro pins s σ H D I h
 refine wpAny_execs_cons (thn (h1 pins s σ H D I h) fun f s1 q => ?_)
 cases f with
 | next => exact wpAny_execs_nil q
 | ret v => exact q
 | brk => exact q
 | cont => exact q
theorem Inv.quiet {pins : List (Addr × Obj)} {σ : St} {H : Hp} {s : Shared} (I : Inv X pins σ H s) : interactive X.env = false := by simp [interactive,I.ok.kind]
def tDrop (te : TE) : TS := fun D σ H => te σ H fun _ H1 => D.nx σ H1
theorem ps_expr (he : PE X e te) (hs : swapsWith e none pos.line X.env = pure false := by rfl) : PS X (.Expr e pos) (tDrop te) := by
 intro pins s σ H D I h
 exact wpAny_Expr_any (thn (he pins s σ H _ I h) fun v s1 ⟨x,H1,I1,r1,q1⟩ => ⟨σ,H1,I1,q1⟩) I.quiet hs
def tRet (te : TE) : TS := fun D σ H => te σ H D.rt
theorem ps_ret (he : PE X e te) : PS X (.Return (some e) pos) (tRet te) := by
 intro pins s σ H D I h
 exact wpAny_Return_some (thn (he pins s σ H _ I h) fun v s1 ⟨x,H1,I1,r1,q1⟩ => ⟨x,σ,H1,I1,r1,q1⟩)
def tIfS (c : TT) (t u : TS) : TS := fun D σ H => c σ H fun b H1 => if b = true then t D σ H1 else u D σ H1
theorem ps_if {c : Expr} {a b : List Stmt} {tc : TT} (hc : PT X c tc) (ha : PSs X a t) (hb : PSs X b u) : PS X (.If c a b pos) (tIfS tc t u) := by
 intro pins s σ H D I h
 refine wpAny_If (thn (hc pins s σ H _ I h) fun d s1 ⟨H1,I1,q1⟩ => ?_)
 cases d with
 | true => exact ha pins s1 σ H1 D I1 q1
 | false => exact hb pins s1 σ H1 D I1 q1
end
abbrev TG := V → St → Hp → (St → Hp → Prop) → Prop
abbrev TGs := List V → St → Hp → (St → Hp → Prop) → Prop
def PG (X : Cx) (target : Expr) (t : TG) : Prop :=
 ∀ (pins : List (Addr × Obj)) (s : Shared) (σ : St) (H : Hp) (v : V) (u : Value) (Q : St → Hp → Prop),Inv X pins σ H s → RelV v u → t v σ H Q →
  wpAny (model X.prog X.w) X.A (assign target X.env u) (fun _ s' => ∃ σ' H',Inv X pins σ' H' s' ∧ Q σ' H') X.xe s
def PGs (X : Cx) (ts : List Expr) (t : TGs) : Prop :=
 ∀ (pins : List (Addr × Obj)) (s : Shared) (σ : St) (H : Hp) (vs : List V) (us : List Value) (Q : St → Hp → Prop),Inv X pins σ H s → Vals vs us → t vs σ H Q →
  wpAny (model X.prog X.w) X.A (assignInOrder ((assignEach ts X.env).map (·.2)) us) (fun _ s' => ∃ σ' H',Inv X pins σ' H' s' ∧ Q σ' H') X.xe s
abbrev TSet := V → V → V → Hp → (Hp → Prop) → Prop
def PSet (X : Cx) (t : TSet) : Prop :=
 ∀ (pins : List (Addr × Obj)) (s : Shared) (σ : St) (H : Hp) (o i v : V) (ov iv u : Value) (Q : Hp → Prop),Inv X pins σ H s → RelV o ov → RelV i iv → RelV v u → t o i v H Q →
  wpAny (model X.prog X.w) X.A (setItem ov iv u) (fun _ s' => ∃ H',Inv X pins σ H' s' ∧ Q H') X.xe s
section
variable {X : Cx} {pos : Pos}
def gName (i : Nat) : TG := fun v σ H Q => Q (σ.set i (some v)) H
theorem pg_name {i : Nat} {x : Str} (hN : X.N.Nodup) (hi : X.N[i]? = some x) (hx : Loc X.env.scope x) (hf : X.fn x = true ∨ X.env.scope.names.lookup x = some .local := by first | exact .inl rfl | exact .inr rfl | assumption) : PG X (.Name x pos) (gName i) := by
 intro pins s σ H v u Q I r h
 exact wpAny_assign_Name (store_ok I hN hi hx r (fun s' I' => ⟨_,H,I',h⟩) hf)
def gNil : TGs := fun vs σ H Q => vs = [] ∧ Q σ H
def gCons (t : TG) (u : TGs) : TGs := fun vs σ H Q => ∃ v r,vs = v :: r ∧ t v σ H fun σ' H' => u r σ' H' Q
theorem pgs_nil : PGs X [] gNil := by
 intro pins s σ H vs us Q I r h
 obtain ⟨e,h⟩ := h
 subst e
 cases r
 exact assignInOrder_nil ⟨σ,H,I,h⟩
theorem pgs_cons {e : Expr} {es : List Expr} {t : TG} {u : TGs} (h1 : PG X e t) (h2 : PGs X es u)
  (hs : (assignEach (e :: es) X.env).map (·.2) = assign e X.env :: (assignEach es X.env).map (·.2) := by rfl) : PGs X (e :: es) (gCons t u) := by
 intro pins s σ H vs us Q I r h
 obtain ⟨v,vr,e1,h⟩ := h
 subst e1
 cases r with
 | cons r rr =>
  rw [hs]
  refine assignInOrder_cons (thn (h1 pins s σ H _ _ _ I r h) fun _ s1 ⟨σ1,H1,I1,q1⟩ => ?_)
  exact h2 pins s1 σ1 H1 _ _ Q I1 rr q1
def gTup (K : PySem.W.Frag) (n : Nat) (t : TGs) : TG := fun v σ H Q => ∃ a xs,v = .ref a ∧ SqT K H a xs ∧ xs.length = n ∧ t xs σ H Q
theorem pg_tup {es : List Expr} {k : Nat} {t : TGs} {n : Nat} (hc : X.calm = true) (h : PGs X es t)
  (hn : (assignEach es X.env).length = n := by rfl) (hst : (assignEach es X.env).findIdx? (·.1) = none := by rfl) : PG X (.Tuple es k pos) (gTup X.K n t) := by
 intro pins s σ H v u Q I r hw
 obtain ⟨a,xs,e1,hq,hl,hw⟩ := hw
 subst e1
 cases r
 obtain ⟨its,rv,ht,hz⟩ := I.tuple hq
 refine assign_Tuple_tuple (I.ok.hd hc) ht (by simp [hn,← hl,rv.length]) hst fun h' hx => ?_
 have I1 : Inv X pins σ H { s with heap := h' } := I.kept (t' := s.toks) fun b o e => hx b o (Nat.ne_of_lt (Heap.lt_size e)) e
 exact h pins _ σ H xs _ Q I1 (by simpa using rv) hw
def gSub (to ti : TE) (t : TSet) : TG := fun v σ H Q => to σ H fun o H1 => ti σ H1 fun i H2 => t o i v H2 fun H3 => Q σ H3
theorem pg_sub {o i : Expr} {to ti : TE} {t : TSet} (ho : PE X o to) (hi : PE X i ti) (hs : PSet X t)
  (ha : ∀ v,assign (.Subscript o i pos) X.env v = (do
   let ov ← holding [v] (eval o X.env)
   let iv ← holding [v,ov] (eval i X.env)
   standAt pos
   holding [v,ov,iv] (setItem ov iv v)
   release [v,ov,iv] []) := by intro _; rfl) : PG X (.Subscript o i pos) (gSub to ti t) := by
 intro pins s σ H v u Q I r h
 rw [ha]
 refine wpAny_bind (wpAny_holding (thn (ho pins s σ H _ I h) fun ov s1 ⟨x,H1,I1,r1,q1⟩ => ?_))
 refine wpAny_bind (wpAny_holding (thn (hi pins s1 σ H1 _ I1 q1) fun iv s2 ⟨y,H2,I2,r2,q2⟩ => ?_))
 refine wpAny_bind (wpAny_standAt (wpAny_bind (wpAny_holding (thn (hs pins s2 σ H2 x y v ov iv u _ I2 r1 r2 r q2) fun _ s3 ⟨H3,I3,q3⟩ => ?_))))
 exact wpAny_release ⟨σ,H3,I3,q3⟩
def tAsg (te : TE) (g : TG) : TS := fun D σ H => te σ H fun x H1 => g x σ H1 D.nx
theorem ps_asg {tg e : Expr} {te : TE} {g : TG} (he : PE X e te) (hg : PG X tg g) (hs : swapsWithSole [tg] e pos.line X.env = pure false := by rfl) (hw : swappedStores [tg] e X.env = pure none := by rfl)
  (h1 : (assignEach [tg] X.env).map (·.2) = [assign tg X.env] := by rfl) : PS X (.Assign [tg] e pos) (tAsg te g) := by
 intro pins s σ H D I h
 refine wpAny_Assign_stores (thn (he pins s σ H _ I h) fun v s1 ⟨x,H1,I1,r1,q1⟩ => ?_) hs hw
 rw [h1]
 exact thn (hg pins s1 σ H1 x v _ I1 r1 q1) fun _ s2 q => q
theorem ps_set {i : Nat} {x : Str} {e : Expr} {te : TE} {pos' : Pos} (hN : X.N.Nodup) (hi : X.N[i]? = some x) (hx : Loc X.env.scope x) (he : PE X e te) (hs : swapsWith e (some (.Name x pos')) pos.line X.env = pure false := by rfl) (hf : X.fn x = true ∨ X.env.scope.names.lookup x = some .local := by first | exact .inl rfl | exact .inr rfl | assumption) :
  PS X (.Assign [.Name x pos'] e pos) (tAsg te (gName i)) := by
 intro pins s σ H D I h
 refine wpAny_Assign_Name (thn (he pins s σ H _ I h) fun v s1 ⟨y,H1,I1,r1,q1⟩ => ?_) hs
 exact store_ok I1 hN hi hx r1 (fun s2 I2 => ⟨_,H1,I2,q1⟩) hf
end
section
variable {X : Cx} {pos : Pos}
end
structure It where
 go : Nat → Hp → Prop
 yld : Nat → Hp → V → Hp → Prop
 stop : Nat → Hp → Prop
def FpOk (X : Cx) (pins : List (Addr × Obj)) (H : Hp) (b : Addr) : Prop :=
 H b = none ∧ b ≠ X.env.locals ∧ b ∉ X.fs ∧ (b ∈ X.ex ∨ X.s₀.heap.objs.size ≤ b) ∧ (∀ x c,X.env.cells.lookup x = some c → c ≠ b) ∧ ∀ p ∈ X.pn ++ pins,p.1 ≠ b
theorem Inv.fpOk {X : Cx} {pins : List (Addr × Obj)} {σ : St} {H H' : Hp} {s : Shared} {b : Addr} (I : Inv X pins σ H s) (hb : s.heap.objs.size ≤ b) (hn : H' b = none) : FpOk X pins H' b := by
 refine ⟨hn,Nat.ne_of_gt (Nat.lt_of_lt_of_le I.lt hb),I.nofs hb,.inr (Nat.le_trans I.sz hb),fun x c e z => ?_,fun p hp z => ?_⟩
 ·obtain ⟨v,q⟩ := I.cell x c e
  exact absurd (Nat.lt_of_lt_of_le q.lt (by rw [z]; exact hb)) (Nat.lt_irrefl _)
 ·exact absurd (Nat.lt_of_lt_of_le (Heap.lt_size (I.pin p hp).1) (by rw [z]; exact hb)) (Nat.lt_irrefl _)
structure Turn (P : Program) (w : World) (K : PySem.W.Frag) (tg : Expr) (J : It) (fp : List Addr) (it : Addr) (tn : Nat → Heap → Prop) : Prop where
 mem : it ∈ fp
 obj : ∀ i h,tn i h → ∀ b ∈ fp,∃ o,h.get? b = some o ∧ ∀ v,o.data ≠ .cell v
 keep : ∀ i h h',tn i h → (∀ b ∈ fp,∀ o,h.get? b = some o → h'.get? b = some o) → tn i h'
 item : ∀ (X : Cx),X.prog = P → X.w = w → X.K = K → X.calm = true → ∀ (i : Nat) (pins : List (Addr × Obj)) (s : Shared) (σ : St) (H : Hp) (E : Value → Shared → Prop),Inv X pins σ H s → (∀ b ∈ fp,FpOk X pins H b) → tn i s.heap → J.go i H →
  wpAny (model P w) X.A (pyNext (.ref it)) (fun r s1 => ∃ u,r = some u ∧
   wpAny (model P w) X.A (letOwnedTupleGo tg (.ref it) u) (fun _ s2 => ∃ x H',Inv X pins σ H' s2 ∧ RelV x u ∧ J.yld i H x H' ∧ tn (i + 1) s2.heap ∧ ∀ b ∈ fp,H' b = none) E s1) E s
 done : ∀ (X : Cx),X.prog = P → X.w = w → X.K = K → X.calm = true → ∀ (i : Nat) (pins : List (Addr × Obj)) (s : Shared) (σ : St) (H : Hp) (E : Value → Shared → Prop),Inv X pins σ H s → (∀ b ∈ fp,FpOk X pins H b) → tn i s.heap → J.stop i H →
  wpAny (model P w) X.A (pyNext (.ref it)) (fun r s1 => r = none ∧ Inv X pins σ H s1) E s
 self : ∀ (A : Around) (i : Nat) (s : Shared) (Q : Value → Shared → Prop) (E : Value → Shared → Prop),tn i s.heap → Q (.ref it) s → wpAny (model P w) A (pyIter (.ref it)) Q E s
abbrev TI := St → Hp → (It → Hp → Prop) → Prop
def PIE (X : Cx) (pins : List (Addr × Obj)) (σ : St) (tg : Expr) (R : It → Hp → Prop) (itv : Value) (s2 : Shared) : Prop :=
 ∃ (it : Addr) (fp : List Addr) (tn : Nat → Heap → Prop) (J : It) (H' : Hp),itv = .ref it ∧ Inv X pins σ H' s2 ∧ Turn X.prog X.w X.K tg J fp it tn ∧ tn 0 s2.heap ∧ (∀ b ∈ fp,FpOk X pins H' b) ∧ R J H'
def PI (X : Cx) (tg iter : Expr) (wi : TI) : Prop :=
 ∀ (pins : List (Addr × Obj)) (s : Shared) (σ : St) (H : Hp) (R : It → Hp → Prop),Inv X pins σ H s → wi σ H R →
  wpAny (model X.prog X.w) X.A (eval iter X.env) (fun v s1 => wpAny (model X.prog X.w) X.A (pyIter v) (PIE X pins σ tg R) X.xe s1) X.xe s
theorem go_of {M : Model} {A : Around} {E : Value → Shared → Prop} {s : Shared} {tg : Expr} {it : Addr} {u : Value} {o : Obj} {n : String} {vs : Array Value} {Q : Unit → Shared → Prop} (ho : s.heap.get? it = some o) (hc : o.cls = .type n) (hd : o.data = .fields vs)
  (hn : ["enumerate","zip","dict_itemiterator","dict_reverseitemiterator","odict_iterator","itertools.zip_longest","itertools.pairwise"].contains n = false) (hQ : Q () s) : wpAny M A (letOwnedTupleGo tg (.ref it) u) Q E s := by
 unfold letOwnedTupleGo
 cases tg <;> first
  | exact wpAny_pure hQ
  | (cases u <;> first
    | exact wpAny_pure hQ
    | (refine wpAny_bind (wpAny_load ho ?_); rw [hc,hd]; show wpAny M A (if (["enumerate","zip","dict_itemiterator","dict_reverseitemiterator","odict_iterator","itertools.zip_longest","itertools.pairwise"].contains n && vs[0]? == some (rawInt _)) = true then _ else _) Q E s; rw [if_neg (by intro h; rw [hn,Bool.false_and] at h; cases h)]; exact wpAny_pure hQ))
def Itl (K : PySem.W.Frag) (a : Addr) : It :=
 ⟨fun i H => ∃ xs x,SqL K H a xs ∧ xs[i]? = some x,fun i H x H' => H' = H ∧ ∀ xs,SqL K H a xs → xs[i]? = some x,fun i H => ∃ xs,SqL K H a xs ∧ xs.length ≤ i⟩
def Itr (lo : Int) (n : Nat) : It := ⟨fun i _ => i < n,fun i H x H' => H' = H ∧ x = .int (lo + i),fun i _ => n ≤ i⟩
theorem turn_list {P : Program} {w : World} {K : PySem.W.Frag} {tg : Expr} (a it : Addr) : Turn P w K tg (Itl K a) [it] it (fun i h => h.IsListIter it a i) where
 mem := by simp
 obj := fun i h st b hb => by
  have e : b = it := by simpa using hb
  subst e
  obtain ⟨o,e,c,d⟩ := st
  exact ⟨o,e,fun v z => by rw [d] at z; cases z⟩
 keep := fun i h h' st k => st.at fun o e => k it (by simp) o e
 item := by
  intro X hP hw hK hc i pins s σ H E I hf st hg
  subst hP hw hK
  obtain ⟨xs,x,hq,hx⟩ := hg
  obtain ⟨its,rv,p,hz⟩ := I.list hq
  obtain ⟨u,hu,ru⟩ := rv.get hx
  obtain ⟨f0,f1,f2,f3,f4,f5⟩ := hf it (by simp)
  refine wpAny_pyNext_list_item st p.isList (x := u) (by simpa using hu) fun h' st' sb => ?_
  have I1 : Inv X pins σ H { s with heap := h' } := I.turned (t' := s.toks) (fun b o hb e => (sb.2 b hb).trans e) f0 f1 f3 f4 f5
  obtain ⟨o,e,c,d⟩ := id st'
  exact ⟨u,rfl,go_of (s := { s with heap := h' }) e c d (by decide) ⟨x,H,I1,ru,⟨rfl,fun ys hy => by rw [I.list_inj hy hq]; exact hx⟩,st',fun b hb => (hf b hb).1⟩⟩
 done := by
  intro X hP hw hK hc i pins s σ H E I hf st hg
  subst hP hw hK
  obtain ⟨xs,hq,hx⟩ := hg
  obtain ⟨its,rv,p,hz⟩ := I.list hq
  obtain ⟨f0,f1,f2,f3,f4,f5⟩ := hf it (by simp)
  have hl := rv.length
  exact wpAny_pyNext_list_end (I.ok.hd hc) st p.isList (by simp; omega) fun h' eb => ⟨rfl,I.turned (t' := s.toks) (fun b o hb e => eb b o hb e) f0 f1 f3 f4 f5⟩
 self := fun _ _ _ _ _ st h => wpAny_pyIter_listiter st h
theorem turn_range {P : Program} {w : World} {K : PySem.W.Frag} {tg : Expr} (it : Addr) (lo : Int) (n : Nat) : Turn P w K tg (Itr lo n) [it] it (fun i h => IsRangeIter h it (lo + (i : Nat) * 1) ((n : Int) - (i : Nat)) 1) where
 mem := by simp
 obj := fun i h st b hb => by
  have e : b = it := by simpa using hb
  subst e
  exact ⟨_,st,fun v z => by
   have z' : Data.fields _ = Data.cell v := z
   cases z'⟩
 keep := fun i h h' st k => k it (by simp) _ st
 item := by
  intro X hP hw hK hc i pins s σ H E I hf st hg
  subst hP hw hK
  obtain ⟨f0,f1,f2,f3,f4,f5⟩ := hf it (by simp)
  have W := Walks.range (prog := X.prog) (w := X.w) (I.ok.hd hc) it lo 1 n
  refine W.item i s _ _ hg st fun v h' tk hv st' kk => ?_
  obtain ⟨t,rfl⟩ := hv
  have I1 : Inv X pins σ H { s with heap := h',toks := tk } := I.turned (fun b o hb e => kk b o (by simpa using hb) e) f0 f1 f3 f4 f5
  refine ⟨_,rfl,go_of (s := { s with heap := h',toks := tk }) (n := "range_iterator") st' rfl rfl (by decide) ⟨.int (lo + i),H,I1,⟨t,?_⟩,⟨rfl,rfl⟩,st',fun b hb => (hf b hb).1⟩⟩
  rw [Int.mul_one]
 done := by
  intro X hP hw hK hc i pins s σ H E I hf st hg
  subst hP hw hK
  obtain ⟨f0,f1,f2,f3,f4,f5⟩ := hf it (by simp)
  exact wpAny_pyNext_range_end (I.ok.hd hc) st (by have : n ≤ i := hg; omega) fun h' eb => ⟨rfl,I.turned (t' := s.toks) (fun b o hb e => eb b o hb e) f0 f1 f3 f4 f5⟩
 self := fun _ _ _ _ _ st h => wpAny_pyIter_rangeiter st h
end L2
namespace L2
open PySem PySem.Spec PyProof.Rows
section
variable {X : Cx} {tg : Expr}
def iList (K : PySem.W.Frag) (tl : TE) : TI := fun σ H R => tl σ H fun x H1 => ∃ a,x = .ref a ∧ (∃ xs,SqL K H1 a xs) ∧ R (Itl K a) H1
theorem pi_list {l : Expr} {tl : TE} (hl : PE X l tl) : PI X tg l (iList X.K tl) := by
 intro pins s σ H R I h
 refine thn (hl pins s σ H _ I h) fun v s1 ⟨x,H1,I1,r1,q1⟩ => ?_
 obtain ⟨a,e,⟨xs,hq⟩,q⟩ := q1
 subst e
 cases r1
 obtain ⟨its,rv,p,hz⟩ := I1.list hq
 refine wpAny_pyIter_list p.isList ?_
 refine ⟨s1.heap.objs.size,[s1.heap.objs.size],_,_,H1,rfl,I1.kept (t' := s1.toks) fun b o e => Heap.get?_push_of_some _ e,turn_list a _,⟨_,Heap.get?_push_size _ rfl,rfl,rfl⟩,fun b hb => ?_,q⟩
 have e : b = s1.heap.objs.size := by simpa using hb
 subst e
 exact I1.fpOk (Nat.le_refl _) (I1.hok.fresh (Nat.le_refl _))
theorem range_it {pins : List (Addr × Obj)} {σ : St} {H : Hp} {s : Shared} {R : It → Hp → Prop} {E : Value → Shared → Prop} {lo hi : Int} {t u v : Tok} {tk : Nat} (I : Inv X pins σ H s) (h1 : -(2 ^ 62) ≤ lo) (h2 : lo < 2 ^ 62) (h3 : -(2 ^ 62) ≤ hi) (h4 : hi < 2 ^ 62)
  (q : R (Itr lo (hi - lo).toNat) H) : wpAny (model X.prog X.w) X.A (pyIter (.ref s.heap.objs.size)) (PIE X pins σ tg R) E { s with heap := s.heap.push { cls := .type "range",data := .fields #[.int lo t,.int hi u,.int 1 v] },toks := tk } := by
 refine wpAny_pyIter_range (IsRange.new ..) (small_one h1 h2 h3 h4) ?_
 have I1 : Inv X pins σ H { s with heap := s.heap.push { cls := .type "range",data := .fields #[.int lo t,.int hi u,.int 1 v] },toks := tk } := I.kept fun b o e => Heap.get?_push_of_some _ e
 refine ⟨(s.heap.push { cls := .type "range",data := .fields #[.int lo t,.int hi u,.int 1 v] }).objs.size,[(s.heap.push { cls := .type "range",data := .fields #[.int lo t,.int hi u,.int 1 v] }).objs.size],_,_,H,rfl,
  I1.kept (t' := tk) fun b o e => Heap.get?_push_of_some _ e,turn_range _ lo (hi - lo).toNat,?_,fun b hb => ?_,q⟩
 ·have e1 : lo + ((0 : Nat) : Int) * 1 = lo := by simp
  have e2 : (((hi - lo).toNat : Nat) : Int) - ((0 : Nat) : Int) = Builtin.Range.rangeSize lo hi 1 := by rw [rangeSize_one]; split <;> omega
  show IsRangeIter _ _ (lo + ((0 : Nat) : Int) * 1) ((((hi - lo).toNat : Nat) : Int) - ((0 : Nat) : Int)) 1
  rw [e1,e2]
  exact Heap.get?_push_size _ rfl
 ·have e : b = (s.heap.push { cls := .type "range",data := .fields #[.int lo t,.int hi u,.int 1 v] }).objs.size := by simpa using hb
  subst e
  exact I1.fpOk (Nat.le_refl _) (I1.hok.fresh (Nat.le_refl _))
def iRng1 (ta : TA) : TI := fun σ H R => ta σ H fun vs H1 => ∃ j : Int,vs = [.int j] ∧ -(2 ^ 62) ≤ j ∧ j < 2 ^ 62 ∧ R (Itr 0 j.toNat) H1
theorem pi_range1 {a : Expr} {ta : TA} {p pos : Pos} (hg : Gl X "range") (hm : X.mg "range" = none) (ha : PA X [a] ta) (hs : starEach [a] X.env = [(false,eval a X.env)] := by rfl) : PI X tg (.Call (.Name "range" p) [a] [] pos) (iRng1 ta) := by
 intro pins s σ H R I h
 refine Call_ (ld_blt I hg hm boot_range (PyProof.Rows.callWith_type1 (thn (ha pos pins s σ H _ I h) fun us s1 ⟨vs,H1,I1,r1,q1⟩ => ?_) hs rfl))
 obtain ⟨j,e,q1,q2,q⟩ := q1
 subst e
 cases r1 with
 | cons r rr =>
  cases rr
  obtain ⟨t,rfl⟩ := r
  exact call_range_1 (range_it I1 (by omega) (by omega) q1 q2 (by simpa using q))
def tFor (wi : TI) (g : TG) (tb : TS) : TS := fun D σ H => wi σ H fun J H1 => ∃ W : Nat → Nat → St → Hp → Prop,(∃ m,W 0 m σ H1) ∧ ∀ i m σ H,W i m σ H →
 (J.stop i H ∧ D.nx σ H) ∨ (J.go i H ∧ ∃ N : St → Hp → Prop,(∀ σ' H',N σ' H' → ∃ m',m' < m ∧ W (i + 1) m' σ' H') ∧ ∀ x H',J.yld i H x H' → g x σ H' fun σ2 H2 => tb { D with nx := N,ct := N,bk := D.nx } σ2 H2)
def pinsAt (fp : List Addr) (h : Heap) : List (Addr × Obj) := fp.filterMap fun b => (h.get? b).map fun o => (b,o)
theorem mem_pinsAt {fp : List Addr} {h : Heap} {b : Addr} {o : Obj} (hb : b ∈ fp) (e : h.get? b = some o) : (b,o) ∈ pinsAt fp h := List.mem_filterMap.mpr ⟨b,hb,by rw [e]; rfl⟩
theorem of_pinsAt {fp : List Addr} {h : Heap} {p : Addr × Obj} (hp : p ∈ pinsAt fp h) : p.1 ∈ fp ∧ h.get? p.1 = some p.2 := by
 obtain ⟨b,hb,e⟩ := List.mem_filterMap.mp hp
 cases q : h.get? b with
 | none => rw [q] at e; cases e
 | some o =>
  rw [q] at e
  have e' : (b,o) = p := Option.some.inj e
  subst e'
  exact ⟨hb,q⟩
theorem Inv.pinned {pins : List (Addr × Obj)} {σ : St} {H : Hp} {s : Shared} {fp : List Addr} (I : Inv X pins σ H s) (hf : ∀ b ∈ fp,FpOk X pins H b) (ho : ∀ b ∈ fp,∃ o,s.heap.get? b = some o ∧ ∀ v,o.data ≠ .cell v) : Inv X (pins ++ pinsAt fp s.heap) σ H s :=
 I.pins_of fun p hp => (List.mem_append.mp hp).elim (fun z => I.pin p (List.mem_append_right _ z)) fun z => by
  obtain ⟨hb,e⟩ := of_pinsAt z
  obtain ⟨f0,f1,f2,_⟩ := hf p.1 hb
  obtain ⟨o,e',d⟩ := ho p.1 hb
  rw [e] at e'; cases e'
  exact ⟨e,f0,f1,f2,d⟩
theorem Inv.unpinned {pins pl : List (Addr × Obj)} {σ : St} {H : Hp} {s : Shared} (I : Inv X (pins ++ pl) σ H s) : Inv X pins σ H s := I.pins_of fun p hp => I.pin p (List.mem_append_right _ (List.mem_append_left _ hp))
theorem ps_for {iter : Expr} {body : List Stmt} {wi : TI} {g : TG} {tb : TS} {pos : Pos} (hp : PassesOwn (model X.prog X.w) X.A X.env X.xe) (hc : X.calm = true) (hi : PI X tg iter wi) (hg : PG X tg g) (hb : PSs X body tb)
  (hs : ∀ x,foldedSetIterable iter X.env x = pure x := by intro _; rfl) : PS X (.For tg iter body [] pos) (tFor wi g tb) := by
 intro pins s σ H D I h
 refine wpAny_For (thn (hi pins s σ H _ I h) fun v s1 h1 => thn h1 fun itv s2 h2 => ?_) hs
 obtain ⟨it,fp,tn,J,H2,e,I2,T,st2,f2,W,⟨m0,w0⟩,turn⟩ := h2
 subst e
 have stat : ∀ {H' : Hp},(∀ b ∈ fp,H' b = none) → ∀ b ∈ fp,FpOk X pins H' b := fun hn b hb => ⟨hn b hb,(f2 b hb).2⟩
 refine codeAny_forLoop_any (fun n s' => ∃ i σ' H',Inv X pins σ' H' s' ∧ tn i s'.heap ∧ (∀ b ∈ fp,H' b = none) ∧ W i n σ' H') ?_ m0 ⟨0,σ,H2,I2,st2,fun b hb => (f2 b hb).1,w0⟩
 rintro n s3 ⟨i,σ3,H3,I3,st3,fr3,w3⟩
 rcases turn i n σ3 H3 w3 with ⟨stop,qn⟩ | ⟨go,N,hN,step⟩
 ·refine wpAny_passesOwn hp (thn (T.done X rfl rfl rfl hc i pins s3 σ3 H3 X.xe I3 (stat fr3) st3 stop) fun r s4 ⟨hr,I4⟩ => ?_)
  subst hr
  exact wpAny_execs_nil ⟨σ3,H3,I4,qn⟩
 ·refine wpAny_passesOwn hp (thn (T.item X rfl rfl rfl hc i pins s3 σ3 H3 X.xe I3 (stat fr3) st3 go) fun r s4 ⟨u,hr,h4⟩ => ?_)
  subst hr
  refine wpAny_passesOwn hp (thn h4 fun _ s5 ⟨x,H5,I5,r5,y5,st5,fr5⟩ => ?_)
  have I5' := I5.pinned (stat fr5) (T.obj _ _ st5)
  refine wpAny_passesOwn hp (thn (hg _ s5 σ3 H5 x u _ I5' r5 (step x H5 y5)) fun _ s6 ⟨σ6,H6,I6,q6⟩ => ?_)
  refine wpAny_passesOwn hp (thn (hb _ s6 σ6 H6 _ I6 q6) fun f s7 q7 => ?_)
  have again : ∀ {σ7 : St} {H7 : Hp},Inv X (pins ++ pinsAt fp s5.heap) σ7 H7 s7 → N σ7 H7 → ∃ m,m < n ∧ ∃ i σ' H',Inv X pins σ' H' s7 ∧ tn i s7.heap ∧ (∀ b ∈ fp,H' b = none) ∧ W i m σ' H' := fun {σ7 H7} I7 n7 => by
   obtain ⟨m',hm,w7⟩ := hN σ7 H7 n7
   refine ⟨m',hm,i + 1,σ7,H7,I7.unpinned,T.keep _ _ _ st5 fun b hb o e => (I7.pin (b,o) (List.mem_append_right _ (List.mem_append_right _ (mem_pinsAt hb e)))).1,fun b hb => ?_,w7⟩
   obtain ⟨o,e,d⟩ := T.obj _ _ st5 b hb
   exact (I7.pin (b,o) (List.mem_append_right _ (List.mem_append_right _ (mem_pinsAt hb e)))).2.1
  cases f with
  | next => obtain ⟨σ7,H7,I7,n7⟩ := q7; exact again I7 n7
  | cont => obtain ⟨σ7,H7,I7,n7⟩ := q7; exact again I7 n7
  | brk => obtain ⟨σ7,H7,I7,q7⟩ := q7; exact ⟨σ7,H7,I7.unpinned,q7⟩
  | ret v => obtain ⟨x7,σ7,H7,I7,r7,q7⟩ := q7; exact ⟨x7,σ7,H7,I7.unpinned,r7,q7⟩
end
theorem for_list {K : PySem.W.Frag} {a : Addr} {xs : List V} {g : TG} {tb : TS} {D : Ends} {σ : St} {H : Hp} (Pv : Nat → St → Hp → Prop) (h0 : Pv 0 σ H) (hl : ∀ i σ H,i ≤ xs.length → Pv i σ H → SqL K H a xs)
  (hs : ∀ i x σ H,xs[i]? = some x → Pv i σ H → g x σ H fun σ2 H2 => tb { D with nx := Pv (i + 1),ct := Pv (i + 1),bk := D.nx } σ2 H2) (hd : ∀ σ H,Pv xs.length σ H → D.nx σ H) :
  ∃ W : Nat → Nat → St → Hp → Prop,(∃ m,W 0 m σ H) ∧ ∀ i m σ H,W i m σ H →
   ((Itl K a).stop i H ∧ D.nx σ H) ∨ ((Itl K a).go i H ∧ ∃ N : St → Hp → Prop,(∀ σ' H',N σ' H' → ∃ m',m' < m ∧ W (i + 1) m' σ' H') ∧ ∀ x H',(Itl K a).yld i H x H' → g x σ H' fun σ2 H2 => tb { D with nx := N,ct := N,bk := D.nx } σ2 H2) := by
 refine ⟨fun i m σ H => m = xs.length - i ∧ i ≤ xs.length ∧ Pv i σ H,⟨xs.length,by simp,Nat.zero_le _,h0⟩,?_⟩
 rintro i m σ H ⟨rfl,hi,p⟩
 have q := hl i σ H hi p
 by_cases hlt : i < xs.length
 ·refine .inr ⟨⟨xs,xs[i],q,by simp [hlt]⟩,Pv (i + 1),fun σ' H' p' => ⟨xs.length - (i + 1),by omega,rfl,hlt,p'⟩,fun x H' y => ?_⟩
  obtain ⟨e,y⟩ := y
  subst e
  exact hs i x σ _ (y xs q) p
 ·have e : i = xs.length := by omega
  subst e
  exact .inl ⟨⟨xs,q,Nat.le_refl _⟩,hd σ H p⟩
theorem for_range {lo : Int} {n : Nat} {g : TG} {tb : TS} {D : Ends} {σ : St} {H : Hp} (Pv : Nat → St → Hp → Prop) (h0 : Pv 0 σ H)
  (hs : ∀ i σ H,i < n → Pv i σ H → g (.int (lo + i)) σ H fun σ2 H2 => tb { D with nx := Pv (i + 1),ct := Pv (i + 1),bk := D.nx } σ2 H2) (hd : ∀ σ H,Pv n σ H → D.nx σ H) :
  ∃ W : Nat → Nat → St → Hp → Prop,(∃ m,W 0 m σ H) ∧ ∀ i m σ H,W i m σ H →
   ((Itr lo n).stop i H ∧ D.nx σ H) ∨ ((Itr lo n).go i H ∧ ∃ N : St → Hp → Prop,(∀ σ' H',N σ' H' → ∃ m',m' < m ∧ W (i + 1) m' σ' H') ∧ ∀ x H',(Itr lo n).yld i H x H' → g x σ H' fun σ2 H2 => tb { D with nx := N,ct := N,bk := D.nx } σ2 H2) := by
 refine ⟨fun i m σ H => m = n - i ∧ i ≤ n ∧ Pv i σ H,⟨n,by simp,Nat.zero_le _,h0⟩,?_⟩
 rintro i m σ H ⟨rfl,hi,p⟩
 by_cases hlt : i < n
 ·refine .inr ⟨hlt,Pv (i + 1),fun σ' H' p' => ⟨n - (i + 1),by omega,rfl,hlt,p'⟩,fun x H' y => ?_⟩
  obtain ⟨e,y⟩ := y
  subst e y
  exact hs i σ _ hlt p
 ·have e : i = n := by omega
  subst e
  exact .inl ⟨Nat.le_refl _,hd σ H p⟩
end L2
namespace L2
open PySem PySem.Spec PyProof.Rows
abbrev R2 := V → V → Hp → VK → Prop
def OpR (X : Cx) (f : Value → Value → Sem Value) (r : R2) : Prop :=
 ∀ (pins : List (Addr × Obj)) (s : Shared) (σ : St) (H : Hp) (x y : V) (v u : Value) (Q : VK),Inv X pins σ H s → RelV x v → RelV y u → r x y H Q →
  wpAny (model X.prog X.w) X.A (f v u) (EP X pins σ Q) X.xe s
def CallR (X : Cx) (f : Value) (r : List V → Hp → VK → Prop) : Prop :=
 ∀ (pins : List (Addr × Obj)) (s : Shared) (σ : St) (H : Hp) (xs : List V) (us : List Value) (Q : VK),Inv X pins σ H s → Vals xs us → r xs H Q →
  wpAny (model X.prog X.w) X.A (call f us) (EP X pins σ Q) X.xe s
def tOp (r : R2) (ta tb : TE) : TE := fun σ H Q => ta σ H fun x H1 => tb σ H1 fun y H2 => r x y H2 Q
def rI (C : Int → Int → Prop) (g : Int → Int → V) : R2 := fun x y H Q => ∃ i j,x = .int i ∧ y = .int j ∧ C i j ∧ Q (g i j) H
def rI0 (g : Int → Int → V) : R2 := fun x y H Q => ∃ i j,x = .int i ∧ y = .int j ∧ Q (g i j) H
section
variable {X : Cx} {a b c : Expr} {ta tb tc : TE} {pos : Pos}
theorem binT (ha : PE X a ta) (hb : PE X b tb) {pins : List (Addr × Obj)} {s : Shared} {σ : St} {H : Hp} {R : V → V → Hp → Prop} (I : Inv X pins σ H s)
  (h : ta σ H fun x H1 => tb σ H1 fun y H2 => R x y H2) {Q : Value → Shared → Prop} {f : Value → Value → Sem Value}
  (hf : ∀ v u s2 x y H2,Inv X pins σ H2 s2 → RelV x v → RelV y u → R x y H2 → wpAny (model X.prog X.w) X.A (f v u) Q X.xe s2) :
  wpAny (model X.prog X.w) X.A (eval a X.env) (fun v s₁ => wpAny (model X.prog X.w) X.A (eval b X.env) (fun u s₂ => wpAny (model X.prog X.w) X.A (f v u) Q X.xe s₂) X.xe s₁) X.xe s := by
 refine thn (ha pins s σ H _ I h) fun v s1 ⟨x,H1,I1,r1,q1⟩ => ?_
 refine thn (hb pins s1 σ H1 _ I1 q1) fun u s2 ⟨y,H2,I2,r2,q2⟩ => ?_
 exact hf v u s2 x y H2 I2 r1 r2 q2
theorem pe_op {op : Operator} {r : R2} (ho : OpR X (binaryOp op) r) (ha : PE X a ta) (hb : PE X b tb) : PE X (.BinOp a op b pos) (tOp r ta tb) := by
 intro pins s σ H Q I h
 exact wpAny_BinOp (binT ha hb I h fun v u s2 x y H2 I2 rx ry q => ho pins s2 σ H2 x y v u Q I2 rx ry q)
theorem opI {f : Value → Value → Sem Value} {C : Int → Int → Prop} {g : Int → Int → Int}
  (rule : ∀ (i j : Int) (t u : Tok) (s : Shared) (Q : Value → Shared → Prop) (E : Value → Shared → Prop),C i j → Q (.int (g i j) s.toks) { s with toks := s.toks + 1 } → wpAny (model X.prog X.w) X.A (f (.int i t) (.int j u)) Q E s) :
  OpR X f (rI C fun i j => .int (g i j)) := by
 intro pins s σ H x y v u Q I rx ry h
 obtain ⟨i,j,rfl,rfl,hc,q⟩ := h
 obtain ⟨t,rfl⟩ := rx
 obtain ⟨t',rfl⟩ := ry
 exact rule i j t t' s _ _ hc ⟨.int (g i j),H,I.tok _,⟨_,rfl⟩,q⟩
theorem opI0 {f : Value → Value → Sem Value} {g : Int → Int → Int}
  (rule : ∀ (i j : Int) (t u : Tok) (s : Shared) (Q : Value → Shared → Prop) (E : Value → Shared → Prop),Q (.int (g i j) s.toks) { s with toks := s.toks + 1 } → wpAny (model X.prog X.w) X.A (f (.int i t) (.int j u)) Q E s) :
  OpR X f (rI0 fun i j => .int (g i j)) := by
 intro pins s σ H x y v u Q I rx ry h
 obtain ⟨i,j,rfl,rfl,q⟩ := h
 obtain ⟨t,rfl⟩ := rx
 obtain ⟨t',rfl⟩ := ry
 exact rule i j t t' s _ _ ⟨.int (g i j),H,I.tok _,⟨_,rfl⟩,q⟩
theorem opB0 {f : Value → Value → Sem Value} {g : Int → Int → Bool}
  (rule : ∀ (i j : Int) (t u : Tok) (s : Shared) (Q : Value → Shared → Prop) (E : Value → Shared → Prop),Q (.bool (g i j)) s → wpAny (model X.prog X.w) X.A (f (.int i t) (.int j u)) Q E s) :
  OpR X f (rI0 fun i j => .bl (g i j)) := by
 intro pins s σ H x y v u Q I rx ry h
 obtain ⟨i,j,rfl,rfl,q⟩ := h
 obtain ⟨t,rfl⟩ := rx
 obtain ⟨t',rfl⟩ := ry
 exact rule i j t t' s _ _ ⟨.bl (g i j),H,I,rfl,q⟩
def CDiv (i j : Int) : Prop := 0 < j ∧ j < 1073741824
def CPow (i j : Int) : Prop := 0 ≤ j ∧ j ≤ 1000000 ∧ i.natAbs < 2 ^ 64
def CMul (i j : Int) : Prop := (-(2 ^ 64) < i ∧ i < 2 ^ 64) ∨ (-(2 ^ 64) < j ∧ j < 2 ^ 64)
theorem CMul.ok {i j : Int} (h : CMul i j) : IntMulOk i j := by
 rcases h with ⟨h1,h2⟩ | ⟨h1,h2⟩
 ·exact .of_left (intBits_le_64 h1 h2)
 ·exact .of_right (intBits_le_64 h1 h2)
theorem op_add : OpR X (binaryOp .Add) (rI0 fun i j => .int (i + j)) := opI0 fun _ _ _ _ _ _ _ q => add_int q
theorem op_sub : OpR X (binaryOp .Sub) (rI0 fun i j => .int (i - j)) := opI0 fun _ _ _ _ _ _ _ q => sub_int q
theorem op_mul : OpR X (binaryOp .Mult) (rI CMul fun i j => .int (i * j)) := opI fun _ _ _ _ _ _ _ hc q => mul_int q hc.ok
theorem op_fdiv : OpR X (binaryOp .FloorDiv) (rI CDiv fun i j => .int (i / j)) := opI fun i j _ _ _ _ _ hc q => by
 have h1 : (0 : Int) < j := hc.1
 have h2 : j < 1073741824 := hc.2
 exact floordiv_int (by omega) (by rw [Int.fdiv_eq_ediv_of_nonneg i (by omega)]; exact q) (.inl (PyProof.noPylong_small (by omega)))
theorem op_mod : OpR X (binaryOp .Mod) (rI (fun _ j => 0 < j) fun i j => .int (i % j)) := opI fun i j _ _ _ _ _ hc q => by
 have h1 : (0 : Int) < j := hc
 exact mod_int' (by omega) (by rw [Int.fmod_eq_emod_of_nonneg i (by omega)]; exact q)
theorem op_pow : OpR X (binaryOp .Pow) (rI CPow fun i j => .int (i ^ j.toNat)) := opI fun _ _ _ _ _ _ _ hc q => pow_int_small hc.1 hc.2.1 hc.2.2 q
end
def scal : V → V → Bool
 | .non,.non => true | .non,.int _ => true | .int _,.non => true | .non,.bl _ => true | .bl _,.non => true | .non,.str _ => true | .str _,.non => true
 | .int _,.int _ => true | .bl _,.bl _ => true | .str _,.str _ => true | .byt _,.byt _ => true
 | .int _,.str _ => true | .str _,.int _ => true | .bl _,.str _ => true | .str _,.bl _ => true
 | _,_ => false
def rEq : R2 := fun x y H Q => scal x y = true ∧ Q (.bl (decide (x = y))) H
def rNe : R2 := fun x y H Q => scal x y = true ∧ Q (.bl (!decide (x = y))) H
theorem dec_int {i j : Int} : decide (V.int i = V.int j) = (i == j) := by
 rw [Bool.eq_iff_iff]
 simp
theorem dec_bl {i j : Bool} : decide (V.bl i = V.bl j) = (i == j) := by
 rw [Bool.eq_iff_iff]
 simp
theorem dec_str {i j : Str} : decide (V.str i = V.str j) = (i == j) := by
 rw [Bool.eq_iff_iff]
 simp
theorem dec_byt {i j : Array UInt8} : decide (V.byt i = V.byt j) = (i.toList == j.toList) := by
 rw [Bool.eq_iff_iff]
 cases i
 cases j
 simp
section
variable {X : Cx} {a b c : Expr} {ta tb tc : TE} {pos : Pos}
theorem fin_bl {pins : List (Addr × Obj)} {σ : St} {H : Hp} {s : Shared} {Q : VK} {k k' : Bool} (I : Inv X pins σ H s) (q : Q (.bl k) H) (e : k = k') : EP X pins σ Q (.bool k') s := by
 subst e
 exact ⟨.bl k,H,I,rfl,q⟩
theorem op_eq : OpR X (compareOp .Eq) rEq := by
 intro pins s σ H x y v u Q I rx ry h
 obtain ⟨hs,q⟩ := h
 cases x with
 | non =>
  cases rx
  cases y with
  | non => cases ry; exact PySem.EqNone.eq_none_none (fin_bl I q (by simp))
  | bl j => cases ry; exact PySem.EqNone.eq_none_bool (fin_bl I q (by simp))
  | int j => obtain ⟨t',rfl⟩ := ry; exact PySem.EqNone.eq_none_int (fin_bl I q (by simp))
  | str j => obtain ⟨t',rfl⟩ := ry; exact PySem.EqNone.eq_none_str (fin_bl I q (by simp))
  | _ => exact absurd (show false = true from hs) Bool.false_ne_true
 | bl i =>
  cases rx
  cases y with
  | non => cases ry; exact PySem.EqNone.eq_bool_none (fin_bl I q (by simp))
  | bl j => cases ry; exact eq_bool (fin_bl I q dec_bl)
  | str j => obtain ⟨t',rfl⟩ := ry; exact PySem.EqMixed.eq_bool_str (fin_bl I q (by simp))
  | _ => exact absurd (show false = true from hs) Bool.false_ne_true
 | int i =>
  obtain ⟨t,rfl⟩ := rx
  cases y with
  | non => cases ry; exact PySem.EqNone.eq_int_none (fin_bl I q (by simp))
  | int j => obtain ⟨t',rfl⟩ := ry; exact eq_int (fin_bl I q dec_int)
  | str j => obtain ⟨t',rfl⟩ := ry; exact PySem.EqMixed.eq_int_str (fin_bl I q (by simp))
  | _ => exact absurd (show false = true from hs) Bool.false_ne_true
 | str i =>
  obtain ⟨t,rfl⟩ := rx
  cases y with
  | non => cases ry; exact PySem.EqNone.eq_str_none (fin_bl I q (by simp))
  | bl j => cases ry; exact PySem.EqMixed.eq_str_bool (fin_bl I q (by simp))
  | int j => obtain ⟨t',rfl⟩ := ry; exact PySem.EqMixed.eq_str_int (fin_bl I q (by simp))
  | str j => obtain ⟨t',rfl⟩ := ry; exact eq_str (fin_bl I q dec_str)
  | _ => exact absurd (show false = true from hs) Bool.false_ne_true
 | byt i =>
  obtain ⟨t,rfl⟩ := rx
  cases y with
  | byt j => obtain ⟨t',rfl⟩ := ry; exact PySem.W.eq_bytes (fin_bl I q dec_byt)
  | _ => exact absurd (show false = true from hs) Bool.false_ne_true
 | _ => cases y <;> exact absurd (show false = true from hs) Bool.false_ne_true
theorem op_ne : OpR X (compareOp .NotEq) rNe := by
 intro pins s σ H x y v u Q I rx ry h
 obtain ⟨hs,q⟩ := h
 cases x with
 | non =>
  cases rx
  cases y with
  | non => cases ry; exact PySem.EqNone.ne_none_none (fin_bl I q (by simp))
  | bl j => cases ry; exact PySem.EqNone.ne_none_bool (fin_bl I q (by simp))
  | int j => obtain ⟨t',rfl⟩ := ry; exact PySem.EqNone.ne_none_int (fin_bl I q (by simp))
  | str j => obtain ⟨t',rfl⟩ := ry; exact PySem.EqNone.ne_none_str (fin_bl I q (by simp))
  | _ => exact absurd (show false = true from hs) Bool.false_ne_true
 | bl i =>
  cases rx
  cases y with
  | non => cases ry; exact PySem.EqNone.ne_bool_none (fin_bl I q (by simp))
  | bl j => cases ry; exact ne_bool (fin_bl I q (congrArg not dec_bl))
  | str j => obtain ⟨t',rfl⟩ := ry; exact PySem.EqMixed.ne_bool_str (fin_bl I q (by simp))
  | _ => exact absurd (show false = true from hs) Bool.false_ne_true
 | int i =>
  obtain ⟨t,rfl⟩ := rx
  cases y with
  | non => cases ry; exact PySem.EqNone.ne_int_none (fin_bl I q (by simp))
  | int j => obtain ⟨t',rfl⟩ := ry; exact ne_int (fin_bl I q (congrArg not dec_int))
  | str j => obtain ⟨t',rfl⟩ := ry; exact PySem.EqMixed.ne_int_str (fin_bl I q (by simp))
  | _ => exact absurd (show false = true from hs) Bool.false_ne_true
 | str i =>
  obtain ⟨t,rfl⟩ := rx
  cases y with
  | non => cases ry; exact PySem.EqNone.ne_str_none (fin_bl I q (by simp))
  | bl j => cases ry; exact PySem.EqMixed.ne_str_bool (fin_bl I q (by simp))
  | int j => obtain ⟨t',rfl⟩ := ry; exact PySem.EqMixed.ne_str_int (fin_bl I q (by simp))
  | str j => obtain ⟨t',rfl⟩ := ry; exact ne_str (fin_bl I q (congrArg not dec_str))
  | _ => exact absurd (show false = true from hs) Bool.false_ne_true
 | byt i =>
  obtain ⟨t,rfl⟩ := rx
  cases y with
  | byt j => obtain ⟨t',rfl⟩ := ry; exact PySem.W.ne_bytes (fin_bl I q (congrArg not dec_byt))
  | _ => exact absurd (show false = true from hs) Bool.false_ne_true
 | _ => cases y <;> exact absurd (show false = true from hs) Bool.false_ne_true
theorem op_lt : OpR X (compareOp .Lt) (rI0 fun i j => .bl (decide (i < j))) := opB0 fun _ _ _ _ _ _ _ q => lt_int q
theorem op_gt : OpR X (compareOp .Gt) (rI0 fun i j => .bl (decide (j < i))) := opB0 fun _ _ _ _ _ _ _ q => gt_int q
theorem op_ge : OpR X (compareOp .GtE) (rI0 fun i j => .bl (decide (j ≤ i))) := opB0 fun _ _ _ _ _ _ _ q => ge_int q
theorem nomark (b : Expr) {op : CmpOp} (h : op ≠ .In := by decide) (h2 : op ≠ .NotIn := by decide) : behindInMarks op b = false := by
 have e1 : (op == CmpOp.In) = false := by cases op <;> first | rfl | exact absurd rfl h
 have e2 : (op == CmpOp.NotIn) = false := by cases op <;> first | rfl | exact absurd rfl h2
 cases b <;> simp [behindInMarks,e1,e2]
theorem pe_cmpR {op : CmpOp} {r : R2} (ho : OpR X (compareOp op) r) (ha : PE X a ta) (hb : PE X b tb) (hm : behindInMarks op b = false) : PE X (.Compare a [op] [b] pos) (tOp r ta tb) := by
 intro pins s σ H Q I h
 exact wpAny_Compare1 (binT ha hb I h fun v u s2 x y H2 I2 rx ry q => ho pins s2 σ H2 x y v u Q I2 rx ry q) hm
def tTest (t : TE) : TT := fun σ H Q => t σ H fun x H' => ∃ k,x = .bl k ∧ Q k H'
theorem pt_cmpR {op : CmpOp} {r : R2} (ho : OpR X (compareOp op) r) (ha : PE X a ta) (hb : PE X b tb) (hm : behindInMarks op b = false) : PT X (.Compare a [op] [b] pos) (tTest (tOp r ta tb)) := by
 intro pins s σ H Q I h
 refine wpAny_isTrue_Compare1 (thn (ha pins s σ H _ I h) fun v s1 ⟨x,H1,I1,r1,q1⟩ => thn (hb pins s1 σ H1 _ I1 q1) fun u s2 ⟨y,H2,I2,r2,q2⟩ =>
  thn (ho pins s2 σ H2 x y v u _ I2 r1 r2 q2) fun c s3 ⟨z,H3,I3,r3,k,e,q3⟩ => ?_) hm
 subst e
 cases r3
 exact wpAny_truthy_bool ⟨H3,I3,q3⟩
theorem line63 : (sizeLine : Nat) < 2 ^ 63 := by rw [sizeLine_eq]; decide
theorem vals1 {x : V} {us : List Value} (r : Vals [x] us) : ∃ u,us = [u] ∧ RelV x u := by
 cases r with
 | cons r1 r2 => cases r2; exact ⟨_,rfl,r1⟩
theorem vals2 {x y : V} {us : List Value} (r : Vals [x,y] us) : ∃ u w',us = [u,w'] ∧ RelV x u ∧ RelV y w' := by
 cases r with
 | cons r1 r2 =>
  cases r2 with
  | cons r3 r4 => cases r4; exact ⟨_,_,rfl,r1,r3⟩
theorem call_max2 (hc : X.calm = true) : CallR X (.builtin "max") (fun xs H Q => ∃ i j,xs = [.int i,.int j] ∧ Q (.int (if j > i then j else i)) H) := by
 intro pins s σ H xs us Q I r h
 obtain ⟨i,j,rfl,q⟩ := h
 obtain ⟨u,w',rfl,⟨t,rfl⟩,⟨t',rfl⟩⟩ := vals2 r
 refine max_two_ints (I.ok.hd hc) fun h' tk k => ⟨_,H,I.kept k,?_,q⟩
 by_cases hj : j > i
 ·rw [if_pos hj,if_pos hj]; exact ⟨_,rfl⟩
 ·rw [if_neg hj,if_neg hj]; exact ⟨_,rfl⟩
end
end L2
namespace L2
open PySem PySem.Spec PyProof.Rows
structure ObjM (h : Heap) (x dx C : Addr) (mA : Str → Option Value) : Prop where
 obj : h.get? x = some (PySem.W.instObj C dx)
 ns : h.Ns1 dx mA
 ne : dx ≠ x
theorem lookIn_ns {h : Heap} {dx : Addr} {mA : Str → Option Value} (n : h.Ns1 dx mA) : ∃ od,h.get? dx = some od ∧ ∀ name,PySem.W.lookIn name od = some (mA name) := by
 obtain ⟨o,es,ep,ho,hd,hk,_,hm⟩ := n
 refine ⟨o,ho,fun name => ?_⟩
 have e := hm name
 unfold nsFind findBy at e
 rw [← Array.find?_toList] at e
 unfold PySem.W.lookIn
 rw [hd]
 dsimp only
 split
 ·rename_i y q
  rw [q] at e
  exact congrArg some e
 ·rename_i q
  rw [q] at e
  have a : es.toList.any (·.refKey) = false := by
   rw [List.any_eq_false]
   intro y hy
   obtain ⟨z,t,hkey⟩ := hk y (Array.mem_toList_iff.mp hy)
   simp [DictEntry.refKey,hkey]
  have a' : ¬ es.toList.any (·.refKey) = true := by rw [a]; exact Bool.false_ne_true
  rw [if_neg a']
  exact congrArg some e
theorem ObjM.look {h : Heap} {x dx C : Addr} {mA : Str → Option Value} (I : ObjM h x dx C mA) : ∃ od,PySem.W.InstAt h x (PySem.W.instObj C dx) C (some od) ∧ ∀ name,PySem.W.lookIn name od = some (mA name) :=
 let ⟨od,ho,hl⟩ := lookIn_ns I.ns
 ⟨od,⟨I.obj,rfl,rfl,ho⟩,hl⟩
section
variable {prog : Program} {w : World} {A : Around} {E : Value → Shared → Prop} {s : Shared} {K : PySem.W.Frag} {x dx C f : Addr} {mA : Str → Option Value} {name : Str} {v : Value}
end
section
variable {P : Program} {w : World} {H H' : Hp} {h h' : Heap} {a C dx : Addr} {fs fs' : List (Str × V)}
theorem ins_get (hok : HOk P w H h) (e : H a = some (.ins C dx fs)) : ∃ mA,ObjM h a dx C mA ∧ (∀ f,RelO (fs.lookup f) (mA f)) ∧ PySem.Within mA (fs.map (·.1)) ∧ fs.length ≤ 1000 ∧ H dx = some (.own a) := by
 obtain ⟨d,z,ne,ob,mA,n,r,q⟩ := (show ObjOk P w H h a (.ins C dx fs) from hok a _ e)
 exact ⟨mA,⟨ob,n,ne⟩,r,q,z,d⟩
end
structure Cls (K : PySem.W.Frag) (C : Addr) : Prop where
 pg : PySem.W.plainGet K C Str.empty = true
 hd : PySem.W.hasDictIn K C = true
 po : PySem.W.plainOver K C = true
 sa : PySem.W.findIn K (.ref C) "__setattr__" = some (some (.builtin "object.__setattr__"))
theorem Cls.get {K : PySem.W.Frag} {C : Addr} (c : Cls K C) (f : Str) : PySem.W.plainGet K C f = true := c.pg
section
variable {X : Cx} {pins : List (Addr × Obj)} {σ : St} {H : Hp} {s : Shared} {a C dx : Addr} {fs : List (Str × V)} {f : Str} {v : V} {A : Around} {E : Value → Shared → Prop}
end
section
variable {X : Cx} {o e value : Expr} {f : Str} {pos pos' tpos : Pos} {ta tv : TE}
end
section
variable {X : Cx} {pins : List (Addr × Obj)} {σ : St} {H : Hp} {s : Shared} {A : Around} {E : Value → Shared → Prop} {Q : Value → Shared → Prop} {c : Value} {b : Bool}
inductive TyOf (K : PySem.W.Frag) (H : Hp) : V → Value → Prop where
 | non : TyOf K H .non (.type "NoneType")
 | bl (x : Bool) : TyOf K H (.bl x) (.type "bool")
 | int (i : Int) : TyOf K H (.int i) (.type "int")
 | str (x : Str) : TyOf K H (.str x) (.type "str")
 | flt (x : UInt64) : TyOf K H (.flt x) (.type "float")
 | lst {a : Addr} {xs : List V} (e : H a = some (.lst xs)) : TyOf K H (.ref a) (.type "list")
 | frz {a : Addr} {o : Obj} {xs : List V} (e : H a = some (.frz o (.lst xs))) : TyOf K H (.ref a) (.type "list")
 | tup {a : Addr} {xs : List V} (e : H a = some (.tup xs)) : TyOf K H (.ref a) (.type "tuple")
 | dK {a : Addr} {kvs : List (Key × V)} (e : H a = some (.dK kvs)) : TyOf K H (.ref a) (.type "dict")
 | dT {a : Addr} {kvs : List (List Key × V)} (e : H a = some (.dT kvs)) : TyOf K H (.ref a) (.type "dict")
 | ins {a C dx : Addr} {fs : List (Str × V)} (e : H a = some (.ins C dx fs)) (cl : Cls K C) (ha : PySem.W.findIn K (.ref C) "__class__" = some (some (.builtin "object.__class__")))
   (hn : PySem.W.specialIn K (.builtin "object.__class__") "__get__" = some (some (.builtin "getset_descriptor.__get__"))) (htk : PySem.W.takesIn K (.builtin "object.__class__") = some true)
   (hm : PySem.W.mroIn K C (.type "object") = some true) : TyOf K H (.ref a) (.ref C)
theorem isinst_ok {x : V} {u t : Value} (I : Inv X pins σ H s) (rx : RelV x u) (ty : TyOf X.K H x t) (e : PySem.W.kitOne X.K t c = some b) (h : ∀ tk,Q (.bool b) { s with toks := tk }) :
  wpAny (model X.prog X.w) A (call (.builtin "isinstance") [u,c]) Q E s := by
 cases ty with
 | non => cases (show u = Value.none from rx); exact PySem.W.kia_one PySem.W.kitx_none I.kIn True.intro e (fun z => nomatch z) h
 | bl y => cases (show u = Value.bool y from rx); exact PySem.W.kia_one PySem.W.kitx_bool I.kIn True.intro e (fun z => nomatch z) h
 | int i => obtain ⟨t,q⟩ := (show ∃ t,u = Value.int i t from rx); cases q; exact PySem.W.kia_one PySem.W.kitx_int I.kIn True.intro e (fun z => nomatch z) h
 | str y => obtain ⟨t,q⟩ := (show ∃ t,u = Value.str y t from rx); cases q; exact PySem.W.kia_one PySem.W.kitx_str I.kIn True.intro e (fun z => nomatch z) h
 | flt y => obtain ⟨t,q⟩ := (show ∃ t,u = Value.float y t from rx); cases q; exact PySem.W.kia_one PySem.W.kitx_float I.kIn True.intro e (fun z => nomatch z) h
 | @lst a xs ea =>
  cases (show u = Value.ref a from rx)
  obtain ⟨_,_,n,_,h1⟩ := (show ObjOk X.prog X.w H s.heap a (.lst xs) from I.hok a _ ea)
  exact PySem.W.kia_one PySem.W.kitx_list I.kIn ⟨_,h1,rfl⟩ e (fun z => nomatch z) h
 | @frz a ob xs ea =>
  cases (show u = Value.ref a from rx)
  obtain ⟨_,_,_,n,_,h1⟩ := (show ObjOk X.prog X.w H s.heap a (.frz ob (.lst xs)) from I.hok a _ ea)
  exact PySem.W.kia_one PySem.W.kitx_list I.kIn ⟨_,h1,rfl⟩ e (fun z => nomatch z) h
 | @tup a xs ea =>
  cases (show u = Value.ref a from rx)
  obtain ⟨_,_,_,p⟩ := (show ObjOk X.prog X.w H s.heap a (.tup xs) from I.hok a _ ea)
  obtain ⟨o,h1,h2,_⟩ := p
  exact PySem.W.kia_one PySem.W.kitx_tuple I.kIn ⟨o,h1,h2⟩ e (fun z => nomatch z) h
 | @dK a kvs ea =>
  cases (show u = Value.ref a from rx)
  obtain ⟨_,_,vs,_,p⟩ := (show ObjOk X.prog X.w H s.heap a (.dK kvs) from I.hok a _ ea)
  obtain ⟨o,es,ep,h1,h2,_⟩ := p
  exact PySem.W.kia_one PySem.W.kitx_dict I.kIn ⟨o,h1,h2.1⟩ e (fun z => nomatch z) h
 | @dT a kvs ea =>
  cases (show u = Value.ref a from rx)
  obtain ⟨_,_,xs,_,o,es,ep,h1,h2,_⟩ := (show ObjOk X.prog X.w H s.heap a (.dT kvs) from I.hok a _ ea)
  exact PySem.W.kia_one PySem.W.kitx_dict I.kIn ⟨o,h1,h2.1⟩ e (fun z => nomatch z) h
 | @ins a C dx fs ea cl ha hn htk hm =>
  cases (show u = Value.ref a from rx)
  obtain ⟨mA,O,_⟩ := ins_get I.hok ea
  obtain ⟨od,J,_⟩ := O.look
  exact PySem.W.kia_one (PySem.W.kitx_own (cl.get _) cl.hd ha hn htk hm) I.kIn J e (fun z => nomatch z) h
end
end L2
namespace L2
open PySem PySem.Spec PyProof.Rows
structure Room (k : Nat) (A : Around) : Prop where
 hd : A.handled = none
 dp : A.depth + 3 * k + 5 < recursionLimit
 un : A.units + 16 * k + 200 < cLine
theorem Room.mono {j k : Nat} {A : Around} (r : Room k A) (h : j ≤ k) : Room j A := ⟨r.hd,by have := r.dp; omega,by have := r.un; omega⟩
theorem Room.deeper {k : Nat} {A : Around} (r : Room (k + 1) A) (env : Env) : Room k (A.deeper env) :=
 ⟨r.hd,by have := r.dp; show A.depth + 1 + 3 * k + 5 < _; omega,by have := r.un; show A.units + 3 + 16 * k + 200 < _; omega⟩
theorem Room.in1 {k : Nat} {A : Around} (r : Room (k + 1) A) : Room k A.in1 :=
 ⟨r.hd,by have := r.dp; show A.depth + 3 * k + 5 < _; omega,by have := r.un; show A.units + 1 + 16 * k + 200 < _; omega⟩
theorem Room.depth {k : Nat} {A : Around} (r : Room k A) : A.depth < recursionLimit := by have := r.dp; omega
theorem Room.units {k : Nat} {A : Around} (r : Room k A) : A.units + 64 < cLine := by have := r.un; omega
def tNil : TA := fun _ H Q => Q [] H
def tCons (ta : TE) (tr : TA) : TA := fun σ H Q => ta σ H fun x H1 => tr σ H1 fun xs H2 => Q (x :: xs) H2
section
variable {X : Cx} {e : Expr} {es : List Expr} {te : TE} {t : TA} {pos : Pos}
theorem pa_nil : PA X [] tNil := fun _ _ _ _ H Q I h => Calls.spliced_nil ⟨[],H,I,.nil,h⟩
theorem pa_cons (ha : PE X e te) (hr : PA X es t) (hs : starEach (e :: es) X.env = (false,eval e X.env) :: starEach es X.env := by rfl) : PA X (e :: es) (tCons te t) := by
 intro pos pins s σ H Q I h
 rw [hs]
 show wpAny _ _ (spliced ((false,eval e X.env) :: backTo pos (starEach es X.env))) _ _ s
 refine Calls.spliced_cons (thn (ha pins s σ H _ I h) fun u s1 ⟨x,H1,I1,r1,q1⟩ => ?_)
 exact thn (hr pos pins s1 σ H1 _ I1 q1) fun us s2 ⟨xs,H2,I2,r2,q2⟩ => ⟨x :: xs,H2,I2,.cons r1 r2,q2⟩
def tLst (t : TA) : TE := fun σ H Q => t σ H fun xs H1 => xs.length ≤ sizeLine ∧ ∀ p,H1 p = none → Q (.ref p) (upd H1 p (.lst xs))
theorem pe_lst (h : PA X es t) : PE X (.List es pos) (tLst t) := by
 intro pins s σ H Q I hq
 refine wpAny_List_spliced (thn (h pos pins s σ H _ I hq) fun us s1 ⟨xs,H1,I1,r,z,q⟩ => ⟨by rw [← r.length]; exact z,?_⟩)
 have hf : H1 s1.heap.objs.size = none := I1.hok.fresh (Nat.le_refl _)
 refine ⟨.ref s1.heap.objs.size,upd H1 s1.heap.objs.size (.lst xs),I1.laid (t' := s1.toks) (fun b u e => Heap.get?_push_of_some _ e) (Nat.le_refl _) ?_,rfl,q _ hf⟩
 exact ⟨z,us,0,r,Heap.get?_push_size _ rfl⟩
end
abbrev Sp := List V → Hp → VK → XK → Prop
abbrev CXT := List Env → Hp → Shared → XK → Value → Shared → Prop
structure Env0 (P : Program) (w : World) (K : PySem.W.Frag) (mg : Str → Option Value) (base : Heap) (A : Around) (outer : List Env) (s : Shared) (H : Hp) : Prop where
 frames : A.frames = some outer
 mod : Mod K mg base
 bs : ∀ b o,base.get? b = some o → s.heap.get? b = some o ∧ H b = none
 bsz : base.objs.size ≤ s.heap.objs.size
 funs : s.heap.FunFrames base outer
 frf : ∀ b ∈ frs outer,H b = none
 hok : HOk P w H s.heap
 bare : AllBare s.gens
def CE (outer : List Env) (P : Program) (w : World) (H : Hp) (s : Shared) (Q : VK) (u : Value) (s' : Shared) : Prop :=
 ∃ v H',s'.os = s.os ∧ AllBare s'.gens ∧ Un (frs outer) [] H H' s.heap s'.heap ∧ HOk P w H' s'.heap ∧ RelV v u ∧ Q v H'
def CR (CX : CXT) (outer : List Env) (P : Program) (w : World) (H : Hp) (s : Shared) (Q : VK) (E : XK) (r : Result) (s' : Shared) : Prop :=
 match r with
 | .ok (.ret u) => CE outer P w H s Q u s'
 | .ok _ => False
 | .error e => CX outer H s E e s'
structure FnOk (P : Program) (w : World) (K : PySem.W.Frag) (mg : Str → Option Value) (base : Heap) (CX : CXT) (k : Nat) (f : Addr) (fd : FuncData) (ps : List Str) (sp : Sp) : Prop where
 len : ∀ vs H Q E,sp vs H Q E → vs.length = ps.length
 run : ∀ (A : Around) (outer : List Env) (s : Shared) (H : Hp) (args : Args) (us : List Value) (vs : List V) (Q : VK) (E : XK),Room k A → Env0 P w K mg base A outer s H → BindsTo s fd args (ps.zip us) → Vals vs us → sp vs H Q E →
  codeAny (model P w) A (.call (.ref f) args) (CR CX outer P w H s Q E) s
theorem Env0.in1 {P : Program} {w : World} {K : PySem.W.Frag} {mg : Str → Option Value} {base : Heap} {A : Around} {outer : List Env} {s : Shared} {H : Hp} (e : Env0 P w K mg base A outer s H) :
  Env0 P w K mg base A.in1 outer s H := ⟨e.frames,e.mod,e.bs,e.bsz,e.funs,e.frf,e.hok,e.bare⟩
section
variable {X : Cx} {pins : List (Addr × Obj)} {σ : St} {H : Hp} {s s' : Shared}
theorem Inv.env0 (I : Inv X pins σ H s) : Env0 X.prog X.w X.K X.mg X.base X.A X.stack s H :=
 ⟨I.ok.frames,I.ok.mod,I.bs,Nat.le_trans I.ok.bsz I.sz,I.stack,I.stkFree,I.hok,I.bare⟩
theorem Inv.after {Q : VK} {u : Value} (I : Inv X pins σ H s) (h : CE X.stack X.prog X.w H s Q u s') : EP X pins σ Q u s' := by
 obtain ⟨v,H',os,bare,un,hok,r,q⟩ := h
 obtain ⟨hh,g,d,t,os'⟩ := s'
 obtain rfl : os' = s.os := os
 exact ⟨v,H',I.call (h' := hh) (g' := g) (d' := d) (t' := t) (ch := []) un hok bare (fun b z => absurd z (by simp)),r,q⟩
end
def tCall (sp : Sp) (dvs : List V) (E : XK) (t : TA) : TE := fun σ H Q => t σ H fun vs H1 => sp (vs ++ dvs) H1 Q E
def Binds (K : PySem.W.Frag) (fd : FuncData) (ps : List Str) (ds : List Value) : Prop :=
 ∀ (s : Shared) (us : List Value),K.In s.heap → (us ++ ds).length = ps.length → BindsTo s fd ⟨us,[]⟩ (ps.zip (us ++ ds))
theorem Binds.all {K : PySem.W.Frag} {fd : FuncData} {ps : List Str} (h : ∀ us : List Value,us.length = ps.length → bindArgs fd ⟨us,[]⟩ = pure (ps.zip us)) : Binds K fd ps [] := fun s us _ hl => by
 rw [List.append_nil] at hl ⊢
 exact .of_eq (h us hl)
def Passes (CX : CXT) (X : Cx) (E : XK) : Prop := ∀ (pins : List (Addr × Obj)) (σ : St) (H : Hp) (s : Shared) (e : Value) (s' : Shared),Inv X pins σ H s → CX X.stack H s E e s' → X.xe e s'
section
variable {X : Cx} {CX : CXT} {k : Nat} {f C : Addr} {fd : FuncData} {ps : List Str} {sp : Sp} {dvs : List V} {ds : List Value} {E : XK} {x m : Str} {p pos apos : Pos} {e o : Expr} {es : List Expr} {ta : TE} {t : TA}
theorem run_fn {pins : List (Addr × Obj)} {σ : St} {H : Hp} {s : Shared} {Q : VK} {us : List Value} {vs : List V} (F : FnOk X.prog X.w X.K X.mg X.base CX k f fd ps sp) (hr : Room k X.A) (hb : Binds X.K fd ps ds) (hd : Vals dvs ds) (hx : Passes CX X E)
  (I : Inv X pins σ H s) (r : Vals vs us) (h : sp (vs ++ dvs) H Q E) : wpAny (model X.prog X.w) X.A (call (.ref f) us) (EP X pins σ Q) X.xe s := by
 have r2 : Vals (vs ++ dvs) (us ++ ds) := r.append hd
 have hl : (us ++ ds).length = ps.length := by rw [← r2.length]; exact F.len _ _ _ _ h
 refine wpAny_call (codeAny_mono (F.run X.A X.stack s H ⟨us,[]⟩ (us ++ ds) (vs ++ dvs) Q E hr I.env0 (hb s us I.kIn hl) r2 h) fun r s' hq => ?_)
 cases r with
 | error e => exact hx pins σ H s e s' I hq
 | ok fl =>
  cases fl with
  | ret u => exact I.after hq
  | next => exact False.elim hq
  | brk => exact False.elim hq
  | cont => exact False.elim hq
theorem pe_call (F : FnOk X.prog X.w X.K X.mg X.base CX k f fd ps sp) (hr : Room k X.A) (hg : Gl X x) (hm : X.mg x = some (.ref f)) (hk : PySem.W.keepIn X.K (.ref f) = true) (hb : Binds X.K fd ps ds) (hd : Vals dvs ds) (hx : Passes CX X E)
  (ha : PA X (e :: es) t) (hdb : (x == ("__debug__" : Str)) = false := by decide) (he : starEach (e :: es) X.env = (false,eval e X.env) :: starEach es X.env := by rfl) (hpl : (backTo pos (starEach es X.env)).any (·.1) = false := by rfl) :
  PE X (.Call (.Name x p) (e :: es) [] pos) (tCall sp dvs E t) := by
 intro pins s σ H Q I h
 refine wpAny_Call_Name_kw (ld_glob I hg hm ?_ hdb)
 refine PySem.W.callWith_K (h₀ := X.base) I.ok.mod.kin hk (thn (ha pos pins s σ H _ I h) fun us s1 ⟨vs,H1,I1,r,q⟩ => ⟨I1.kIn,?_⟩) he hpl
 exact run_fn F hr hb hd hx I1 r q
end
section
variable {X : Cx} {CX : CXT} {k : Nat} {f C : Addr} {fd : FuncData} {ps ks : List Str} {sp : Sp} {E : XK} {x m : Str} {p pos apos kpos : Pos} {e o : Expr} {es : List Expr} {kws : List Keyword} {te ta : TE} {t tk : TA} {nm : Option Str}
variable {g : List Value → List Value → List Value} {gV : List V → List V → List V}
end
structure FnScope (N P : List Str) (sc : Scope) : Prop where
 kind : sc.kind = .function
 co : sc.isCoroutine = false
 gen : sc.isGenerator = false
 nd : N.Nodup
 pre : N.take P.length = P
 par : ∀ x ∈ P,sc.names.lookup x = some .local ∨ sc.names.lookup x = some .cell
 nofree : ∀ y ∈ sc.names,y.2 ≠ .free
theorem bindL_out {kindOf : Str → Option NameKind} {x : Str} : ∀ {binds : List (Str × Value)} {m : Str → Option Value},(∀ v,(x,v) ∉ binds) → bindL kindOf binds m x = m x
 | [],_,_ => rfl
 | (n,v) :: r,m,h => by
  unfold bindL
  rw [bindL_out fun w hw => h w (List.mem_cons_of_mem _ hw)]
  split
  ·have : x ≠ n := by rintro rfl; exact h v List.mem_cons_self
   simp [this]
  ·rfl
theorem bindC_out {kindOf : Str → Option NameKind} {x : Str} : ∀ {binds : List (Str × Value)} {m : Str → Option Value},(∀ v,(x,v) ∉ binds) → bindC kindOf binds m x = m x
 | [],_,_ => rfl
 | (n,v) :: r,m,h => by
  unfold bindC
  rw [bindC_out fun w hw => h w (List.mem_cons_of_mem _ hw)]
  split
  ·rfl
  ·have : x ≠ n := by rintro rfl; exact h v List.mem_cons_self
   simp [this]
theorem bindL_get {kindOf : Str → Option NameKind} {x : Str} {v : Value} : ∀ {P : List Str} {vs : List Value} {i : Nat} {m : Str → Option Value},P.Nodup → P[i]? = some x → vs[i]? = some v → kindOf x = some .local →
  bindL kindOf (P.zip vs) m x = some v
 | [],_,_,_,_,h,_,_ => by simp at h
 | _ :: _,[],_,_,_,_,h,_ => by simp at h
 | p :: P,w :: vs,0,m,nd,h1,h2,hk => by
  simp at h1 h2; subst h1; subst h2
  show bindL kindOf ((p,w) :: P.zip vs) m p = _
  unfold bindL
  rw [bindL_out fun v hv => (List.nodup_cons.mp nd).1 (List.of_mem_zip hv).1,if_pos hk]
  simp
 | p :: P,w :: vs,i + 1,m,nd,h1,h2,hk => by
  show bindL kindOf ((p,w) :: P.zip vs) m x = _
  unfold bindL
  exact bindL_get (i := i) (List.nodup_cons.mp nd).2 (by simpa using h1) (by simpa using h2) hk
theorem bindC_get {kindOf : Str → Option NameKind} {x : Str} {v : Value} : ∀ {P : List Str} {vs : List Value} {i : Nat} {m : Str → Option Value},P.Nodup → P[i]? = some x → vs[i]? = some v → kindOf x ≠ some .local →
  bindC kindOf (P.zip vs) m x = some v
 | [],_,_,_,_,h,_,_ => by simp at h
 | _ :: _,[],_,_,_,_,h,_ => by simp at h
 | p :: P,w :: vs,0,m,nd,h1,h2,hk => by
  simp at h1 h2; subst h1; subst h2
  show bindC kindOf ((p,w) :: P.zip vs) m p = _
  unfold bindC
  rw [bindC_out fun v hv => (List.nodup_cons.mp nd).1 (List.of_mem_zip hv).1,if_neg hk]
  simp
 | p :: P,w :: vs,i + 1,m,nd,h1,h2,hk => by
  show bindC kindOf ((p,w) :: P.zip vs) m x = _
  unfold bindC
  exact bindC_get (i := i) (List.nodup_cons.mp nd).2 (by simpa using h1) (by simpa using h2) hk
def start (N : List Str) (vs : List V) : St := vs.map some ++ List.replicate (N.length - vs.length) none
def cxOf (CX : CXT) (P : Program) (w : World) (K : PySem.W.Frag) (mg : Str → Option Value) (base : Heap) (N : List Str) (qual : Str) (scope : Scope) (f : Addr) (cd : Value) (A : Around) (outer : List Env) (s : Shared) (H : Hp) (E : XK) : Cx where
 prog := P
 w := w
 K := K
 mg := mg
 base := base
 A := A.deeper (envOfC qual scope s.heap.objs.size f cd)
 N := N
 s₀ := s
 H₀ := H
 env := envOfC qual scope s.heap.objs.size f cd
 outer := outer
 stack := envOfC qual scope s.heap.objs.size f cd :: outer
 ex := []
 calm := true
 fn := fun _ => true
 pn := []
 xe := fun e s' => wpAny (model P w) (A.deeper (envOfC qual scope s.heap.objs.size f cd)) (leaving (envOfC qual scope s.heap.objs.size f cd) e) (fun _ s'' => CX outer H s E e s'') (fun e' s'' => CX outer H s E e' s'') s'
theorem cell_has {sc : Scope} {n : Nat} {x : Str} (h : sc.names.lookup x = some .cell) : ∃ c,(cellsFrom n sc.names []).lookup x = some c := by
 have q := PySem.W.cellsFrom_some sc.names n [] (.inl h)
 exact Option.isSome_iff_exists.mp q
theorem inv_start {CX : CXT} {P : Program} {w : World} {K : PySem.W.Frag} {mg : Str → Option Value} {base : Heap} {N ps : List Str} {qual : Str} {scope : Scope} {f : Addr} {cd : Value} {A : Around} {outer : List Env} {s s1 : Shared} {H : Hp} {E : XK} {us : List Value} {vs : List V}
  (S : FnScope N ps scope) (hd : A.handled = none) (e0 : Env0 P w K mg base A outer s H) (hl : vs.length = ps.length) (r : Vals vs us)
  (x : InCallC s s.heap.objs.size (bindL (envOfC qual scope s.heap.objs.size f cd).kindOf (ps.zip us) fun _ => none) (cellsFrom (s.heap.objs.size + 1) scope.names []) (bindC (envOfC qual scope s.heap.objs.size f cd).kindOf (ps.zip us) fun _ => none) s1) :
  Inv (cxOf CX P w K mg base N qual scope f cd A outer s H E) [] (start N vs) H s1 := by
 have hpl : ps.length ≤ N.length := by have := congrArg List.length S.pre; rw [List.length_take] at this; omega
 obtain ⟨h1,tk,rfl,hk⟩ := x.done
 have noA : ∀ b : Addr,b ∉ (cxOf CX P w K mg base N qual scope f cd A outer s H E).ex := fun b z => absurd (show b ∈ ([] : List Addr) from z) (by simp)
 refine ⟨⟨e0.mod,S.kind,rfl,rfl,Nat.le_refl _,fun y z c h1 h2 => ?_,fun y hy => ?_,fun y c _ h => ?_,fun _ => hd,Around.frames_deeper e0.frames,.inr ⟨rfl,rfl⟩,fun b z => absurd z (noA b),e0.bs,e0.bsz,fun b _ _ => noA b,fun b z => absurd z (noA b),e0.funs,e0.frf⟩,
  rfl,e0.bare,Un.kept hk,⟨_,x.toInCall.ns,fun i y v h1 h2 h3 => ?_⟩,fun y c h => ⟨_,x.cell y c h⟩,e0.hok.fresh (Nat.le_refl _),fun y c h => ?_,fun p hp => absurd (show p ∈ ([] : List (Addr × Obj)) from hp) (by simp),e0.hok.kept hk,?_⟩
 ·exact name_of_addr x.apart (PySem.mem_of_lookup h1) (PySem.mem_of_lookup h2)
 ·have hy : scope.names.lookup y = some .cell ∨ scope.names.lookup y = some .free := hy
  rcases hy with hy | hy
  ·exact cell_has hy
  ·exact absurd rfl (S.nofree _ (PySem.mem_of_lookup hy))
 ·exact Nat.le_of_lt (x.above y c (PySem.mem_of_lookup h))
 ·have hi : i < vs.length := by
   unfold start at h2
   by_cases hi : i < vs.length
   ·exact hi
   ·rw [List.getElem?_append_right (by simpa using hi)] at h2
    rw [List.getElem?_replicate] at h2
    split at h2 <;> cases h2
  have ha : vs[i]? = some v := by
   unfold start at h2
   rw [List.getElem?_append_left (by simpa using hi),List.getElem?_map] at h2
   cases e : vs[i]? with
   | none => rw [e] at h2; cases h2
   | some a => rw [e] at h2; cases h2; rfl
  obtain ⟨u,hu,rv⟩ := r.get ha
  have hp : ps[i]? = some y := by
   rw [← S.pre,List.getElem?_take_of_lt (by omega)]; exact h1
  have ndP : ps.Nodup := by rw [← S.pre]; exact S.nd.sublist (List.take_sublist _ _)
  refine ⟨u,rv,?_⟩
  rcases S.par y (List.mem_of_getElem? hp) with k | k
  ·exact .inl ⟨k,bindL_get ndP hp hu k⟩
  ·obtain ⟨c,e⟩ := cell_has (n := s.heap.objs.size + 1) k
   refine .inr ⟨.inl k,c,e,?_⟩
   have q := x.cell y c e
   rw [bindC_get ndP hp hu (by show scope.names.lookup y ≠ _; rw [k]; decide)] at q
   exact q
 ·exact e0.hok.fresh (Nat.le_of_lt (x.above y c (PySem.mem_of_lookup h)))
 ·unfold start
  show _ = N.length
  rw [List.length_append,List.length_map,List.length_replicate]
  omega
theorem fn_of {CX : CXT} {P : Program} {w : World} {K : PySem.W.Frag} {mg : Str → Option Value} {base : Heap} {k : Nat} {f : Addr} {name qual : Str} {params : Arguments} {body : List Stmt} {scope : Scope} {dV kV doc pm cdv ct oc : Value} {an od : Option Addr}
  {osl : Array (Option Value)} {N ps : List Str} {sp : Sp} (lk : K.lookup f = some ⟨oc,od,.func (PySem.W.fnOf name qual params body scope dV kV doc pm an cdv ct),osl⟩) (hcd : PySem.W.codeIn K cdv qual = true) (S : FnScope N ps scope)
  (len : ∀ vs H Q E,sp vs H Q E → vs.length = ps.length)
  (hbody : ∀ (A : Around) (outer : List Env) (s : Shared) (H : Hp) (vs : List V) (Q : VK) (E : XK),Room k (A.deeper (envOfC qual scope s.heap.objs.size f cdv)) → sp vs H Q E →
   ∃ t,PSs (cxOf CX P w K mg base N qual scope f cdv A outer s H E) body t ∧ t { nx := fun _ H' => Q .non H',rt := Q } (start N vs) H) :
  FnOk P w K mg base CX (k + 1) f (PySem.W.fnOf name qual params body scope dV kV doc pm an cdv ct) ps sp := by
 refine ⟨len,fun A outer s H args us vs Q E hr e0 hb r hsp => ?_⟩
 have hl := len _ _ _ _ hsp
 have KX : K.In s.heap := e0.mod.kin.keeps fun b o e => (e0.bs b o e).1
 have lim : s.heap.NoLimit := e0.mod.nolimit.keeps fun b o e => (e0.bs b o e).1
 have hkind : ∀ y ∈ ps.zip us,scope.names.lookup y.1 = some .local ∨ (scope.names.lookup y.1 = some .cell ∧ ((cellsFrom (s.heap.objs.size + 1) scope.names []).lookup y.1).isSome = true) := fun ⟨n,v⟩ hy => by
  rcases S.par n (List.of_mem_zip hy).1 with q | q
  ·exact .inl q
  ·exact .inr ⟨q,PySem.W.cellsFrom_some _ _ _ (.inl q)⟩
 refine codeAny_call_function hr.depth (KX _ _ lk) rfl S.co S.gen rfl (PySem.W.codeRec_of KX hcd) (hb _ _ _ _ ?_)
 refine wpAny_newFunctionEnv_cells S.kind hkind fun env he s1 x => ?_
 subst he
 refine ⟨lim.keeps x.toInCall.keep,codeAny_func ?_⟩
 obtain ⟨t,ht,hq⟩ := hbody A outer s H vs Q E (hr.deeper _) hsp
 have I : Inv (cxOf CX P w K mg base N qual scope f cdv A outer s H E) [] (start N vs) H s1 := inv_start S hr.hd e0 hl r x
 refine wpAny_mono (ht [] s1 (start N vs) H _ I hq) (fun fl s' hs => ?_) fun e s' hs => hs
 have fin : ∀ {σ' : St} {H' : Hp} {v : V} {u : Value},Inv (cxOf CX P w K mg base N qual scope f cdv A outer s H E) [] σ' H' s' → RelV v u → Q v H' → CE outer P w H s Q u s' :=
  fun {σ' H' v u} J rv q => ⟨v,H',J.os,J.bare,J.base,J.hok,rv,q⟩
 cases fl with
 | ret u =>
  obtain ⟨v,σ',H',J,rv,q⟩ := hs
  exact fin J rv q
 | next =>
  obtain ⟨σ',H',J,q⟩ := hs
  exact fin (v := V.non) (u := Value.none) J rfl q
 | brk =>
  obtain ⟨_,_,_,q⟩ := hs
  exact False.elim q
 | cont =>
  obtain ⟨_,_,_,q⟩ := hs
  exact False.elim q
end L2
namespace L2
open PySem PySem.Spec PyProof.Rows
section
variable {X : Cx} {x : Str} {p pos : Pos} {e : Expr} {es : List Expr} {t : TA} {id T : String} {r : List V → Hp → VK → Prop}
def tCB (r : List V → Hp → VK → Prop) (t : TA) : TE := fun σ H Q => t σ H fun vs H1 => r vs H1 Q
theorem pe_callB (hc : CallR X (.builtin id) r) (hg : Gl X x) (hm : X.mg x = none) (hv : bootBuiltins x = some (.builtin id)) (ha : PA X (e :: es) t) (hn : x ≠ "__name__" := by decide) (hdb : (x == ("__debug__" : Str)) = false := by decide)
  (he : starEach (e :: es) X.env = (false,eval e X.env) :: starEach es X.env := by rfl) (hpl : (backTo pos (starEach es X.env)).any (·.1) = false := by rfl) : PE X (.Call (.Name x p) (e :: es) [] pos) (tCB r t) := by
 intro pins s σ H Q I h
 refine wpAny_Call_Name_kw (ld_blt I hg hm hv ?_ hn hdb)
 exact PyProof.Rows.callWith_builtin1 (thn (ha pos pins s σ H _ I h) fun us s1 ⟨vs,H1,I1,r1,q1⟩ => hc pins s1 σ H1 vs us Q I1 r1 q1) he hpl
theorem pe_callTy (hc : CallR X (.type T) r) (hg : Gl X x) (hm : X.mg x = none) (hv : bootBuiltins x = some (.type T)) (ha : PA X (e :: es) t) (hn : x ≠ "__name__" := by decide) (hdb : (x == ("__debug__" : Str)) = false := by decide)
  (he : starEach (e :: es) X.env = (false,eval e X.env) :: starEach es X.env := by rfl) (hpl : (backTo pos (starEach es X.env)).any (·.1) = false := by rfl) : PE X (.Call (.Name x p) (e :: es) [] pos) (tCB r t) := by
 intro pins s σ H Q I h
 refine wpAny_Call_Name_kw (ld_blt I hg hm hv ?_ hn hdb)
 exact PyProof.Rows.callWith_type1 (thn (ha pos pins s σ H _ I h) fun us s1 ⟨vs,H1,I1,r1,q1⟩ => hc pins s1 σ H1 vs us Q I1 r1 q1) he hpl
end
end L2
namespace HT
open PySem PyProof.Rows
section
open PySem.SeqAt
open PySem.AutoSeq1 (wpAny_loadPart')
open PySem.MeetsSeq PySem.MeetsSeq2 PySem.MeetsSeq3
end
section
variable {prog : Program} {w : World} {A : Around} {E : Value → Shared → Prop} {s : Shared}
def sIx (n d : Nat) : Option Int → Nat
 | none => d
 | some v => if v < 0 then (v + (n : Int)).toNat else min v.toNat n
theorem sIx_none (n d : Nat) : sIx n d none = d := rfl
theorem sIx_nat (n d k : Nat) : sIx n d (some (k : Int)) = min k n := by
 show (if (k : Int) < 0 then ((k : Int) + (n : Int)).toNat else min (k : Int).toNat n) = min k n
 rw [if_neg (by omega),Int.toNat_natCast]
end
end HT
namespace L2
open PySem PySem.Spec PyProof.Rows
abbrev TO := St → Hp → (Option Int → Hp → Prop) → Prop
def PO (X : Cx) (e : Option Expr) (t : TO) : Prop :=
 ∀ (pins : List (Addr × Obj)) (s : Shared) (σ : St) (H : Hp) (Q : Option Int → Hp → Prop),Inv X pins σ H s → t σ H Q →
  wpAny (model X.prog X.w) X.A (evalPart e X.env) (fun u s' => ∃ o H',Inv X pins σ H' s' ∧ IsPart u o ∧ Q o H') X.xe s
def tNoPart : TO := fun _ H Q => Q none H
def tPart (t : TE) : TO := fun σ H Q => t σ H fun x H1 => ∃ i,x = .int i ∧ Q (some i) H1
section
variable {X : Cx} {e : Expr} {te : TE} {lo hi : Option Expr} {tl th : TO} {pos p2 : Pos}
theorem po_none : PO X none tNoPart := by
 intro pins s σ H Q I h
 rw [evalPart_none]
 exact wpAny_pure ⟨none,H,I,.none,h⟩
theorem po_some (h : PE X e te) : PO X (some e) (tPart te) := by
 intro pins s σ H Q I hw
 rw [evalPart_some]
 refine thn (h pins s σ H _ I hw) fun u s1 ⟨x,H1,I1,r1,q1⟩ => ?_
 obtain ⟨i,rfl,q⟩ := q1
 obtain ⟨t,rfl⟩ := r1
 exact ⟨some i,H1,I1,.int i t,q⟩
def SlR (X : Cx) (r : V → Option Int → Option Int → Hp → VK → Prop) : Prop :=
 ∀ (pins : List (Addr × Obj)) (s : Shared) (σ : St) (H : Hp) (x : V) (v vl vu : Value) (lo hi : Option Int) (sl : Addr) (Q : VK),Inv X pins σ H s → RelV x v → s.heap.IsSliceOf sl vl vu .none → IsPart vl lo → IsPart vu hi → r x lo hi H Q →
  ∃ T id,typeLookup (.type T) "__getitem__" = pure (some (.builtin id)) ∧ s.TypeIs v T ∧ wpAny (model X.prog X.w) X.A (getItem v (.ref sl)) (EP X pins σ Q) X.xe s
def tSl (r : V → Option Int → Option Int → Hp → VK → Prop) (te : TE) (tl th : TO) : TE := fun σ H Q => te σ H fun x H1 => tl σ H1 fun l H2 => th σ H2 fun u H3 => r x l u H3 Q
theorem pe_slice {r : V → Option Int → Option Int → Hp → VK → Prop} (hr : SlR X r) (he : PE X e te) (hl : PO X lo tl) (hu : PO X hi th) : PE X (.Subscript e (.Slice lo hi none p2) pos) (tSl r te tl th) := by
 intro pins s σ H Q I h
 refine Subscript_ (thn (he pins s σ H _ I h) fun v s1 ⟨x,H1,I1,r1,q1⟩ => ?_)
 refine wpAny_Slice (thn (hl pins s1 σ H1 _ I1 q1) fun vl s2 ⟨l,H2,I2,pl,q2⟩ => thn (hu pins s2 σ H2 _ I2 q2) fun vu s3 ⟨u,H3,I3,pu,q3⟩ => ?_)
 rw [evalPart_none]
 refine wpAny_pure ?_
 have I4 : Inv X pins σ H3 { s3 with heap := s3.heap.push { cls := .type "slice",data := .fields #[vl,vu,.none] } } := I3.kept (t' := s3.toks) fun b ob q => Heap.get?_push_of_some _ q
 obtain ⟨T,id,hT,ht,hg⟩ := hr pins { s3 with heap := s3.heap.push { cls := .type "slice",data := .fields #[vl,vu,.none] } } σ H3 x v vl vu l u s3.heap.objs.size Q I4 r1 (Heap.IsSliceOf.new ..) pl pu q3
 show wpAny (model X.prog X.w) X.A (subscriptTail e (.Slice lo hi none p2) v (.ref s3.heap.objs.size)) (EP X pins σ Q) X.xe { s3 with heap := s3.heap.push { cls := .type "slice",data := .fields #[vl,vu,.none] } }
 exact tail_any (ops := [.ref s3.heap.objs.size,v]) ht hT hg (by with_unfolding_all rfl)
def cutV (xs : List V) (lo hi : Option Int) : List V := (xs.drop (HT.sIx xs.length 0 lo)).take (HT.sIx xs.length xs.length hi - HT.sIx xs.length 0 lo)
theorem cutV_length (xs : List V) (lo hi : Option Int) : (cutV xs lo hi).length ≤ xs.length := by
 unfold cutV
 rw [List.length_take,List.length_drop]
 omega
end
end L2
namespace L2
open PySem PySem.Spec PyProof.Rows
def ixN (n : Nat) (i : Int) : Option Nat := if 0 ≤ i then (if i < n then some i.toNat else none) else if -(n : Int) ≤ i then some (i + n).toNat else none
def atI {α : Type} (xs : List α) (i : Int) : Option α := (ixN xs.length i).bind fun j => xs[j]?
theorem ixN_seq {n : Nat} {i : Int} {j : Nat} (h : ixN n i = some j) : seqIndex? i n = some j ∧ j < n ∧ -(n : Int) ≤ i ∧ i < n := by
 unfold ixN at h
 by_cases h0 : 0 ≤ i
 ·rw [if_pos h0] at h
  by_cases h1 : i < n
  ·rw [if_pos h1] at h
   have e : i.toNat = j := Option.some.inj h
   exact ⟨by rw [seqIndex_of h0 h1,e],by omega,by omega,h1⟩
  ·rw [if_neg h1] at h; cases h
 ·rw [if_neg h0] at h
  by_cases h1 : -(n : Int) ≤ i
  ·rw [if_pos h1] at h
   have e : (i + n).toNat = j := Option.some.inj h
   exact ⟨by rw [seqIndex_neg (by omega) h1,e],by omega,h1,by omega⟩
  ·rw [if_neg h1] at h; cases h
theorem atI_get {α : Type} {xs : List α} {i : Int} {v : α} (h : atI xs i = some v) : ∃ j,seqIndex? i xs.length = some j ∧ xs[j]? = some v ∧ j < xs.length ∧ -(xs.length : Int) ≤ i ∧ i < xs.length := by
 unfold atI at h
 cases e : ixN xs.length i with
 | none => rw [e] at h; cases h
 | some j =>
  rw [e] at h
  obtain ⟨h1,h2,h3,h4⟩ := ixN_seq e
  exact ⟨j,h1,h,h2,h3,h4⟩
theorem atI_nat {α : Type} {xs : List α} {j : Nat} {v : α} (h : xs[j]? = some v) : atI xs (j : Int) = some v := by
 have hj : j < xs.length := (List.getElem?_eq_some_iff.mp h).1
 have e : ixN xs.length (j : Int) = some j := by
  unfold ixN
  rw [if_pos (by omega),if_pos (by omega)]; simp
 unfold atI; rw [e]; exact h
def PlainIx (b : Expr) : Prop := ∀ o i,subscripted b false o i = operate [o,i] (getItem o i)
def IxR (X : Cx) (r : R2) : Prop :=
 ∀ (value slice : Expr) (pins : List (Addr × Obj)) (s : Shared) (σ : St) (H : Hp) (x y : V) (v u : Value) (Q : VK),Inv X pins σ H s → RelV x v → RelV y u → r x y H Q →
  subscripted slice false v u = operate [v,u] (getItem v u) → wpAny (model X.prog X.w) X.A (subscriptTail value slice v u) (EP X pins σ Q) X.xe s
def MtR (X : Cx) (id : String) (r : V → List V → Hp → VK → Prop) : Prop :=
 ∀ (pins : List (Addr × Obj)) (s : Shared) (σ : St) (H : Hp) (x : V) (xs : List V) (v : Value) (us : List Value) (Q : VK),Inv X pins σ H s → RelV x v → Vals xs us → r x xs H Q →
  wpAny (model X.prog X.w) X.A (call (.builtin id) (v :: us)) (EP X pins σ Q) X.xe s
section
variable {X : Cx} {a b : Expr} {ta tb : TE} {pos : Pos}
theorem pe_ix {r : R2} (hr : IxR X r) (ha : PE X a ta) (hb : PE X b tb) (hs : PlainIx b) : PE X (.Subscript a b pos) (tOp r ta tb) := by
 intro pins s σ H Q I h
 exact Subscript_ (binT ha hb I h fun v u s2 x y H2 I2 rx ry q => hr a b pins s2 σ H2 x y v u Q I2 rx ry q (hs _ _))
def rIxL (K : PySem.W.Frag) : R2 := fun x y H Q => ∃ p xs i v,x = .ref p ∧ y = .int i ∧ SqL K H p xs ∧ atI xs i = some v ∧ Q v H
theorem ix_list : IxR X (rIxL X.K) := by
 intro value slice pins s σ H x y v u Q I rx ry h hs
 obtain ⟨p,xs,i,z,rfl,rfl,hq,he,q⟩ := h
 cases rx
 obtain ⟨t,rfl⟩ := ry
 obtain ⟨its,r,pl,hz⟩ := I.list hq
 obtain ⟨j,h1,h2,h3,h4,h5⟩ := atI_get he
 obtain ⟨w,ew,rw'⟩ := r.get h2
 have hl := r.length
 have hn := line63
 have fin : EP X pins σ Q w s := ⟨z,H,I,rw',q⟩
 by_cases h0 : 0 ≤ i
 ·have hj : i.toNat = j := by
   rw [seqIndex_of h0 h5] at h1
   exact Option.some.inj h1
  exact item_listR pl.isList h0 (by omega) (by rw [hj]; simpa using ew) fin hs
 ·have hj : (i + (its.toArray.size : Int)).toNat = j := by
   rw [seqIndex_neg (by omega) h4] at h1
   rw [List.size_toArray,← hl]
   exact Option.some.inj h1
  exact subscriptTail_builtinR (x := w) pl.isList.typeIs slot_list_getitem.lookup
   (wpAny_getItem_list_neg (Q := fun r s' => r = w ∧ EP X pins σ Q r s') pl.isList (by omega) (by rw [List.size_toArray] <;> omega) (by omega) (by rw [hj]; simpa using ew) ⟨rfl,fin⟩) hs
theorem mapSeq_set (its : List Value) (n j : Nat) (u : Value) : Obj.mapSeq (·.setIfInBounds j u) { cls := .type "list",data := .seq its.toArray n } = { cls := .type "list",data := .seq (its.set j u).toArray n } := by
 simp [Obj.mapSeq]
theorem Inv.lst {pins : List (Addr × Obj)} {σ : St} {H : Hp} {s : Shared} {p : Addr} {xs : List V} (I : Inv X pins σ H s) (h : H p = some (.lst xs)) :
  ∃ (its : List Value) (n : Nat),Vals xs its ∧ s.heap.get? p = some { cls := .type "list",data := .seq its.toArray n } ∧ xs.length ≤ sizeLine := by
 obtain ⟨z,its,n,r,e⟩ := I.hok p _ h
 exact ⟨its,n,r,e,z⟩
theorem Inv.lstUpd {pins : List (Addr × Obj)} {σ : St} {H : Hp} {s : Shared} {p : Addr} {xs ys : List V} {its its' : List Value} {n n' : Nat} {f : Obj → Obj} (I : Inv X pins σ H s) (h : H p = some (.lst xs))
  (ho : s.heap.get? p = some { cls := .type "list",data := .seq its.toArray n }) (hf : f { cls := .type "list",data := .seq its.toArray n } = { cls := .type "list",data := .seq its'.toArray n' }) (r : Vals ys its') (hz : ys.length ≤ sizeLine) (t : Nat) :
  Inv X pins σ (upd H p (.lst ys)) { s with heap := s.heap.update p f,toks := t } := by
 have e : (s.heap.update p f).get? p = some { cls := .type "list",data := .seq its'.toArray n' } := by
  rw [Heap.get?_update_self f ho (by rw [hf] <;> rfl),hf]
 refine I.write (x := p) (e := p) (by rw [h]; trivial) (.inl rfl) (fun b u hb q => (Heap.get?_update_other _ _ (Ne.symm hb)).trans q) ⟨_,e⟩ ?_
 exact ⟨hz,its',n',r,e⟩
def rSetL : V → V → V → Hp → (Hp → Prop) → Prop := fun o i v H Q => ∃ p xs k j,o = .ref p ∧ i = .int k ∧ H p = some (.lst xs) ∧ ixN xs.length k = some j ∧ Q (upd H p (.lst (xs.set j v)))
theorem set_list : PSet X rSetL := by
 intro pins s σ H o i v ov iv u Q I ro ri rv h
 obtain ⟨p,xs,k,j,rfl,rfl,hp,hj,q⟩ := h
 cases ro
 obtain ⟨t,rfl⟩ := ri
 obtain ⟨its,n,r,ho,hz⟩ := I.lst hp
 obtain ⟨h1,h2,h3,h4⟩ := ixN_seq hj
 have hl := r.length
 have hn := line63
 have I' : Inv X pins σ (upd H p (.lst (xs.set j v))) { s with heap := s.heap.update p (Obj.mapSeq (·.setIfInBounds j u)) } :=
  I.lstUpd hp ho (mapSeq_set its n j u) (r.set rv j) (by rw [List.length_set]; exact hz) s.toks
 by_cases h0 : 0 ≤ k
 ·have hk : k.toNat = j := by
   rw [seqIndex_of h0 h4] at h1
   exact Option.some.inj h1
  exact PySem.W.ki_setAt ho h0 (by omega) (by rw [List.size_toArray,← hl]; exact h4) (by rw [hk]; exact ⟨_,I',q⟩)
 ·have hk : (k + (its.toArray.size : Int)).toNat = j := by
   rw [seqIndex_neg (by omega) h3] at h1
   rw [List.size_toArray,← hl]
   exact Option.some.inj h1
  exact PySem.W.ki_setBack ho (by omega) (by rw [List.size_toArray,← hl]; exact h3) (by omega) (by rw [hk]; exact ⟨_,I',q⟩)
theorem slice_bounds (lo hi : Option Int) (n : Nat) : (sliceBounds lo hi none n).1 = ((HT.sIx n 0 lo : Nat) : Int) ∧ (sliceBounds lo hi none n).2.1 = ((HT.sIx n n hi : Nat) : Int) ∧ (sliceBounds lo hi none n).2.2 = 1 := by
 refine ⟨?_,?_,rfl⟩
 ·cases lo with
  | none => simp [sliceBounds,HT.sIx]
  | some i =>
   simp only [sliceBounds,HT.sIx,Option.getD_none,show (1 : Int) > 0 by decide,if_true]
   by_cases h : i < 0
   ·simp only [h,if_true] <;> omega
   ·simp only [h,if_false] <;> omega
 ·cases hi with
  | none => simp [sliceBounds,HT.sIx]
  | some i =>
   simp only [sliceBounds,HT.sIx,Option.getD_none,show (1 : Int) > 0 by decide,if_true]
   by_cases h : i < 0
   ·simp only [h,if_true] <;> omega
   ·simp only [h,if_false] <;> omega
theorem slicePick_cut (its : List Value) (lo hi : Option Int) : slicePick its.toArray lo hi none = ((its.drop (HT.sIx its.length 0 lo)).take (HT.sIx its.length its.length hi - HT.sIx its.length 0 lo)).toArray := by
 obtain ⟨h1,h2,h3⟩ := slice_bounds lo hi its.toArray.size
 unfold slicePick
 rw [h1,h2,h3]
 simp only [sliceRange_one,pick_run,List.size_toArray] <;> rfl
def rSlL (K : PySem.W.Frag) : V → Option Int → Option Int → Hp → VK → Prop := fun x lo hi H Q => ∃ a xs,x = .ref a ∧ SqL K H a xs ∧ ∀ p,H p = none → Q (.ref p) (upd H p (.lst (cutV xs lo hi)))
theorem sl_list : SlR X (rSlL X.K) := by
 intro pins s σ H x v vl vu lo hi sl Q I rx hs pl pu h
 obtain ⟨a,xs,rfl,hx,q⟩ := h
 cases rx
 obtain ⟨its,r,ht,hz⟩ := I.list hx
 have hlen := r.length
 refine ⟨"list",_,slot_list_getitem.lookup,ht.isList.typeIs,?_⟩
 refine wpAny_getItem_list_slice ht.isList hs pl pu .none (by simp) ?_ (by rw [List.size_toArray] <;> omega)
 rw [slicePick_cut,← hlen]
 refine ⟨.ref s.heap.objs.size,_,I.laid (t' := s.toks) (o := .lst (cutV xs lo hi)) (fun b ob q => Heap.get?_push_of_some _ q) (Nat.le_refl _) ?_,rfl,q _ (I.hok.fresh (Nat.le_refl _))⟩
 exact ⟨Nat.le_trans (cutV_length xs lo hi) hz,_,0,(r.drop (HT.sIx xs.length 0 lo)).take (HT.sIx xs.length xs.length hi - HT.sIx xs.length 0 lo),Heap.get?_push_size _ rfl⟩
def flatV : V → Bool
 | .non => true
 | .bl _ => true
 | .int _ => true
 | .str _ => true
 | _ => false
def eqV : V → V → Bool
 | .non,.non => true
 | .bl a,.bl b => a == b
 | .bl a,.int b => (if a then 1 else 0) == b
 | .int a,.bl b => a == (if b then 1 else 0)
 | .int a,.int b => a == b
 | .str a,.str b => a == b
 | _,_ => false
theorem eqAt_V {A : Around} {s : Shared} {y x : V} {u v : Value} (ry : RelV y u) (rx : RelV x v) (fy : flatV y = true) (fx : flatV x = true) : SeqAt.EqAt A s u v (eqV y x) := by
 cases y with
 | non =>
  cases ry
  cases x with
  | non => cases rx; exact SeqAt.EqAt.same _
  | bl b => cases rx; exact SeqAt.EqAt.none_bool b
  | int b => obtain ⟨t,rfl⟩ := rx; exact SeqAt.EqAt.none_int b t
  | str b => obtain ⟨t,rfl⟩ := rx; exact SeqAt.EqAt.none_str b t
  | _ => exact absurd (show false = true from fx) Bool.false_ne_true
 | bl a =>
  cases ry
  cases x with
  | non => cases rx; exact SeqAt.EqAt.bool_none a
  | bl b => cases rx; exact SeqAt.EqAt.bool_bool a b
  | int b => obtain ⟨t,rfl⟩ := rx; exact SeqAt.EqAt.bool_int a b t
  | str b => obtain ⟨t,rfl⟩ := rx; exact SeqAt.EqAt.bool_str a b t
  | _ => exact absurd (show false = true from fx) Bool.false_ne_true
 | int a =>
  obtain ⟨t',rfl⟩ := ry
  cases x with
  | non => cases rx; exact SeqAt.EqAt.int_none a t'
  | bl b => cases rx; exact SeqAt.EqAt.int_bool a t' b
  | int b => obtain ⟨t,rfl⟩ := rx; exact SeqAt.EqAt.int_int a t' b t
  | str b => obtain ⟨t,rfl⟩ := rx; exact SeqAt.EqAt.int_str a t' b t
  | _ => exact absurd (show false = true from fx) Bool.false_ne_true
 | str a =>
  obtain ⟨t',rfl⟩ := ry
  cases x with
  | non => cases rx; exact SeqAt.EqAt.str_none a t'
  | bl b => cases rx; exact SeqAt.EqAt.str_bool a t' b
  | int b => obtain ⟨t,rfl⟩ := rx; exact SeqAt.EqAt.str_int a t' b t
  | str b => obtain ⟨t,rfl⟩ := rx; exact SeqAt.EqAt.str_str a t' b t
  | _ => exact absurd (show false = true from fx) Bool.false_ne_true
 | _ => exact absurd (show false = true from fy) Bool.false_ne_true
def eqU (x : V) (u : Value) : Bool := match u with
 | .none => eqV .non x
 | .bool b => eqV (.bl b) x
 | .int i _ => eqV (.int i) x
 | .str z _ => eqV (.str z) x
 | _ => false
theorem eqU_of {x y : V} {u : Value} (r : RelV y u) (f : flatV y = true) : eqU x u = eqV y x := by
 cases y with
 | non => cases r; rfl
 | bl b => cases r; rfl
 | int i => obtain ⟨t,rfl⟩ := r; rfl
 | str z => obtain ⟨t,rfl⟩ := r; rfl
 | _ => exact absurd (show false = true from f) Bool.false_ne_true
theorem mem_eqAt {A : Around} {s : Shared} {x : V} {v : Value} (rx : RelV x v) (fx : flatV x = true) : ∀ {xs : List V} {us : List Value},Vals xs us → xs.all flatV = true → ∀ u ∈ us,SeqAt.EqAt A s u v (eqU x u)
 | _,_,.nil,_ => fun u hu => by cases hu
 | y :: xs,u :: us,.cons r t,f => fun u' hu => by
  rw [List.all_cons,Bool.and_eq_true] at f
  rcases List.mem_cons.mp hu with rfl | hu
  ·rw [eqU_of r f.1]; exact eqAt_V r rx f.1 fx
  ·exact mem_eqAt rx fx t f.2 u' hu
theorem call_len_seq : CallR X (.builtin "len") (fun xs H Q => ∃ p ys,xs = [.ref p] ∧ (SqL X.K H p ys ∨ SqT X.K H p ys) ∧ Q (.int ys.length) H) := by
 intro pins s σ H xs us Q I r h
 obtain ⟨p,ys,rfl,hq,q⟩ := h
 obtain ⟨u,rfl,rx⟩ := vals1 r
 cases rx
 have hn := line63
 rcases hq with hq | hq
 ·obtain ⟨its,r',pl,hz⟩ := I.list hq
  have hlen := r'.length
  exact Calls.call_len_list pl.isList (by simp only [List.size_toArray] <;> omega) ⟨.int ys.length,H,I.tok _,⟨s.toks + 1,by rw [List.size_toArray,hlen]⟩,q⟩
 ·obtain ⟨its,r',pl,hz⟩ := I.tuple hq
  have hlen := r'.length
  exact len_tuple pl (by simp only [List.size_toArray] <;> omega) ⟨.int ys.length,H,I.tok _,⟨s.toks + 1,by rw [List.size_toArray,hlen]⟩,q⟩
theorem call_list_of : CallR X (.type "list") (fun xs H Q => ∃ p ys,xs = [.ref p] ∧ (SqL X.K H p ys ∨ SqT X.K H p ys) ∧ ∀ l,H l = none → Q (.ref l) (upd H l (.lst ys))) := by
 intro pins s σ H xs us Q I r h
 obtain ⟨p,ys,rfl,hq,q⟩ := h
 obtain ⟨u,rfl,rx⟩ := vals1 r
 cases rx
 have fin : ∀ (its : List Value),Vals ys its → ys.length ≤ sizeLine → ∀ (h' : Heap) (c' : Nat),(∀ b o',s.heap.get? b = some o' → h'.get? b = some o') →
   h'.get? s.heap.objs.size = some { cls := .type "list",dict := none,data := .seq its.toArray c',slots := #[] } → EP X pins σ Q (.ref s.heap.objs.size) { s with heap := h' } := fun its r' hz h' c' kp e =>
  ⟨.ref s.heap.objs.size,_,I.laid (t' := s.toks) kp (Nat.le_refl _) (show ObjOk X.prog X.w _ h' _ (.lst ys) from ⟨hz,its,c',r',e⟩),rfl,q _ (I.hok.fresh (Nat.le_refl _))⟩
 rcases hq with hq | hq
 ·obtain ⟨its,r',pl,hz⟩ := I.list hq
  have hlen := r'.length
  obtain ⟨o,ho,hc,n,hd⟩ := pl.isList
  exact call_list_seq p (.inl rfl) ho hc hd (fun h' c' kp e => fin its r' hz h' c' kp e) (by simp only [List.size_toArray] <;> omega)
 ·obtain ⟨its,r',pl,hz⟩ := I.tuple hq
  have hlen := r'.length
  obtain ⟨o,ho,hc,n,hd⟩ := pl
  exact call_list_seq p (.inr rfl) ho hc hd (fun h' c' kp e => fin its r' hz h' c' kp e) (by simp only [List.size_toArray] <;> omega)
def tyV (K : PySem.W.Frag) (T : String) (x : V) (H : Hp) : Prop := match x with
 | .str _ => T = "str"
 | .int _ => T = "int"
 | .ref p => (T = "list" ∧ ∃ xs,SqL K H p xs) ∨ (T = "tuple" ∧ ∃ o,K.lookup p = some o ∧ o.cls = .type "tuple" ∧ o.dict = none) ∨
   (T = "dict" ∧ ((∃ kvs,H p = some (.dK kvs)) ∨ ∃ kvs,H p = some (.dT kvs))) ∨ (T = "set" ∧ ∃ S n,H p = some (.set S n))
 | _ => False
theorem tyV_is {pins : List (Addr × Obj)} {σ : St} {H : Hp} {s : Shared} {T : String} {x : V} {v : Value} (I : Inv X pins σ H s) (r : RelV x v) (ty : tyV X.K T x H) :
  s.TypeIs v T ∧ ∀ a,v = .ref a → ∃ ob,s.heap.get? a = some ob ∧ ob.dict = none := by
 cases x with
 | str z =>
  obtain ⟨t,rfl⟩ := r
  cases (show T = "str" from ty)
  exact ⟨typeIs_str s z t,fun _ e => nomatch e⟩
 | int i =>
  obtain ⟨t,rfl⟩ := r
  cases (show T = "int" from ty)
  exact ⟨typeIs_int s i t,fun _ e => nomatch e⟩
 | ref p =>
  cases r
  rcases ty with ⟨rfl,xs,hq⟩ | ⟨rfl,o,hk,hc,hd⟩ | ⟨rfl,hk⟩ | ⟨rfl,S,n,hk⟩
  ·obtain ⟨its,_,pl,_⟩ := I.list hq
   refine ⟨pl.isList.typeIs,fun a e => ?_⟩
   cases e
   obtain ⟨o,n,e,c,hd,_⟩ := pl
   exact ⟨o,e,hd⟩
  ·refine ⟨⟨o,I.kIn p o hk,hc⟩,fun a e => ?_⟩
   cases e
   exact ⟨o,I.kIn _ o hk,hd⟩
  ·have z : ∃ o,s.heap.get? p = some o ∧ o.ExactDict := by
    rcases hk with ⟨kvs,hk⟩ | ⟨kvs,hk⟩
    ·obtain ⟨_,_,_,_,o,_,_,e,ex,_⟩ := I.hok p _ hk
     exact ⟨o,e,ex⟩
    ·obtain ⟨_,_,_,_,o,_,_,e,ex,_⟩ := I.hok p _ hk
     exact ⟨o,e,ex⟩
   obtain ⟨o,e,ex⟩ := z
   refine ⟨⟨o,e,ex.1⟩,fun a e2 => ?_⟩
   cases e2
   exact ⟨o,e,ex.2.1⟩
  ·obtain ⟨o,_,_,_,e,ex,_⟩ := I.hok p _ hk
   refine ⟨⟨o,e,ex.1⟩,fun a e2 => ?_⟩
   cases e2
   exact ⟨o,e,ex.2.1⟩
 | _ => exact False.elim ty
def tBM0 (K : PySem.W.Frag) (T : String) (r : V → List V → Hp → VK → Prop) (to : TE) : TE := fun σ H Q => to σ H fun x H1 => tyV K T x H1 ∧ r x [] H1 Q
def tBM (K : PySem.W.Frag) (T : String) (r : V → List V → Hp → VK → Prop) (to : TE) (t : TA) : TE := fun σ H Q => to σ H fun x H1 => tyV K T x H1 ∧ t σ H1 fun xs H2 => r x xs H2 Q
variable {o e : Expr} {es : List Expr} {to : TE} {t : TA} {name : Str} {apos cpos : Pos} {T id : String} {r : V → List V → Hp → VK → Prop}
theorem pe_bm0 (pa : PlainAttrs T) (slot : Slot T name id) (hty : typeOf (.builtin id) = pure (.type "method_descriptor")) (hm : MtR X id r) (ho : PE X o to)
  (hbase : attributeBase o name X.env (eval o X.env) = eval o X.env := by rfl) (hline : (apos.endLine == cpos.line) = true := by rfl) : PE X (.Call (.Attribute o name apos) [] [] cpos) (tBM0 X.K T r to) := by
 intro pins s σ H Q I h
 refine wpAny_Call_method0_late hbase hline (thn (ho pins s σ H _ I h) fun v s1 ⟨x,H1,I1,r1,ty,q1⟩ => ?_)
 obtain ⟨h1,h2⟩ := tyV_is I1 r1 ty
 exact ⟨T,id,pa,slot,hty,h1,h2,Calls.callWith_builtin rfl (PySem.evalArgs_none (hm pins s1 σ H1 x [] v [] Q I1 r1 .nil q1))⟩
theorem pe_bm (pa : PlainAttrs T) (slot : Slot T name id) (hty : typeOf (.builtin id) = pure (.type "method_descriptor")) (hm : MtR X id r) (ho : PE X o to) (ha : PA X (e :: es) t)
  (hbase : attributeBase o name X.env (eval o X.env) = eval o X.env := by rfl)
  (hfew : ((backTo cpos (starEach (e :: es) X.env)).all (fun x => !x.1) && (backToKw cpos (keywordEach [] X.env)).all (fun x => x.1.isSome)
   && decide ((e :: es).length + ([] : List Keyword).length + (if ([] : List Keyword).isEmpty then 0 else 1) < 30)) = true := by rfl)
  (hline : (apos.endLine == cpos.line) = true := by rfl) (hs : starEach (e :: es) X.env = (false,eval e X.env) :: starEach es X.env := by rfl) (hplain : (backTo cpos (starEach es X.env)).any (·.1) = false := by rfl) :
  PE X (.Call (.Attribute o name apos) (e :: es) [] cpos) (tBM X.K T r to t) := by
 intro pins s σ H Q I h
 refine wpAny_Call_method_late hbase hfew hline rfl (thn (ho pins s σ H _ I h) fun v s1 ⟨x,H1,I1,r1,ty,q1⟩ => ?_)
 obtain ⟨h1,h2⟩ := tyV_is I1 r1 ty
 refine ⟨T,id,pa,slot,hty,h1,h2,?_⟩
 have hA := ha cpos pins s1 σ H1 _ I1 q1
 rw [hs] at hA ⊢
 refine Calls.callWith_builtin (by show (false || (backTo cpos (starEach es X.env)).any (·.1)) = false; rw [hplain] <;> rfl) (Calls.evalArgs_plain ?_)
 exact thn hA fun us s2 ⟨vs,H2,I2,r2,q2⟩ => hm pins s2 σ H2 x vs v us Q I2 r1 r2 q2
/- xs.append(e),list.index on a module's tuple .. are MtR facts of 06m -/
end
end L2
namespace L2
open PySem PySem.Spec PyProof.Rows
def MtM (X : Cx) (id : String) (r : V → List V → Hp → VK → Prop) : Prop :=
 ∀ (pins : List (Addr × Obj)) (s : Shared) (σ : St) (H : Hp) (x : V) (xs : List V) (v : Value) (us : List Value) (Q : VK),Inv X pins σ H s → RelV x v → Vals xs us → r x xs H Q →
  wpAny (model X.prog X.w) X.A (call (.builtin id) (v :: us)) (EP X pins σ Q) X.xe s
theorem Vals.one {x : V} {us : List Value} (h : Vals [x] us) : ∃ u,us = [u] ∧ RelV x u := by
 cases h with | cons r t => cases t; exact ⟨_,rfl,r⟩
theorem Vals.two {x y : V} {us : List Value} (h : Vals [x,y] us) : ∃ u v,us = [u,v] ∧ RelV x u ∧ RelV y v := by
 cases h with | cons r t => obtain ⟨v,rfl,q⟩ := Vals.one t; exact ⟨_,_,rfl,r,q⟩
theorem Vals.zero : ∀ {us : List Value},Vals [] us → us = []
 | _,.nil => rfl
theorem Vals.dropLast {xs : List V} {us : List Value} (h : Vals xs us) : Vals xs.dropLast us.dropLast := by
 induction h with
 | nil => exact .nil
 | cons r t ih =>
  cases t with
  | nil => exact .nil
  | cons q t' => exact .cons r ih
theorem Vals.eraseIdx : ∀ {xs : List V} {us : List Value} (i : Nat),Vals xs us → Vals (xs.eraseIdx i) (us.eraseIdx i)
 | _,_,_,.nil => .nil
 | _,_,0,.cons _ t => t
 | _,_,i + 1,.cons r t => .cons r (Vals.eraseIdx i t)
theorem erase_last {α : Type} (l : List α) : l.eraseIdx (l.length - 1) = l.dropLast := by
 induction l with
 | nil => rfl
 | cons a r ih =>
  cases r with
  | nil => rfl
  | cons b r =>
   have e : (a :: b :: r).length - 1 = ((b :: r).length - 1) + 1 := by
    have h1 : (a :: b :: r).length = r.length + 2 := rfl
    have h2 : (b :: r).length = r.length + 1 := rfl
    omega
   rw [e,List.eraseIdx_cons_succ,ih]
   all_goals rfl
section
variable {X : Cx} {pins : List (Addr × Obj)} {σ : St} {H : Hp} {s : Shared} {l b : Addr} {xs ys zs : List V}
theorem Inv.lset {its its' : List Value} {n : Nat} {f : Array Value → Array Value} {t' : Nat} (I : Inv X pins σ H s) (hH : H l = some (.lst xs))
  (e : s.heap.get? l = some { cls := .type "list",data := .seq its.toArray n }) (hf : f its.toArray = its'.toArray) (hv : Vals ys its') (hz : ys.length ≤ sizeLine) :
  Inv X pins σ (upd H l (.lst ys)) { s with heap := s.heap.update l (Obj.mapSeq f),toks := t' } := by
 have q := PySem.IsL.update e f
 rw [hf] at q
 refine I.write (x := l) (e := l) (by rw [hH]; exact trivial) (.inl rfl) (fun b' u hb hu => (Heap.get?_update_other s.heap (Obj.mapSeq f) (Ne.symm hb)).trans hu) ⟨_,q⟩ ?_
 exact ⟨hz,its',_,hv,q⟩
theorem Inv.lnew {its : List Value} {t' : Nat} (I : Inv X pins σ H s) (hv : Vals ys its) (hz : ys.length ≤ sizeLine) :
  Inv X pins σ (upd H s.heap.objs.size (.lst ys)) { s with heap := s.heap.push { cls := .type "list",data := .seq its.toArray },toks := t' } :=
 I.laid (fun _ _ q => Heap.get?_push_of_some _ q) (Nat.le_refl _) ⟨hz,its,0,hv,Heap.get?_push_size _ rfl⟩
theorem Inv.fresh (I : Inv X pins σ H s) : H s.heap.objs.size = none := I.hok.fresh (Nat.le_refl _)
theorem Inv.lstM (I : Inv X pins σ H s) (hH : H l = some (.lst xs)) : xs.length ≤ sizeLine ∧ ∃ (its : List Value) (n : Nat),Vals xs its ∧ xs.length = its.length ∧ s.heap.get? l = some { cls := .type "list",data := .seq its.toArray n } := by
 obtain ⟨z,its,n,r,e⟩ := I.hok l _ hH
 exact ⟨z,its,n,r,r.length,e⟩
end
section
variable {X : Cx}
def rAppend : V → List V → Hp → VK → Prop := fun x vs H Q => ∃ l xs y,x = .ref l ∧ vs = [y] ∧ H l = some (.lst xs) ∧ xs.length < sizeLine ∧ Q .non (upd H l (.lst (xs ++ [y])))
theorem mt_append : MtM X "list.append" rAppend := by
 intro pins s σ H x vs v us Q I rx rv h
 obtain ⟨l,xs,y,rfl,rfl,hH,hz,q⟩ := h
 cases rx
 obtain ⟨u,rfl,ru⟩ := rv.one
 obtain ⟨z,its,n,r,hl,e⟩ := I.lstM hH
 refine call_meets F.slot_list_append ⟨_,e,rfl⟩ F.entry_list_append (F.args_list_append_2 _ _) (PySem.list_append l its.toArray n u (by rw [List.size_toArray]; omega)) ⟨e,?_⟩
 refine ⟨.non,_,I.lset (its' := its ++ [u]) hH e (by simp) (r.append (.cons ru .nil)) ?_,rfl,q⟩
 rw [List.length_append,List.length_singleton]
 omega
def rPop : V → List V → Hp → VK → Prop := fun x vs H Q => ∃ l xs y,x = .ref l ∧ vs = [] ∧ H l = some (.lst xs) ∧ xs[xs.length - 1]? = some y ∧ Q y (upd H l (.lst xs.dropLast))
theorem mt_pop : MtM X "list.pop" rPop := by
 intro pins s σ H x vs v us Q I rx rv h
 obtain ⟨l,xs,y,rfl,rfl,hH,hy,q⟩ := h
 cases rx
 have hus := rv.zero
 subst hus
 obtain ⟨z,its,n,r,hl,e⟩ := I.lstM hH
 obtain ⟨u,hu,ru⟩ := r.get hy
 have hy' : its.toArray[its.toArray.size - 1]? = some u := by
  show its.toArray[its.length - 1]? = some u
  rw [← Array.getElem?_toList,← hl]
  exact hu
 refine call_meets F.slot_list_pop ⟨_,e,rfl⟩ F.entry_list_pop (F.args_list_pop_1 _) (MeetsSeq.list_pop_last l its.toArray n u hy' (by rw [List.size_toArray]; omega)) ⟨e,?_⟩
 refine ⟨y,_,I.lset (its' := its.dropLast) hH e ?_ r.dropLast ?_,ru,q⟩
 ·show its.toArray.eraseIdxIfInBounds (its.toArray.size - 1) = its.dropLast.toArray
  rw [List.size_toArray,List.eraseIdxIfInBounds_toArray,erase_last]
 ·rw [List.length_dropLast]
  omega
def rCat : R2 := fun x y H Q => ∃ l b xs zs,x = .ref l ∧ y = .ref b ∧ H l = some (.lst xs) ∧ H b = some (.lst zs) ∧ xs.length + zs.length ≤ sizeLine ∧ ∀ p,H p = none → Q (.ref p) (upd H p (.lst (xs ++ zs)))
theorem op_cat : OpR X (binaryOp .Add) rCat := by
 intro pins s σ H x y v u Q I rx ry h
 obtain ⟨l,b,xs,zs,rfl,rfl,hH,hB,hz,q⟩ := h
 cases rx
 cases ry
 obtain ⟨z,its,n,r,hl,e⟩ := I.lstM hH
 obtain ⟨z2,its2,n2,r2,hl2,e2⟩ := I.lstM hB
 refine PySem.P.add_list e e2 ?_ (by rw [List.size_toArray,List.size_toArray]; omega)
 have ea : its.toArray ++ its2.toArray = (its ++ its2).toArray := by simp
 rw [ea]
 exact ⟨.ref _,_,I.lnew (t' := s.toks) (r.append r2) (by rw [List.length_append]; omega),rfl,q _ I.fresh⟩
end
section
variable {prog : Program} {w : World} {A : Around} {E : Value → Shared → Prop} {s : Shared}
set_option maxRecDepth 100000 in
end
section
variable {X : Cx}
end
end L2
namespace L2
open PySem PySem.Spec PyProof.Rows
section
variable {κ : Type} [DecidableEq κ]
def valV (kvs : List (κ × V)) (k : κ) : Option V := (kvs.find? fun kv => decide (kv.1 = k)).map (·.2)
def putK (kvs : List (κ × V)) (k : κ) (v : V) : List (κ × V) :=
 if (kvs.any fun kv => decide (kv.1 = k)) = true then kvs.map (fun kv => if kv.1 = k then (kv.1,v) else kv) else kvs ++ [(k,v)]
def dropK (kvs : List (κ × V)) (k : κ) : List (κ × V) := kvs.filter fun kv => decide (kv.1 ≠ k)
theorem valV_pos {p : κ × V} {r : List (κ × V)} {k : κ} (e : p.1 = k) : valV (p :: r) k = some p.2 := by simp [valV,List.find?_cons,e]
theorem valV_neg {p : κ × V} {r : List (κ × V)} {k : κ} (e : ¬ p.1 = k) : valV (p :: r) k = valV r k := by simp [valV,List.find?_cons,e]
theorem valV_any (k : κ) : ∀ kvs : List (κ × V),(kvs.any fun kv => decide (kv.1 = k)) = (valV kvs k).isSome
 | [] => rfl
 | p :: r => by
  rw [List.any_cons]
  by_cases e : p.1 = k
  ·simp only [valV_pos e,decide_eq_true e,Bool.true_or,Option.isSome_some]
  ·rw [valV_neg e,decide_eq_false e,Bool.false_or]; exact valV_any k r
theorem RelO.isSome_eq {o : Option V} {u : Option Value} (r : RelO o u) : o.isSome = u.isSome := by
 cases o with
 | none => cases u with
  | none => rfl
  | some _ => exact (show False from r).elim
 | some _ => cases u with
  | none => exact (show False from r).elim
  | some _ => rfl
theorem KV.val {kvs : List (κ × V)} {vs : List (κ × Value)} (r : KV kvs vs) (k : κ) : RelO (valV kvs k) (valueAt vs k) := by
 unfold KV at r
 induction r with
 | nil => exact True.intro
 | @cons p q ps qs h t ih =>
  obtain ⟨h1,h2⟩ := h
  by_cases e : p.1 = k
  ·have e' : q.1 = k := h1.symm.trans e
   have b : valueAt (q :: qs) k = some q.2 := by simp [valueAt,List.find?_cons,e']
   rw [valV_pos e,b]; exact h2
  ·have e' : ¬ q.1 = k := fun z => e (h1.trans z)
   have b : valueAt (q :: qs) k = valueAt qs k := by simp [valueAt,List.find?_cons,e']
   rw [valV_neg e,b]; exact ih
theorem KV.any {kvs : List (κ × V)} {vs : List (κ × Value)} (r : KV kvs vs) (k : κ) : (kvs.any fun kv => decide (kv.1 = k)) = vs.any fun kv => decide (kv.1 = k) := by
 unfold KV at r
 induction r with
 | nil => rfl
 | cons h t ih => rw [List.any_cons,List.any_cons,ih,h.1]
theorem KV.repl {kvs : List (κ × V)} {vs : List (κ × Value)} (r : KV kvs vs) (k : κ) {y : V} {u : Value} (ry : RelV y u) :
  KV (kvs.map fun kv => if kv.1 = k then (kv.1,y) else kv) (vs.map fun kv => if kv.1 = k then (kv.1,u) else kv) := by
 unfold KV at r ⊢
 induction r with
 | nil => exact .nil
 | @cons p q ps qs h t ih =>
  rw [List.map_cons,List.map_cons]
  refine .cons ?_ ih
  obtain ⟨h1,h2⟩ := h
  by_cases e : p.1 = k
  ·rw [if_pos e,if_pos (h1.symm.trans e)]; exact ⟨h1,ry⟩
  ·rw [if_neg e,if_neg (fun z => e (h1.trans z))]; exact ⟨h1,h2⟩
theorem KV.put {kvs : List (κ × V)} {vs : List (κ × Value)} (r : KV kvs vs) (k : κ) {y : V} {u : Value} (ry : RelV y u) : KV (putK kvs k y) (stored vs k u) := by
 unfold putK stored
 rw [r.any k]
 by_cases e : (vs.any fun kv => decide (kv.1 = k)) = true
 ·rw [if_pos e,if_pos e]; exact r.repl k ry
 ·rw [if_neg e,if_neg e]; exact Paired.snoc r ⟨rfl,ry⟩
theorem KV.length {kvs : List (κ × V)} {vs : List (κ × Value)} (r : KV kvs vs) : kvs.length = vs.length := Paired.length r
end
abbrev KT (H : Hp) : List (List Key × V) → List (List Key × Addr × Value) → Prop := Paired fun p q => p.1 = q.1 ∧ H q.2.1 = some (.tup (p.1.map kV)) ∧ RelV p.2 q.2.2
theorem KT.val {H : Hp} {kvs : List (List Key × V)} {xs : List (List Key × Addr × Value)} (r : KT H kvs xs) (k : List Key) : RelO (valV kvs k) ((atKey xs k).map (·.2)) := by
 induction r with
 | nil => exact True.intro
 | @cons p q ps qs h t ih =>
  obtain ⟨h1,_,h2⟩ := h
  by_cases e : p.1 = k
  ·have e' : q.1 = k := h1.symm.trans e
   have b : atKey (q :: qs) k = some q.2 := by simp [atKey,List.find?_cons,e']
   rw [valV_pos e,b]; exact h2
  ·have e' : ¬ q.1 = k := fun z => e (h1.trans z)
   have b : atKey (q :: qs) k = atKey qs k := by simp [atKey,List.find?_cons,e']
   rw [valV_neg e,b]; exact ih
theorem KT.repl {H : Hp} {kvs : List (List Key × V)} {xs : List (List Key × Addr × Value)} (r : KT H kvs xs) (k : List Key) {y : V} {u : Value} (ry : RelV y u) :
  KT H (kvs.map fun kv => if kv.1 = k then (kv.1,y) else kv) (xs.map (putAt k u)) := by
 induction r with
 | nil => exact .nil
 | @cons p q ps qs h t ih =>
  rw [List.map_cons,List.map_cons]
  refine .cons ?_ ih
  obtain ⟨h1,h2,h3⟩ := h
  unfold putAt
  by_cases e : p.1 = k
  ·rw [if_pos e,if_pos (h1.symm.trans e)]; exact ⟨h1,h2,ry⟩
  ·rw [if_neg e,if_neg (fun z => e (h1.trans z))]; exact ⟨h1,h2,h3⟩
theorem KT.put {H : Hp} {kvs : List (List Key × V)} {xs : List (List Key × Addr × Value)} (r : KT H kvs xs) (k : List Key) {b : Addr} {y : V} {u : Value} (hb : H b = some (.tup (k.map kV))) (ry : RelV y u) :
  KT H (putK kvs k y) (storedH xs k b u) := by
 have e : (kvs.any fun kv => decide (kv.1 = k)) = (atKey xs k).isSome := by
  rw [valV_any,(r.val k).isSome_eq,Option.isSome_map]
 unfold putK storedH
 rw [e]
 by_cases q : (atKey xs k).isSome = true
 ·rw [if_pos q,if_pos q]; exact r.repl k ry
 ·rw [if_neg q,if_neg q]; exact Paired.snoc r ⟨rfl,hb,ry⟩
theorem KT.keeps {H H' : Hp} {kvs : List (List Key × V)} {xs : List (List Key × Addr × Value)} (r : KT H kvs xs) (ht : ∀ b ys,H b = some (.tup ys) → H' b = some (.tup ys)) : KT H' kvs xs :=
 Paired.mapP r fun _ _ z => ⟨z.1,ht _ _ z.2.1,z.2.2⟩
section
variable {P : Program} {w : World} {H : Hp} {h : Heap} {a : Addr}
end
def DGet (H : Hp) (a : Addr) (y : V) (r : Option V) : Prop :=
 (∃ kvs k,Rd H a (.dK kvs) ∧ y = kV k ∧ r = valV kvs k) ∨ ∃ kvs k b,Rd H a (.dT kvs) ∧ y = .ref b ∧ H b = some (.tup (k.map kV)) ∧ r = valV kvs k
def DPut (H : Hp) (a : Addr) (y v : V) (H' : Hp) : Prop :=
 (∃ kvs k,H a = some (.dK kvs) ∧ y = kV k ∧ kvs.length < sizeLine ∧ H' = upd H a (.dK (putK kvs k v))) ∨
 ∃ kvs k b,H a = some (.dT kvs) ∧ y = .ref b ∧ H b = some (.tup (k.map kV)) ∧ kvs.length < sizeLine ∧ H' = upd H a (.dT (putK kvs k v))
theorem DGet.k {H : Hp} {a : Addr} {kvs : List (Key × V)} {k : Key} (e : H a = some (.dK kvs)) : DGet H a (kV k) (valV kvs k) := .inl ⟨kvs,k,.inl e,rfl,rfl⟩
theorem DGet.t {H : Hp} {a b : Addr} {kvs : List (List Key × V)} {k : List Key} (e : H a = some (.dT kvs)) (eb : H b = some (.tup (k.map kV))) : DGet H a (.ref b) (valV kvs k) := .inr ⟨kvs,k,b,.inl e,rfl,eb,rfl⟩
theorem DPut.k {H : Hp} {a : Addr} {kvs : List (Key × V)} {k : Key} {v : V} (e : H a = some (.dK kvs)) (hl : kvs.length < sizeLine) : DPut H a (kV k) v (upd H a (.dK (putK kvs k v))) := .inl ⟨kvs,k,e,rfl,hl,rfl⟩
theorem DPut.t {H : Hp} {a b : Addr} {kvs : List (List Key × V)} {k : List Key} {v : V} (e : H a = some (.dT kvs)) (eb : H b = some (.tup (k.map kV))) (hl : kvs.length < sizeLine) :
  DPut H a (.ref b) v (upd H a (.dT (putK kvs k v))) := .inr ⟨kvs,k,b,e,rfl,eb,hl,rfl⟩
section
variable {X : Cx} {pins : List (Addr × Obj)} {σ : St} {H : Hp} {s : Shared} {a : Addr} {y v : V} {u r : Value} {o : Option V} {A : Around} {E : Value → Shared → Prop}
end
section
variable {X : Cx} {pins : List (Addr × Obj)} {σ : St} {H : Hp} {s : Shared} {a : Addr} {kvs : List (Key × V)} {k : Key} {u : Value} {A : Around} {E : Value → Shared → Prop}
end
section
variable {X : Cx} {o i e value : Expr} {pos pos' tpos : Pos} {td ty tv : TE}
end
section
variable {X : Cx} {pos : Pos}
end
def IsD (H : Hp) (a : Addr) : Prop := (∃ kvs,Rd H a (.dK kvs)) ∨ ∃ kvs,Rd H a (.dT kvs)
section
variable {X : Cx} {pins : List (Addr × Obj)} {σ : St} {H : Hp} {s : Shared} {a : Addr} {y d : V} {u r : Value} {o : Option V} {A : Around} {E : Value → Shared → Prop}
end
section
variable {X : Cx} {o e f : Expr} {apos cpos : Pos} {td ty tx : TE}
end
section
variable {X : Cx} {pins : List (Addr × Obj)} {σ : St} {H : Hp} {s : Shared} {a : Addr} {kvs : List (Key × V)} {A : Around} {E : Value → Shared → Prop}
end
section
variable {X : Cx} {pins : List (Addr × Obj)} {σ : St} {H : Hp} {s : Shared} {a : Addr} {y : V} {u : Value} {A : Around} {E : Value → Shared → Prop}
end
end L2
namespace Att
open PySem PySem.W PySem.Calls PyProof.Rows
theorem ints_of_wellAll {P : Params} {h : Heap} : ∀ (ns : List Int) (vs : List Value),WellAll P h vs (ns.map WData.int) → IntsAre vs ns := by
 intro ns
 induction ns with
 | nil =>
  intro vs w
  rw [List.map_nil] at w
  cases w
  exact .nil
 | cons n ns ih =>
  intro vs w
  rw [List.map_cons] at w
  cases w with
  | cons a b =>
   cases a
   exact .cons _ _ (ih _ b)
theorem script_of {l : OpenLaw} {n : Nat} (hn : l.most = some n) {P : Params} {h : Heap} {args : List WData} {vals : List Value}
  (hpre : l.row.toRowW.claim.pre args = true) (hwl : WellAll P h vals args) :
  ∃ a vs ns,vals = [Value.ref a] ∧ args = [WData.list (ns.map WData.int)] ∧ h.get? a = some { cls := .type "list",data := .seq vs.toArray } ∧ IntsAre vs ns ∧ ns.length ≤ n := by
 have hsh : WShape.hasAll [] args [.list .int] = true := (pre_splitW hpre).1
 have hc : l.pre.holds [] { args := args } = true := (pre_splitW hpre).2
 obtain ⟨d,r,rfl,h1,h2⟩ := hasAllW_cons hsh
 obtain rfl := hasAllW_nil h2
 obtain ⟨xs,rfl,h3⟩ := hasW_list h1
 obtain ⟨ns,rfl⟩ := items_int h3
 have hlen : ns.length ≤ n := by
  unfold OpenLaw.pre at hc
  have h4 : (WTm.not (.lt (.lit (.int (n : Int))) (.len (.arg 0)))).holds [] { args := [.list (ns.map .int)] } = true := by
   have h4 := (holds_andW hc).1
   rw [hn] at h4
   exact h4
  have h5 := condW_of h4 (w_not (w_lt w_lit (w_len_list (w_arg rfl))))
  rw [List.length_map] at h5
  refine Nat.le_of_not_lt fun q => ?_
  have q' : (n : Int) < ((ns.length : Nat) : Int) := by omega
  first
   | (rw [decide_eq_true q'] at h5; exact absurd h5 (by decide))
   | (simp at h5; omega)
 cases hwl with
 | cons w1 w2 =>
  cases w2
  cases w1 with
  | list ho hall => exact ⟨_,_,ns,rfl,rfl,ho,ints_of_wellAll ns _ hall,hlen⟩
theorem post_true (l : OpenLaw) (args : List WData) : l.row.toRowW.claim.post args (.bool true) args = true :=
 postW_of (r := l.row.toRowW) (X := (true == true))
  (show WShape.has [] (.bool true) .bool = true by first | rfl | decide | simp [WShape.has,WShape.arms,WShape.armsAll])
  (show (WTm.eq .res (.lit (.bool true))).value [] { args := args,res := some (.bool true),after := args } = some (.bool (true == true)) from w_eq_bool (w_res rfl) w_lit) rfl
theorem attach_call {l : OpenLaw} {n : Nat} {q : Program} {loose : List Str} {XP : (Str → Option Value) → Heap → Prop} {YP : World → Heap → Prop} {d : DefRec}
  (hn : l.most = some n) (hdf : d.params.defaults = [])
  (call : ∀ (w : World) (s₀ s₁ : Shared) (mg mb : Str → Option Value) (fa : Addr) (o : Obj) (pm cd doc : Value) (a : Addr) (vs : List Value) (ns : List Int),
   Ground q loose [] XP w s₀ mg mb s₁.heap → YP w s₁.heap →
   s₁.heap.get? fa = some o → o.data = .func (docDef d.name d.params d.body d.scope pm cd doc) → s₁.heap.CodeRec cd d.name → mg d.name = some (.ref fa) →
   s₁.heap.get? a = some { cls := .type "list",data := .seq vs.toArray } → IntsAre vs ns → ns.length ≤ n → s₁.gens = #[] →
   codeAny (model l.prog w) callerA (.call (.ref fa) ⟨[.ref a],[]⟩) (fun r s' => r = .ok (.ret (.bool true)) ∧ OldK s₁.heap s'.heap ∧ s'.os = s₁.os ∧ AllBare s'.gens) s₁) :
  WalkO q loose XP YP l.row.toRowW d [] (fun f vs => PySem.call f vs) := by
 intro w s₀ s₁ mg mb G Y fa o pm cd doc dV kV ho hd hcd hD hmg hg args vals as hpre hlay hrd hwl hlo
 obtain rfl : dV = .none := Dflts.none hD hdf
 obtain rfl : kV = .none := Dflts.noKw hD
 obtain ⟨a,vs,ns,rfl,rfl,hobj,hints,hlen⟩ := script_of hn hpre hwl
 refine enter_call (codeAny_mono (call w s₀ s₁ mg mb fa o pm cd doc a vs ns G Y ho (fd_plain hd) hcd hmg hobj hints hlen hg) fun r s' hq => ?_)
 obtain ⟨rfl,h2,h3,h4⟩ := hq
 exact ⟨.inl ⟨.bool true,.bool true,[],rfl,fun _ => rfl,.bool true,post_true l _,fun _ => ⟨List.Pairwise.nil,fun _ hm => (nomatch hm)⟩⟩,h2,h3,h4⟩
section
variable {prog : Program} {w : World} {A : Around} {E : Value → Shared → Prop} {s : Shared} {K : Frag}
def ledger (h : Heap) (L d : Addr) : List (Addr × Obj) := (List.range h.objs.size).filterMap fun a => if a = L ∨ a = d then none else (h.get? a).map fun o => (a,o)
end
end Att
namespace L2
open PySem PySem.Spec PyProof.Rows
theorem vals_ints : ∀ {vs : List Value} {ns : List Int},IntsAre vs ns → Vals (ns.map V.int) vs
 | _,_,.nil => .nil
 | _,_,.cons n t h => .cons ⟨t,rfl⟩ (vals_ints h)
def Only (H : Hp) : Prop := ∀ b,H b = none ∨ ∃ o xs,H b = some (.frz o (.lst xs))
theorem law_call {P : Program} {w : World} {K : PySem.W.Frag} {mg mb : Str → Option Value} {CX : CXT} {k : Nat} {fa a : Addr} {fd : FuncData} {x : Str} {sp : Sp} {s₁ : Shared} {vs : List Value} {ns : List Int}
  (KX : K.In s₁.heap) (hns : s₁.heap.Ns mainGlobals mg) (hb : s₁.heap.Ns builtinsNs mb) (hbb : ∀ x : Str,x ≠ "__name__" → mb x = bootBuiltins x) (hlim : s₁.heap.NoLimit) (hg : s₁.gens = #[])
  (ha : s₁.heap.get? a = some { cls := .type "list",data := .seq vs.toArray }) (hi : IntsAre vs ns) (hl : ns.length ≤ sizeLine) (hr : Room k callerA)
  (F : ∀ base : Heap,K.In base → base.Ns mainGlobals mg → FnOk P w K mg base CX k fa fd [x] sp) (hbind : ∀ (s : Shared) (u : Value),BindsTo s fd ⟨[u],[]⟩ [(x,u)])
  (hsp : ∀ H : Hp,Only H → SqL K H a (ns.map V.int) → sp [.ref a] H (fun v _ => v = .bl true) fun _ _ _ => False)
  (hCX : ∀ H e s',CX [] H s₁ (fun _ _ _ => False) e s' → False) :
  codeAny (model P w) callerA (.call (.ref fa) ⟨[.ref a],[]⟩) (fun r s' => r = .ok (.ret (.bool true)) ∧ OldK s₁.heap s'.heap ∧ s'.os = s₁.os ∧ AllBare s'.gens) s₁ := by
 have rv := vals_ints hi
 have lenV := hi.length
 have core : ∀ H : Hp,Only H → SqL K H a (ns.map V.int) → HOk P w H s₁.heap → (∀ b,H b ≠ none → b = a) → (H a ≠ none → K.lookup a = none) →
   codeAny (model P w) callerA (.call (.ref fa) ⟨[.ref a],[]⟩) (fun r s' => r = .ok (.ret (.bool true)) ∧ OldK s₁.heap s'.heap ∧ s'.os = s₁.os ∧ AllBare s'.gens) s₁ := by
  intro H hO hS hok hA hK
  have base_of : ∀ {b : Addr} {o : Obj},s₁.heap.get? b = some o → H b = none → (hidT s₁.heap H).get? b = some o := fun e n => hidT_get e n
  have noA : ∀ {b : Addr} {o : Obj} {es : Array DictEntry} {ep : Nat},s₁.heap.get? b = some o → o.data = .dict es ep → H b = none := fun {b o es ep} e d => by
   cases q : H b with
   | none => rfl
   | some u =>
    have e' : b = a := hA b (by rw [q]; simp)
    subst e'
    rw [ha] at e; cases e
    have d' : Data.seq vs.toArray _ = Data.dict es ep := d
    cases d'
  have nsK : ∀ {b : Addr} {m : Str → Option Value},s₁.heap.Ns b m → (hidT s₁.heap H).Ns b m := fun {b m} ⟨o,es,ep,e,d,r⟩ => ⟨o,es,ep,base_of e (noA e d),d,r⟩
  have hKb : K.In (hidT s₁.heap H) := fun b o e => base_of (KX b o e) (by
   cases q : H b with
   | none => rfl
   | some u =>
    have e' : b = a := hA b (by rw [q]; simp)
    subst e'
    rw [hK (by rw [q]; simp)] at e; cases e)
  have hM : Mod K mg (hidT s₁.heap H) := ⟨hKb,nsK hns,⟨mb,nsK hb,hbb⟩,let ⟨mc,h1,h2⟩ := hlim; ⟨mc,nsK h1,h2⟩⟩
  have e0 : Env0 P w K mg (hidT s₁.heap H) callerA [] s₁ H := ⟨rfl,hM,fun b o e => of_hidT e,Nat.le_of_eq (hidT_size _ _),trivial,fun b hb => absurd (show b ∈ ([] : List Addr) from hb) (by simp),hok,.of_eq hg⟩
  refine codeAny_mono ((F _ hKb (nsK hns)).run callerA [] s₁ H ⟨[.ref a],[]⟩ [.ref a] [.ref a] _ _ hr e0 (hbind s₁ (.ref a)) (.cons rfl .nil) (hsp H hO hS)) fun r s' h => ?_
  cases r with
  | error e => exact (hCX H e s' h).elim
  | ok fl =>
   cases fl with
   | next => exact False.elim h
   | brk => exact False.elim h
   | cont => exact False.elim h
   | ret u =>
    obtain ⟨v,H',os,bare,un,hok',r',q⟩ := h
    have q' : v = .bl true := q
    subst q'
    obtain rfl : u = Value.bool true := r'
    refine ⟨rfl,OldK.of_keep fun b o e => ?_,os,bare⟩
    cases q : H b with
    | none => exact un.keep b o e q (by intro z; exact absurd (show b ∈ ([] : List Addr) from z) (by simp)) (by simp)
    | some u =>
     rcases hO b with z | ⟨ob,xs,z⟩
     ·rw [q] at z; cases z
     ·have z2 := un.frzs b ob _ z
      obtain ⟨e1,_⟩ := hok b _ z
      obtain ⟨e2,_⟩ := hok' b _ z2
      rw [e] at e1; cases e1
      exact e2
 cases hk : K.lookup a with
 | some o =>
  have e := KX a o hk
  rw [ha] at e
  cases e
  refine core (fun _ => none) (fun _ => .inl rfl) (.inr ⟨_,vs.toArray,_,hk,rfl,rfl,rfl,by rw [List.size_toArray,lenV]; exact hl,by simpa using rv⟩) (fun b u z => by have z' : (none : Option HO) = some u := z; cases z') (fun b z => absurd rfl z) fun z => absurd rfl z
 | none =>
  refine core (fun b => if b = a then some (.frz { cls := .type "list",data := .seq vs.toArray } (.lst (ns.map V.int))) else none) (fun b => ?_) (.inl (.inr ⟨{ cls := .type "list",data := .seq vs.toArray },if_pos rfl⟩)) (fun b u z => ?_) (fun b z => ?_) fun _ => hk
  ·by_cases hb : b = a
   ·exact .inr ⟨_,_,if_pos hb⟩
   ·exact .inl (if_neg hb)
  ·by_cases hb : b = a
   ·have z' := (if_pos hb).symm.trans z
    cases z'
    subst hb
    exact ⟨ha,by rw [List.length_map]; exact hl,vs,_,rv,ha⟩
   ·have z' := (if_neg hb).symm.trans z
    cases z'
  ·by_cases hb : b = a
   ·exact hb
   ·exact absurd (if_neg hb) z
end L2
namespace L2
open PySem PySem.Spec PyProof.Rows
abbrev KOf {K : PySem.W.Frag} {h : Heap} (_ : K.In h) : PySem.W.Frag := K
theorem walk_of {l : PySem.W.OpenLaw} {n k : Nat} {q : Program} {loose : List Str} {XP : (Str → Option Value) → Heap → Prop} {YP : World → Heap → Prop} {d : DefRec} {K : Params → PySem.W.Frag} {CX : World → CXT} {sp : World → Sp} {x : Str}
  (hn : l.most = some n) (hn2 : n ≤ sizeLine) (hdf : d.params.defaults = []) (hr : Room k callerA)
  (hY : ∀ (w : World) (h : Heap),YP w h → (K w.params).In h)
  (F : ∀ (w : World) (mg : Str → Option Value) (fa : Addr) (h : Heap),(K w.params).In h → h.Ns mainGlobals mg → mg d.name = some (.ref fa) →
   ∃ fd : FuncData,(∀ (s : Shared) (u : Value),BindsTo s fd ⟨[u],[]⟩ [(x,u)]) ∧
    ∀ base : Heap,(K w.params).In base → base.Ns mainGlobals mg → FnOk l.prog w (K w.params) mg base (CX w) k fa fd [x] (sp w))
  (hsp : ∀ (w : World) (H : Hp) (a : Addr) (ns : List Int),ns.length ≤ n → Only H → SqL (K w.params) H a (ns.map V.int) → sp w [.ref a] H (fun v _ => v = .bl true) fun _ _ _ => False)
  (hCX : ∀ (w : World) (H : Hp) (s : Shared) (e : Value) (s' : Shared),CX w [] H s (fun _ _ _ => False) e s' → False) :
  PySem.W.WalkO q loose XP YP l.row.toRowW d [] (fun f vs => PySem.call f vs) := by
 refine Att.attach_call hn hdf fun w s₀ s₁ mg mb fa o pm cd doc a vs ns G Y ho hd hcd hmg hobj hints hlen hg => ?_
 have KX := hY w _ Y
 obtain ⟨fd,hb,hF⟩ := F w mg fa _ KX G.T.g hmg
 exact law_call KX G.T.g G.T.b G.T.builtins G.T.nolimit hg hobj hints (Nat.le_trans hlen hn2) hr hF hb (fun H hO hS => hsp w H a ns hlen hO hS) fun H e s' => hCX w H s₁ e s'
end L2
/- THE LAST THEOREM (shape; LID,My.* are yours):
  My.Adr: a structure of the addresses that your layer names (classes,functions); My.Txt K t: a structure (Prop) of the equations over K;
  My.txt_mk : {K} {implicit addresses ..} (e1 : nsIn K mainGlobals "law" = some (some (.ref f))) (e2 : K.lookup f = some ⟨oc,od,.func (fnOf "law" "law" params body scope dV kV doc pm an cdv ct),sl⟩) (e3 : codeIn K cdv "law" = true) .. : ∃ t,My.Txt K t
set_option maxRecDepth 100000 in
set_option maxHeartbeats 0 in
theorem PySem.Challenge.cw_LID_holds : PySem.Challenge.rw_LID.Holds := by
 w_on; o_law; k_head; (case hw => w_witness2)
 k_fill
 refine L2.walk_of (l := PySem.Challenge.rw_LID) (n := 63) (k := 40) (x := "script") (CX := fun w => ..) (sp := fun _ => My.sp_law) rfl (by decide) rfl ⟨rfl,by decide,by decide⟩ (fun w h Y => PySem.W.kIn_of Y) ?F ?S ?C
 case F =>
  intro w mg fa h KX G hmg
  have T : ∃ t,My.Txt (L2.KOf KX) t := by
   dsimp only [L2.KOf]                          -- K must stand as «<heap const> w.params» for k_is
   refine' My.txt_mk ?e1 ?e2 ?e3 ..
   (case e1 => PySem.W.k_is)                    -- in the order: a name -> its address -> its object -> its parts
   (case e2 => PySem.W.k_is)
   ..
  obtain ⟨t,T⟩ := T
  have e0 := hmg.symm.trans (PySem.W.mg_of KX G T.law)
  cases e0                                       -- fa is the law's own address
  exact ⟨_,fun s u => .of_eq rfl,fun base kb nb => My.law_fn T kb nb⟩     -- if «.of_eq rfl» comes too early: refine' ⟨_,?b,fun base kb nb => My.law_fn T kb nb⟩; exact fun s u => .of_eq rfl
 case S => exact fun w H a ns hl hO hS => ..
 case C => exact ..
(the tactic k_is has no namespace: write k_is) -/
namespace L2
open PySem PySem.Spec PyProof.Rows
def defArgs (s : Stmt) : Arguments := match s with
 | .FunctionDef _ a _ _ _ _ _ _ _ _ => a
 | _ => { posonlyargs := [],args := [],vararg := none,kwonlyargs := [],kw_defaults := [],kwarg := none,defaults := [] }
def defBody (s : Stmt) : List Stmt := match s with
 | .FunctionDef _ _ b _ _ _ _ _ _ _ => b
 | _ => []
def defScope (s : Stmt) : Scope := match s with
 | .FunctionDef _ _ _ _ _ _ sc _ _ _ => sc
 | _ => { kind := .function,names := [],isGenerator := false,isCoroutine := false }
abbrev CX0 : CXT := fun _ _ _ _ _ _ => False
abbrev E0 : XK := fun _ _ _ => False
theorem pass0 {X : Cx} : Passes CX0 X E0 := fun _ _ _ _ _ _ _ h => h.elim
structure Fun (K : PySem.W.Frag) (x qual : Str) (st : Stmt) (f : Addr) (fd : FuncData) : Prop where
 ex : ∃ (oc : Value) (od : Option Addr) (kV doc pm : Value) (an : Option Addr) (cdv ct : Value) (osl : Array (Option Value)),
  fd = PySem.W.fnOf x qual (defArgs st) (defBody st) (defScope st) .none kV doc pm an cdv ct ∧ K.lookup f = some ⟨oc,od,.func fd,osl⟩ ∧ PySem.W.codeIn K cdv qual = true
 kp : PySem.W.keepIn K (.ref f) = true
section
variable {P : Program} {w : World} {K : PySem.W.Frag} {mg : Str → Option Value} {base : Heap}
theorem Fun.ok {x qual : Str} {st : Stmt} {f : Addr} {fd : FuncData} {N ps : List Str} {k : Nat} {sp : Sp} (F : Fun K x qual st f fd) (S : FnScope N ps (defScope st)) (len : ∀ vs H Q E,sp vs H Q E → vs.length = ps.length)
  (hbody : ∀ (cdv : Value) (A : Around) (outer : List Env) (s : Shared) (H : Hp) (vs : List V) (Q : VK) (E : XK),Room k (A.deeper (envOfC qual (defScope st) s.heap.objs.size f cdv)) → sp vs H Q E →
   ∃ t,PSs (cxOf CX0 P w K mg base N qual (defScope st) f cdv A outer s H E).nox (defBody st) t ∧ t { nx := fun _ H' => Q .non H',rt := Q } (start N vs) H) : FnOk P w K mg base CX0 (k + 1) f fd ps sp := by
 obtain ⟨oc,od,kV,doc,pm,an,cdv,ct,osl,rfl,lk,hcd⟩ := F.ex
 refine fn_of lk hcd S len fun A outer s H vs Q E hr hsp => ?_
 obtain ⟨t,h,q⟩ := hbody cdv A outer s H vs Q E hr hsp
 exact ⟨t,h.nox,q⟩
theorem Fun.binds {x qual : Str} {st : Stmt} {f : Addr} {fd : FuncData} {ps : List Str} (F : Fun K x qual st f fd)
  (h : ∀ (kV doc pm : Value) (an : Option Addr) (cdv ct : Value) (us : List Value),us.length = ps.length → bindArgs (PySem.W.fnOf x qual (defArgs st) (defBody st) (defScope st) .none kV doc pm an cdv ct) ⟨us,[]⟩ = pure (ps.zip us)) : Binds K fd ps [] := by
 obtain ⟨oc,od,kV,doc,pm,an,cdv,ct,osl,rfl,lk,hcd⟩ := F.ex
 exact .all (h kV doc pm an cdv ct)
theorem fun_mk {x qual : Str} {st : Stmt} {f : Addr} {oc : Value} {od an : Option Addr} {osl : Array (Option Value)} {kV doc pm cdv ct : Value} (l : K.lookup f = some ⟨oc,od,.func (PySem.W.fnOf x qual (defArgs st) (defBody st) (defScope st) .none kV doc pm an cdv ct),osl⟩)
  (c : PySem.W.codeIn K cdv qual = true) (k : PySem.W.keepIn K (.ref f) = true) : Fun K x qual st f (PySem.W.fnOf x qual (defArgs st) (defBody st) (defScope st) .none kV doc pm an cdv ct) := ⟨⟨oc,od,kV,doc,pm,an,cdv,ct,osl,rfl,l,c⟩,k⟩
end
section
variable {X : Cx}
theorem pv (i : Nat) {x : Str} {pos : Pos} (hN : X.N[i]? = some x := by rfl) (hv : Vis X.env.scope x := by first | exact Or.inl rfl | exact Or.inr (Or.inl rfl) | exact Or.inr (Or.inr rfl)) (hd : (x == ("__debug__" : Str)) = false := by decide)
  (hcd : (x == ("__classdict__" : Str)) = false := by decide) : PE X (.Name x pos) (tVar i) := pe_var hN hv hd hcd
end
theorem iteF {A B : Prop} (h : B) : if false = true then A else B := by
 rw [if_neg Bool.false_ne_true]
 exact h
theorem iteT {A B : Prop} (h : A) : if true = true then A else B := by
 rw [if_pos rfl]
 exact h
theorem ite2 {c A B : Prop} [Decidable c] (h1 : c → A) (h2 : ¬ c → B) : if c then A else B := by
 by_cases h : c
 ·rw [if_pos h]
  exact h1 h
 ·rw [if_neg h]
  exact h2 h
def Same (H H' : Hp) : Prop := ∀ b o,H b = some o → H' b = some o
theorem Same.refl (H : Hp) : Same H H := fun _ _ h => h
theorem Same.trans {H H1 H2 : Hp} (a : Same H H1) (b : Same H1 H2) : Same H H2 := fun c o h => b c o (a c o h)
theorem Same.free {H H' : Hp} (e : Same H H') {l : Addr} (h : H' l = Option.none) : H l = Option.none := by
 cases q : H l with
 | none => rfl
 | some o =>
  rw [e l o q] at h
  cases h
theorem Same.seq {K : PySem.W.Frag} {H H' : Hp} {a : Addr} {xs : List V} (e : Same H H') (h : SqL K H a xs) : SqL K H' a xs := by
 rcases h with (h | ⟨o,h⟩) | h
 ·exact .inl (.inl (e _ _ h))
 ·exact .inl (.inr ⟨o,e _ _ h⟩)
 ·exact .inr h
section
variable {X : Cx}
end
section
variable {κ : Type} [DecidableEq κ]
end
end L2
end
section
namespace L2
open PySem PySem.Spec PyProof.Rows
def clOf (cells : List (Str × Addr)) : List (Str × NameKind) → List (Str × Addr) → List (Str × Addr)
 | [],acc => acc
 | (n,k) :: r,acc => if (k == .free) = true then clOf cells r ((n,(cells.lookup n).getD 0) :: acc) else clOf cells r acc
theorem clOf_eq {env : Env} : ∀ (names : List (Str × NameKind)) (acc : List (Str × Addr)),(∀ x ∈ names,x.2 = .free → ∃ c,env.cells.lookup x.1 = some c) →
  (forIn names acc fun x (r : List (Str × Addr)) => if (x.2 == .free) = true then do let c ← cellOf env x.1; pure (ForInStep.yield ((x.1,c) :: r)) else pure (ForInStep.yield r) : Sem (List (Str × Addr))) = pure (clOf env.cells names acc)
 | [],acc,_ => rfl
 | (n,k) :: r,acc,h => by
  rw [List.forIn_cons]
  have ih := fun a => clOf_eq (env := env) r a fun x hx => h x (List.mem_cons_of_mem _ hx)
  unfold clOf
  by_cases hk : (k == NameKind.free) = true
  ·have hk' : k = .free := by cases k <;> first | rfl | cases hk
   obtain ⟨c,hc⟩ := h (n,k) List.mem_cons_self hk'
   simp only [hk,if_true]
   unfold cellOf
   rw [hc]
   simp only [pure_bind,Option.getD_some]
   exact ih _
  ·simp only [hk,Bool.false_eq_true,if_false,pure_bind]
   exact ih _
theorem closure_eq {scope : Scope} {env : Env} (h : ∀ x ∈ scope.names,x.2 = .free → ∃ c,env.cells.lookup x.1 = some c) : closureFor scope env = pure (clOf env.cells scope.names []) := by
 rw [← clOf_eq scope.names [] h]
 unfold closureFor
 simp
theorem clOf_in {cells : List (Str × Addr)} {x : Str} {c : Addr} : ∀ {names : List (Str × NameKind)} {acc : List (Str × Addr)},(∀ y ∈ names,y.2 = .free → ∃ d,cells.lookup y.1 = some d) → (∀ p ∈ acc,cells.lookup p.1 = some p.2) → (clOf cells names acc).lookup x = some c → cells.lookup x = some c
 | [],acc,_,ha,h => ha (x,c) (PySem.mem_of_lookup h)
 | (n,k) :: r,acc,hn,ha,h => by
  unfold clOf at h
  have hn' : ∀ y ∈ r,y.2 = .free → ∃ d,cells.lookup y.1 = some d := fun y hy => hn y (List.mem_cons_of_mem _ hy)
  by_cases hk : (k == NameKind.free) = true
  ·have hk' : k = .free := by cases k <;> first | rfl | cases hk
   obtain ⟨d,hd⟩ := hn (n,k) List.mem_cons_self hk'
   rw [if_pos hk] at h
   refine clOf_in hn' (fun p hp => ?_) h
   rcases List.mem_cons.mp hp with rfl | hp
   ·show cells.lookup n = some ((cells.lookup n).getD 0)
    have hd' : cells.lookup n = some d := hd
    rw [hd']; rfl
   ·exact ha p hp
  ·rw [if_neg hk] at h
   exact clOf_in hn' ha h
theorem lookup_some_of_mem {x : Str} {c : Addr} : ∀ {l : List (Str × Addr)},(x,c) ∈ l → ∃ d,l.lookup x = some d
 | [],h => nomatch h
 | (y,d) :: l,h => by
  rw [List.lookup_cons]
  by_cases e : x = y
  ·subst e; exact ⟨d,by simp⟩
  ·have hb : (x == y) = false := by simpa using e
   rw [hb]
   rcases List.mem_cons.mp h with q | q
   ·cases q; exact absurd rfl e
   ·exact lookup_some_of_mem q
theorem clOf_mem {cells : List (Str × Addr)} {x : Str} : ∀ {names : List (Str × NameKind)} {acc : List (Str × Addr)},((x,NameKind.free) ∈ names ∨ ∃ c,(x,c) ∈ acc) → ∃ c,(x,c) ∈ clOf cells names acc
 | [],acc,h => h.elim (fun q => nomatch q) id
 | (n,k) :: r,acc,h => by
  unfold clOf
  by_cases hk : (k == NameKind.free) = true
  ·rw [if_pos hk]
   refine clOf_mem ?_
   rcases h with h | ⟨c,h⟩
   ·rcases List.mem_cons.mp h with q | q
    ·cases q; exact .inr ⟨_,List.mem_cons_self⟩
    ·exact .inl q
   ·exact .inr ⟨c,List.mem_cons_of_mem _ h⟩
  ·rw [if_neg hk]
   refine clOf_mem ?_
   rcases h with h | h
   ·rcases List.mem_cons.mp h with q | q
    ·cases q; exact absurd rfl hk
    ·exact .inl q
   ·exact .inr h
def cxC (X : Cx) (scope : Scope) (N : List Str) (cl : List (Str × Addr)) (C : Addr) (s₀ : Shared) (H₀ : Hp) (ex : List Addr) : Cx where
 prog := X.prog
 w := X.w
 K := X.K
 mg := X.mg
 base := X.base
 A := X.A
 N := N
 s₀ := s₀
 H₀ := H₀
 env := compEnvC scope cl C X.env
 outer := X.stack
 stack := X.stack
 ex := ex
 fn := fun _ => false
 calm := X.calm
 pn := X.pn
 xe := fun _ _ => False
def PTL (X : Cx) (ifs : List Expr) (t : TT) : Prop :=
 ∀ (pins : List (Addr × Obj)) (s : Shared) (σ : St) (H : Hp) (Q : Bool → Hp → Prop),Inv X pins σ H s → t σ H Q →
  wpAny (model X.prog X.w) X.A (forIn ifs true fun c r => if r = true then do let ok ← isTrue c X.env (eval c X.env); pure (ForInStep.yield ok) else pure (ForInStep.yield r)) (TP X pins σ Q) X.xe s
def tYes : TT := fun _ H Q => Q true H
theorem ptl_nil {X : Cx} : PTL X [] tYes := fun _ _ _ H _ I h => wpAny_tests_nil ⟨H,I,h⟩
theorem ptl_one {X : Cx} {c : Expr} {t : TT} (h : PT X c t) : PTL X [c] t := fun pins s σ H Q I hw => wpAny_tests_one (h pins s σ H Q I hw)
def capSt (caps : List (Option Nat)) (σ : St) : St := caps.map fun c => match c with
 | none => none
 | some j => (σ[j]?).getD none
def CompW (J : It) (g : TG) (tc : TT) (te : TE) (σ : St) (H1 : Hp) (D : Addr) (Q : VK) : Prop :=
 ∃ W : Nat → Nat → St → Hp → Prop,(∃ m,W 0 m σ (upd H1 D (.lst []))) ∧
 ∀ i m σ2 H2,W i m σ2 H2 → (J.stop i H2 ∧ Q (.ref D) H2) ∨ (J.go i H2 ∧ ∀ x H3,J.yld i H2 x H3 → g x σ2 H3 fun σ3 H4 => tc σ3 H4 fun b H5 =>
  if b = true then te σ3 H5 fun y H6 => ∃ ys m',H6 D = some (.lst ys) ∧ ys.length < sizeLine ∧ m' < m ∧ W (i + 1) m' σ3 (upd H6 D (.lst (ys ++ [y])))
  else ∃ m',m' < m ∧ W (i + 1) m' σ3 H5)
def tLC (wi : TI) (caps : List (Option Nat)) (g : TG) (tc : TT) (te : TE) : TE := fun σ H Q => wi σ H fun J H1 => ∀ D,H1 D = none → CompW J g tc te (capSt caps σ) H1 D Q
def CapOk (N N' : List Str) (caps : List (Option Nat)) (scope : Scope) : Prop :=
 caps.length = N'.length ∧ ∀ i j : Nat,caps[i]? = some (some j) → ∃ x : Str,N'[i]? = some x ∧ N[j]? = some x ∧ scope.names.lookup x = some .free
section
variable {X : Cx} {scope : Scope} {N' : List Str} {caps : List (Option Nat)} {tg iter elt : Expr} {ifs : List Expr} {wi : TI} {g : TG} {tc : TT} {te : TE} {pos : Pos}
theorem relabel_free {scope : Scope} {env : Env} {x : Str} : ∀ {names : List (Str × NameKind)},(names.lookup x = some .free ∨ names.lookup x = some .cell) →
  ((names.map fun (n,k) => if (k == NameKind.free && env.scope.kind == .function && env.kindOf n == some .cell) then (n,NameKind.cell) else (n,k)).lookup x = some .free ∨
   (names.map fun (n,k) => if (k == NameKind.free && env.scope.kind == .function && env.kindOf n == some .cell) then (n,NameKind.cell) else (n,k)).lookup x = some .cell)
 | [],h => by simp at h
 | (n,k) :: r,h => by
  have ih := @relabel_free scope env x r
  show List.lookup x ((if (k == NameKind.free && env.scope.kind == .function && env.kindOf n == some .cell) = true then (n,NameKind.cell) else (n,k)) :: _) = _ ∨ List.lookup x ((if (k == NameKind.free && env.scope.kind == .function && env.kindOf n == some .cell) = true then (n,NameKind.cell) else (n,k)) :: _) = _
  cases hx : x == n with
  | true =>
   simp only [List.lookup_cons,hx] at h
   by_cases hc : (k == NameKind.free && env.scope.kind == .function && env.kindOf n == some .cell) = true
   ·rw [if_pos hc]; simp [List.lookup_cons,hx]
   ·rw [if_neg hc]; simp only [List.lookup_cons,hx]; exact h
  | false =>
   simp only [List.lookup_cons,hx] at h
   by_cases hc : (k == NameKind.free && env.scope.kind == .function && env.kindOf n == some .cell) = true
   ·rw [if_pos hc]; simp only [List.lookup_cons,hx]; exact ih h
   ·rw [if_neg hc]; simp only [List.lookup_cons,hx]; exact ih h
theorem un_relabel {env : Env} {x : Str} {kd : NameKind} : ∀ {names : List (Str × NameKind)},(names.map fun (n,k) => if (k == NameKind.free && env.scope.kind == .function && env.kindOf n == some .cell) then (n,NameKind.cell) else (n,k)).lookup x = some kd →
  ∃ k',names.lookup x = some k' ∧ (kd = k' ∨ (k' = .free ∧ kd = .cell))
 | [],h => by simp at h
 | (n,k) :: r,h => by
  have ih := @un_relabel env x kd r
  have h' : List.lookup x ((if (k == NameKind.free && env.scope.kind == .function && env.kindOf n == some .cell) = true then (n,NameKind.cell) else (n,k)) :: _) = some kd := h
  cases hx : x == n with
  | true =>
   simp only [List.lookup_cons,hx]
   by_cases hc : (k == NameKind.free && env.scope.kind == .function && env.kindOf n == some .cell) = true
   ·rw [if_pos hc] at h'
    simp only [List.lookup_cons,hx] at h'
    cases h'
    have hk : k = .free := by
     rw [Bool.and_eq_true,Bool.and_eq_true] at hc
     cases k <;> first | rfl | exact absurd hc.1.1 (by decide)
    exact ⟨k,rfl,.inr ⟨hk,rfl⟩⟩
   ·rw [if_neg hc] at h'
    simp only [List.lookup_cons,hx] at h'
    cases h'
    exact ⟨_,rfl,.inl rfl⟩
  | false =>
   simp only [List.lookup_cons,hx]
   by_cases hc : (k == NameKind.free && env.scope.kind == .function && env.kindOf n == some .cell) = true
   ·rw [if_pos hc] at h'; simp only [List.lookup_cons,hx] at h'; exact ih h'
   ·rw [if_neg hc] at h'; simp only [List.lookup_cons,hx] at h'; exact ih h'
structure Left (X : Cx) (pins : List (Addr × Obj)) (σ : St) (H' : Hp) (s4 : Shared) (C : Addr) : Prop where
 ns : ∃ m,s4.heap.Ns C m
 far : X.s₀.heap.objs.size ≤ C
 nl : C ≠ X.env.locals
 nc : ∀ x c,X.env.cells.lookup x = some c → c ≠ C
 np : ∀ p ∈ X.pn ++ pins,p.1 ≠ C
 no : H' C = none
 back : ∀ h',Heap.SameBut C s4.heap h' → Inv X pins σ H' { s4 with heap := h' }
theorem comp_core {use : Option (Value → Sem Unit)} {R : Value → Shared → Prop} {pp : Pos} (hc : X.calm = true) (hk : scope.kind = .function) (hcell : ∀ y ∈ scope.names,y.2 ≠ .cell) (hnames : ∀ y ∈ scope.names,y.2 = .local → scope.names.lookup y.1 = some .local)
  (hfr : ∀ y ∈ scope.names,y.2 = .free → X.env.kindOf y.1 = some .cell ∨ X.env.kindOf y.1 = some .free) (hcap : CapOk X.N N' caps scope)
  (hi : PI X tg iter wi) (hg : ∀ cl C s₀ H₀ ex,PG (cxC X scope N' cl C s₀ H₀ ex) tg g) (ht : ∀ cl C s₀ H₀ ex,PTL (cxC X scope N' cl C s₀ H₀ ex) ifs tc) (he : ∀ cl C s₀ H₀ ex,PE (cxC X scope N' cl C s₀ H₀ ex) elt te)
  (hs : ∀ x,foldedSetIterable iter X.env x = pure x) {pins : List (Addr × Obj)} {s : Shared} {σ : St} {H : Hp} {Q : VK} (I : Inv X pins σ H s) (h : tLC wi caps g tc te σ H Q)
  (fin : ∀ (D C : Addr) (H' : Hp) (s4 : Shared) (f : Flow),Left X pins σ H' s4 C → Q (.ref D) H' → compPost (model X.prog X.w) X.A X.xe use R (.ref D) C (.ok f) s4) :
  wpAny (model X.prog X.w) X.A (comprehension (.ListComp elt [⟨tg,iter,ifs,0⟩] scope pos) scope X.env pp (newList []) (firstAsync [⟨tg,iter,ifs,0⟩]) (firstIter [⟨tg,iter,ifs,0⟩] X.env) use) R X.xe s := by
 have hcl : ∀ y ∈ scope.names,y.2 = .free → ∃ c,X.env.cells.lookup y.1 = some c := fun y hy e => I.ok.has y.1 (hfr y hy e)
 refine wpAny_comprehension_free (use := use) rfl hs (closure_eq hcl) hk hnames ?_
 refine thn (hi pins s σ H _ I h) fun xv s1 h1 => thn h1 fun itv s2 h2 => ?_
 obtain ⟨it,fp,tn,J,H2,e,I2,T,st2,f2,q⟩ := h2
 subst e
 have hf2 : H2 s2.heap.objs.size = none := I2.hok.fresh (Nat.le_refl _)
 obtain ⟨W,⟨m0,w0⟩,turn⟩ := q s2.heap.objs.size hf2
 refine wpAny_newObj_type (wpAny_newFunctionEnv hcell (by intro y hy; simp at hy) (fun h₁ hns₁ hsb₁ => ?_) hk)
 dsimp only at hns₁ hsb₁ ⊢
 generalize hD : s2.heap.objs.size = D at *
 obtain ⟨s3,e3⟩ : ∃ s3 : Shared,s3 = { s2 with heap := s2.heap.push { cls := .type "list",dict := none,data := .seq ([] : List Value).toArray } } := ⟨_,rfl⟩
 have h3 : s3.heap = s2.heap.push { cls := .type "list",dict := none,data := .seq ([] : List Value).toArray } := by rw [e3]
 rw [← h3] at hns₁ hsb₁ ⊢
 have hD3 : s3.heap.objs.size = D + 1 := by rw [h3,Heap.size_push,hD]
 have I3 : Inv X pins σ (upd H2 D (.lst [])) s3 := by
  rw [e3,← hD]
  exact I2.lnew (t' := s2.toks) (ys := []) .nil (Nat.zero_le _)
 obtain ⟨Xc,eX⟩ : ∃ Xc,Xc = cxC X scope N' (clOf X.env.cells scope.names []) s3.heap.objs.size s3 (upd H2 D (.lst [])) fp := ⟨_,rfl⟩
 have hg' : PG Xc tg g := by rw [eX]; exact hg _ _ _ _ _
 have ht' : PTL Xc ifs tc := by rw [eX]; exact ht _ _ _ _ _
 have he' : PE Xc elt te := by rw [eX]; exact he _ _ _ _ _
 have xP : Xc.prog = X.prog := by rw [eX]; rfl
 have xw : Xc.w = X.w := by rw [eX]; rfl
 have xK : Xc.K = X.K := by rw [eX]; rfl
 have xA : Xc.A = X.A := by rw [eX]; rfl
 have xc : Xc.calm = true := by rw [eX]; exact hc
 have xe : Xc.env = compEnvC scope (clOf X.env.cells scope.names []) s3.heap.objs.size X.env := by rw [eX]; rfl
 have xE : Xc.xe = fun _ _ => False := by rw [eX]; rfl
 have hcin : ∀ x c,(clOf X.env.cells scope.names []).lookup x = some c → X.env.cells.lookup x = some c := fun x c e => clOf_in hcl (fun p hp => absurd hp (by simp)) e
 have hfd : ∀ b ∈ fp,b ≠ D ∧ b < D := fun b hb => by
  obtain ⟨ob,eb,_⟩ := T.obj 0 _ st2 b hb
  have := Heap.lt_size eb
  rw [hD] at this
  exact ⟨Nat.ne_of_lt this,this⟩
 have hfs : ∀ b ∈ frs X.stack,b < D := fun b hb => by
  obtain ⟨_,ob,eb,_⟩ := I2.stack.mem hb
  have := Heap.lt_size eb
  rw [hD] at this
  exact this
 have hold : ∀ b o,s3.heap.get? b = some o → h₁.get? b = some o := fun b o e => by
  have hb : b ≠ s3.heap.objs.size := Nat.ne_of_lt (Heap.lt_size e)
  exact (hsb₁.2 b hb).trans (Heap.get?_push_of_some _ e)
 have hCf : (upd H2 D (.lst [])) s3.heap.objs.size = none := I3.hok.fresh (Nat.le_refl _)
 have Ic : Inv Xc pins (capSt caps σ) (upd H2 D (.lst [])) { s3 with heap := h₁ } := by
  have okc : Xc.Ok := by
   rw [eX]
   refine ⟨I.ok.mod,hk,I.ok.glob,I.ok.blt,Nat.le_refl _,fun x y c a b => I.ok.inj x y c (hcin x c a) (hcin y c b),fun x hx => ?_,(fun x c a => absurd a Bool.false_ne_true),I.ok.hd,I.ok.frames,.inl rfl,fun b hb => ⟨?_,fun x c e => ?_⟩,fun b o e => ?_,?_,fun b o e z => ?_,fun b hb z => ?_,?_,fun b hb => ?_⟩
   ·have hx' : (relabel scope X.env).names.lookup x = some .cell ∨ (relabel scope X.env).names.lookup x = some .free := hx
    have key : ∃ k',scope.names.lookup x = some k' ∧ (k' = .free ∨ k' = .cell) := by
     rcases hx' with q | q
     ·obtain ⟨k',e1,e2⟩ := un_relabel q
      rcases e2 with e2 | ⟨e2,_⟩
      ·exact ⟨k',e1,.inr e2.symm⟩
      ·exact ⟨k',e1,.inl e2⟩
     ·obtain ⟨k',e1,e2⟩ := un_relabel q
      rcases e2 with e2 | ⟨e2,_⟩
      ·exact ⟨k',e1,.inl e2.symm⟩
      ·exact ⟨k',e1,.inl e2⟩
    obtain ⟨k',e1,e2⟩ := key
    have hm := PySem.mem_of_lookup e1
    rcases e2 with rfl | rfl
    ·obtain ⟨c,hc'⟩ := clOf_mem (cells := X.env.cells) (acc := []) (.inl hm)
     exact lookup_some_of_mem hc'
    ·exact absurd rfl (hcell _ hm)
   ·show b ≠ s3.heap.objs.size
    exact Nat.ne_of_lt (by rw [hD3]; exact Nat.lt_succ_of_lt (hfd b hb).2)
   ·exact (f2 b hb).2.2.2.2.1 x c (hcin x c e)
   ·exact I3.bs b o e
   ·exact Nat.le_trans I.ok.bsz I3.sz
   ·obtain ⟨f,_,_,fx,_,_⟩ := f2 b z
    rcases fx with fx | fx
    ·exact I.ok.noex b o e fx
    ·have := Nat.lt_of_lt_of_le (Heap.lt_size e) I.ok.bsz
     omega
   ·rcases List.mem_cons.mp (I2.stkSub b z) with r | r
    ·exact (f2 b hb).2.1 r
    ·exact (f2 b hb).2.2.1 r
   ·exact I3.stack
   ·exact I3.stkFree b hb
  refine ⟨okc,(by rw [eX]; rfl),I3.bare,?_,?_,fun x c e => ?_,?_,fun x c e => ?_,fun p hp => ?_,?_,?_⟩
  ·rw [eX]
   exact Un.kept hold
  ·rw [xe]
   refine ⟨_,hns₁,fun i x v e1 e2 e3 => ?_⟩
   obtain ⟨c1,c2⟩ := hcap
   unfold capSt at e2
   rw [List.getElem?_map] at e2
   cases e4 : caps[i]? with
   | none => rw [e4] at e2; cases e2
   | some cc =>
    rw [e4] at e2
    cases cc with
    | none => cases e2
    | some j =>
     obtain ⟨y,d1,d2,d3⟩ := c2 i j e4
     have e1' : N'[i]? = some x := by rw [eX] at e1; exact e1
     rw [d1] at e1'
     have exy : y = x := Option.some.inj e1'
     subst exy
     have e5 : σ[j]? = some (some v) := by
      simp only [Option.map_some,Option.some.injEq] at e2
      cases e6 : σ[j]? with
      | none => rw [e6] at e2; cases e2
      | some ov => rw [e6] at e2; simp only [Option.getD_some] at e2; rw [e2]
     have hm := PySem.mem_of_lookup d3
     have vis : Vis X.env.scope y := by
      rcases hfr _ hm rfl with q | q
      ·exact .inr (.inl q)
      ·exact .inr (.inr q)
     obtain ⟨m,_,hl⟩ := I3.loc
     obtain ⟨u,ru,lk⟩ := hl j y v d2 e5 vis
     refine ⟨u,ru,?_⟩
     have lk2 : ∃ c,X.env.cells.lookup y = some c ∧ s3.heap.IsCell c (some u) := by
      rcases lk with ⟨k1,_⟩ | ⟨_,c,k2,k3⟩
      ·rcases hfr _ hm rfl with q | q
       ·rw [k1] at q; cases q
       ·rw [k1] at q; cases q
      ·exact ⟨c,k2,k3⟩
     obtain ⟨c,k2,k3⟩ := lk2
     obtain ⟨d,hd'⟩ := clOf_mem (cells := X.env.cells) (acc := []) (.inl hm)
     obtain ⟨d',hd2⟩ := lookup_some_of_mem hd'
     have : c = d' := by
      have := hcin y d' hd2
      rw [k2] at this
      exact Option.some.inj this
     subst this
     refine .inr ⟨?_,c,hd2,k3.keeps hold⟩
     have rl := relabel_free (scope := scope) (env := X.env) (x := y) (names := scope.names) (.inl d3)
     rcases rl with q | q
     ·exact .inr q
     ·exact .inl q
  ·rw [xe] at e
   obtain ⟨v,k3⟩ := I3.cell x c (hcin x c e)
   exact ⟨v,k3.keeps hold⟩
  ·rw [xe]; exact hCf
  ·rw [xe] at e
   exact I3.freeC x c (hcin x c e)
  ·have hp' : p ∈ X.pn ++ pins := by rw [eX] at hp; exact hp
   obtain ⟨a1,a2,a3,a4,a5⟩ := I3.pin p hp'
   refine ⟨hold _ _ a1,a2,?_,?_,a5⟩
   ·rw [xe]
    show p.1 ≠ s3.heap.objs.size
    exact Nat.ne_of_lt (Heap.lt_size a1)
   ·rw [eX]
    intro z
    rcases List.mem_cons.mp (I3.stkSub p.1 z) with r | r
    ·exact a3 r
    ·exact a4 r
  ·rw [xP,xw]
   exact I3.hok.kept hold
  ·unfold capSt
   rw [List.length_map,hcap.1,eX]
   rfl
 have leave : ∀ {σ' : St} {H' : Hp} {s4 : Shared} {h' : Heap},Inv Xc pins σ' H' s4 → Heap.SameBut s3.heap.objs.size s4.heap h' → Inv X pins σ H' { s4 with heap := h' } := fun {σ' H' s4 h'} I4 hs' => by
  have hlt : ∀ b o,s2.heap.get? b = some o → b ≠ D ∧ b ≠ s3.heap.objs.size := fun b o e => by
   have hb := Heap.lt_size e
   rw [hD] at hb
   exact ⟨Nat.ne_of_lt hb,Nat.ne_of_lt (by rw [hD3]; exact Nat.lt_succ_of_lt hb)⟩
  have up3 : ∀ b o,s2.heap.get? b = some o → s3.heap.get? b = some o := fun b o e => by rw [h3]; exact Heap.get?_push_of_some _ e
  have base : Un (frs X.stack) fp (upd H2 D (.lst [])) H' s3.heap s4.heap := by
   have := I4.base
   rw [eX] at this
   exact this
  have hCn : H' s3.heap.objs.size = none := by
   have := I4.free
   rw [xe] at this
   exact this
  have os4 : s4.os = s2.os := by
   have := I4.os
   rw [eX] at this
   rw [this]
   show s3.os = s2.os
   rw [e3]
  refine I2.call' (s' := { s4 with heap := h' }) (ch := fp) os4 ⟨fun b o q n hb hx => ?_,fun b o q n hb hx => ?_,fun b o q n hx => ?_,fun b o q hx => ?_,fun b xs q => ?_,fun b o u q => ?_,fun b ps q => ?_⟩ ?_ I4.bare fun b hb => ?_
  ·obtain ⟨n1,n2⟩ := hlt b o q
   exact (hs'.2 b n2).trans (base.keep b o (up3 b o q) (by rw [upd_ne n1]; exact n) hb hx)
  ·obtain ⟨n1,n2⟩ := hlt b o q
   obtain ⟨sl,e⟩ := base.slot b o (up3 b o q) (by rw [upd_ne n1]; exact n) hb hx
   exact ⟨sl,(hs'.2 b n2).trans e⟩
  ·obtain ⟨n1,n2⟩ := hlt b o q
   exact base.free b o (up3 b o q) (by rw [upd_ne n1]; exact n) hx
  ·obtain ⟨n1,n2⟩ := hlt b o q
   obtain ⟨o',e⟩ := base.there b o (up3 b o q) hx
   exact ⟨o',(hs'.2 b n2).trans e⟩
  ·exact base.tups b xs (by rw [upd_ne (ne_of_none q hf2)]; exact q)
  ·exact base.frzs b o u (by rw [upd_ne (ne_of_none q hf2)]; exact q)
  ·exact base.tbls b ps (by rw [upd_ne (ne_of_none q hf2)]; exact q)
  ·intro b u e
   have hk4 := I4.hok b u e
   rw [xP,xw] at hk4
   refine hk4.stay (fun c v hc q => (hs'.2 c ?_).trans q) (fun _ q => q) fun _ _ q => q
   rintro rfl
   rcases hc with z | z
   ·rw [← z,hCn] at e; cases e
   ·rw [hCn] at z; cases z
  ·obtain ⟨f0,f1,f3,f4,f5,f6⟩ := f2 b hb
   exact ⟨f4,f1,f5,f6⟩
 have stat : ∀ {H' : Hp},(∀ b ∈ fp,H' b = none) → ∀ b ∈ fp,FpOk Xc pins H' b := fun {H'} hn b hb => by
  obtain ⟨f0,f1,f3,f4,f5,f6⟩ := f2 b hb
  refine ⟨hn b hb,?_,?_,.inl (by rw [eX]; exact hb),fun x c e => ?_,fun p hp => ?_⟩
  ·rw [xe]
   show b ≠ s3.heap.objs.size
   exact Nat.ne_of_lt (by rw [hD3]; exact Nat.lt_succ_of_lt (hfd b hb).2)
  ·rw [eX]
   intro z
   rcases List.mem_cons.mp (I2.stkSub b z) with r | r
   ·exact f1 r
   ·exact f3 r
  ·rw [xe] at e
   exact f5 x c (hcin x c e)
  ·rw [eX] at hp
   exact f6 p hp
 subst eX
 have loop : ∀ n s',(∃ i σ' H',Inv (cxC X scope N' (clOf X.env.cells scope.names []) s3.heap.objs.size s3 (upd H2 D (.lst [])) fp) pins σ' H' s' ∧ tn i s'.heap ∧ (∀ b ∈ fp,H' b = none) ∧ W i n σ' H') →
   codeAny (model X.prog X.w) X.A (.compLoop (.ListComp elt [⟨tg,iter,ifs,0⟩] scope pos) 0 (.ref it) (.ref D) (compEnvC scope (clOf X.env.cells scope.names []) s3.heap.objs.size X.env)) (compPost (model X.prog X.w) X.A X.xe use R (.ref D) s3.heap.objs.size) s' := by
  intro n0 s0' hI0
  refine codeAny_loop rfl (fun n s' => ∃ i σ' H',Inv (cxC X scope N' (clOf X.env.cells scope.names []) s3.heap.objs.size s3 (upd H2 D (.lst [])) fp) pins σ' H' s' ∧ tn i s'.heap ∧ (∀ b ∈ fp,H' b = none) ∧ W i n σ' H') (fun n s' hI => ?_) n0 hI0
  obtain ⟨i,σ',H',I',st',fr',w'⟩ := hI
  show wpAny _ X.A ((compTurn (.ListComp elt [⟨tg,iter,ifs,0⟩] scope pos) 0 (.ref it) (.ref D) (compEnvC scope (clOf X.env.cells scope.names []) s3.heap.objs.size X.env)).onRaise (fun x => do noteFrame x (compEnvC scope (clOf X.env.cells scope.names []) s3.heap.objs.size X.env); theTreesLotGoes x)) _ _ s'
  refine wpAny_noted ?_
  rw [compTurn_list]
  refine wpAny_bind (wpAny_standAt (wpAny_bind ?_))
  rcases turn i n σ' H' w' with ⟨stop,qn⟩ | ⟨go,step⟩
  ·refine thn (T.done (cxC X scope N' (clOf X.env.cells scope.names []) s3.heap.objs.size s3 (upd H2 D (.lst [])) fp) rfl rfl rfl hc i pins s' σ' H' _ I' (stat fr') st' stop) fun r s4 ⟨hr,I4⟩ => ?_
   subst hr
   refine wpAny_pure ?_
   obtain ⟨m,hn,_⟩ := id I4.loc
   refine fin D _ H' s4 _ ⟨⟨m,hn⟩,I3.sz,fun e => ?_,fun x c e => ?_,fun p hp => Nat.ne_of_lt (Heap.lt_size (I3.pin p hp).1),I4.free,fun h' hs' => leave I4 hs'⟩ qn
   ·obtain ⟨m3,hn3,_⟩ := I3.loc
    obtain ⟨o3,_,_,ho3,_⟩ := hn3
    exact absurd e.symm (Nat.ne_of_lt (Heap.lt_size ho3))
   ·obtain ⟨v,hv⟩ := I3.cell x c e
    obtain ⟨o3,ho3,_⟩ := hv
    exact Nat.ne_of_lt (Heap.lt_size ho3)
  ·refine thn (T.item (cxC X scope N' (clOf X.env.cells scope.names []) s3.heap.objs.size s3 (upd H2 D (.lst [])) fp) rfl rfl rfl hc i pins s' σ' H' _ I' (stat fr') st' go) fun r s4 ⟨u,hr,h4⟩ => ?_
   subst hr
   refine wpAny_bind (thn h4 fun _ s5 ⟨x,H5,I5,r5,y5,st5,fr5⟩ => ?_)
   have I5' := I5.pinned (stat fr5) (T.obj _ _ st5)
   refine wpAny_bind (wpAny_mono (hg' _ s5 σ' H5 x u _ I5' r5 (step x H5 y5)) (fun _ s6 h6 => ?_) fun _ _ z => z.elim)
   obtain ⟨σ6,H6,I6,q6⟩ := h6
   refine wpAny_bind (wpAny_mono (ht' _ s6 σ6 H6 _ I6 q6) (fun ok s7 h7 => ?_) fun _ _ z => z.elim)
   obtain ⟨H7,I7,q7⟩ := h7
   have again : ∀ {σ8 : St} {H8 : Hp} {s8 : Shared} {m' : Nat},Inv (cxC X scope N' (clOf X.env.cells scope.names []) s3.heap.objs.size s3 (upd H2 D (.lst [])) fp) (pins ++ pinsAt fp s5.heap) σ8 H8 s8 → m' < n → W (i + 1) m' σ8 H8 →
     ∃ m,m < n ∧ ∃ i σ' H',Inv (cxC X scope N' (clOf X.env.cells scope.names []) s3.heap.objs.size s3 (upd H2 D (.lst [])) fp) pins σ' H' s8 ∧ tn i s8.heap ∧ (∀ b ∈ fp,H' b = none) ∧ W i m σ' H' := fun {σ8 H8 s8 m'} I8 hm w8 => by
    refine ⟨m',hm,i + 1,σ8,H8,I8.unpinned,T.keep _ _ _ st5 fun b hb o e => (I8.pin (b,o) (List.mem_append_right _ (List.mem_append_right _ (mem_pinsAt hb e)))).1,fun b hb => ?_,w8⟩
    obtain ⟨o,e,d⟩ := T.obj _ _ st5 b hb
    exact (I8.pin (b,o) (List.mem_append_right _ (List.mem_append_right _ (mem_pinsAt hb e)))).2.1
   cases ok with
   | false =>
    obtain ⟨m',hm,w7⟩ := q7
    exact wpAny_pure ⟨rfl,again I7 hm w7⟩
   | true =>
    refine wpAny_bind (wpAny_bind (wpAny_mono (he' _ s7 σ6 H7 _ I7 q7) (fun v s8 h8 => ?_) fun _ _ z => z.elim))
    obtain ⟨y,H8,I8,r8,ys,m',hD8,hl8,hm8,w8⟩ := h8
    refine wpAny_bind (wpAny_mono (mt_append (X := cxC X scope N' (clOf X.env.cells scope.names []) s3.heap.objs.size s3 (upd H2 D (.lst [])) fp) _ s8 σ6 H8 (.ref D) [y] (.ref D) [v] (fun _ H9 => H9 = upd H8 D (.lst (ys ++ [y]))) I8 rfl (.cons r8 .nil) ⟨D,ys,y,rfl,rfl,hD8,hl8,rfl⟩) (fun _ s9 h9 => ?_) fun _ _ z => z.elim)
    obtain ⟨_,H9,I9,_,e9⟩ := h9
    subst e9
    exact wpAny_pure (wpAny_pure ⟨rfl,again I9 hm8 w8⟩)
 have start : ∃ i σ' H',Inv (cxC X scope N' (clOf X.env.cells scope.names []) s3.heap.objs.size s3 (upd H2 D (.lst [])) fp) pins σ' H' { s3 with heap := h₁ } ∧ tn i ({ s3 with heap := h₁ } : Shared).heap ∧ (∀ b ∈ fp,H' b = none) ∧ W i m0 σ' H' := by
  refine ⟨0,capSt caps σ,upd H2 D (.lst []),Ic,T.keep 0 _ _ st2 fun b hb o e => hold b o (by rw [h3]; exact Heap.get?_push_of_some _ e),fun b hb => ?_,w0⟩
  rw [upd_ne (hfd b hb).1]
  exact (f2 b hb).1
 have es : ({ s2 with heap := h₁,toks := s2.toks + ([] : List (Str × Value)).length } : Shared) = { s3 with heap := h₁ } := by rw [e3]; rfl
 show codeAny (model X.prog X.w) X.A _ _ ({ s2 with heap := h₁,toks := s2.toks + ([] : List (Str × Value)).length } : Shared)
 rw [es]
 refine codeAny_compStart_list (loop m0 _ start) (T.self _ 0 _ _ _ ?_ (loop m0 _ start))
 exact T.keep 0 _ _ st2 fun b hb o e => hold b o (by rw [h3]; exact Heap.get?_push_of_some _ e)
theorem pe_comp (hc : X.calm = true) (hk : scope.kind = .function) (hcell : ∀ y ∈ scope.names,y.2 ≠ .cell) (hnames : ∀ y ∈ scope.names,y.2 = .local → scope.names.lookup y.1 = some .local)
  (hfr : ∀ y ∈ scope.names,y.2 = .free → X.env.kindOf y.1 = some .cell ∨ X.env.kindOf y.1 = some .free) (hcap : CapOk X.N N' caps scope)
  (hi : PI X tg iter wi) (hg : ∀ cl C s₀ H₀ ex,PG (cxC X scope N' cl C s₀ H₀ ex) tg g) (ht : ∀ cl C s₀ H₀ ex,PTL (cxC X scope N' cl C s₀ H₀ ex) ifs tc) (he : ∀ cl C s₀ H₀ ex,PE (cxC X scope N' cl C s₀ H₀ ex) elt te)
  (hs : ∀ x,foldedSetIterable iter X.env x = pure x := by intro _; rfl) : PE X (.ListComp elt [⟨tg,iter,ifs,0⟩] scope pos) (tLC wi caps g tc te) := by
 intro pins s σ H Q I h
 rw [eval_ListComp]
 refine comp_core (use := none) hc hk hcell hnames hfr hcap hi hg ht he hs I h fun D C H' s4 f L q => ?_
 obtain ⟨m,hn⟩ := L.ns
 exact ⟨m,hn,fun h' hs' => ⟨.ref D,H',L.back h' hs',rfl,q⟩⟩
end
end L2
end
section
namespace L2
open PySem PySem.Spec PyProof.Rows
theorem dict_mf (f : Array Value → Array Value) (o : Obj) : (o.mapFields f).dict = o.dict := by unfold Obj.mapFields; split <;> rfl
def Xc (h : Heap) (x : Addr) (C : Value) (T : Option Addr) : Prop :=
 ∃ oe vs,h.get? x = some oe ∧ oe.cls = C ∧ oe.dict = none ∧ oe.data = .fields vs ∧ 1 < vs.size ∧ ((T = none ∧ vs[1]? = some .none) ∨ ∃ a oT ts,T = some a ∧ vs[1]? = some (.ref a) ∧ a ≠ x ∧ h.get? a = some oT ∧ oT.data = .fields ts ∧ ts[3]? = some .none)
def XcKeep (fr : List Addr) (x : Addr) (T : Option Addr) (h h' : Heap) : Prop :=
 (∀ b o,h.get? b = some o → b ≠ x → T ≠ some b → b ∉ fr → h'.get? b = some o) ∧ (∀ b o,h.get? b = some o → b ∈ fr → ∃ sl,h'.get? b = some { o with slots := sl }) ∧ h.objs.size ≤ h'.objs.size
section
variable {M : Model} {A : Around} {E : Value → Shared → Prop} {s : Shared}
theorem xc_entry {base : Heap} {env : Env} {outer : List Env} {L x : Addr} {oe : Obj} {vs : Array Value} {head : Value} {hadNext : Bool} {Q : Unit → Shared → Prop}
  (hfr : A.frames = some (env :: outer)) (hl : s.heap.FunFrames base (env :: outer)) (hf : env.frame = some L) (he : s.heap.get? x = some oe) (hdn : oe.dict = none) (hd : oe.data = .fields vs) (hsz : 1 < vs.size)
  (h : ∀ h' T',s.heap.objs.size ≤ T' → Xc h' x oe.cls (some T') → XcKeep ((env :: outer).filterMap (·.frame)) x none s.heap h' → Q () { s with heap := h' }) :
  wpAny M A (do let a ← frameOf env; let pl ← entryPlaceOf L hadNext; let b ← EntryCells.newEntry head a .none (rawInt L) .none pl; setField (.ref x) 1 b) (fun _ s' => wpAny M A (setFlight (.ref x) none) Q E s') E s := by
 have hene : x ∉ (env :: outer).filterMap (·.frame) := fun hm => by
  obtain ⟨_,o,ho,hnf⟩ := hl.mem hm
  rw [he] at ho; injection ho with ho; subst ho; exact hnf vs hd
 refine wpAny_bind (wpAny_frameOf_fun hfr hl hf fun h₁ hs₁ => ?_)
 refine wpAny_bind (wpAny_entryPlaceOf fun pl hpl => ?_)
 unfold EntryCells.newEntry newFields
 refine wpAny_bind (wpAny_newObj_type ?_ (hpl.sizeOk5 _ _ _ _ _))
 have he₁ : h₁.get? x = some oe := (hs₁.2.1 x hene).trans he
 have he₂ := Heap.get?_push_of_some (h := h₁) { cls := .type "traceback",dict := none,data := .fields ([head,.ref L,.none,rawInt L,.none] ++ (if pl.isEmpty then List.replicate 6 Value.none else pl)).toArray } he₁
 refine wpAny_setField he₂ hd hsz ?_
 have hTe : h₁.objs.size ≠ x := Nat.ne_of_gt (Heap.lt_size he₁)
 have hd₃ := Obj.data_mapFields hd (·.setIfInBounds 1 (Value.ref h₁.objs.size))
 have he₃ := Heap.get?_update_self (Obj.mapFields (·.setIfInBounds 1 (Value.ref h₁.objs.size))) he₂ (Obj.isFreed_of_fields hd₃)
 have hT₃ := (Heap.get?_update_other (h₁.push { cls := .type "traceback",dict := none,data := .fields ([head,.ref L,.none,rawInt L,.none] ++ (if pl.isEmpty then List.replicate 6 Value.none else pl)).toArray })
  (Obj.mapFields (·.setIfInBounds 1 (Value.ref h₁.objs.size))) (Ne.symm hTe)).trans (Heap.get?_push_size h₁ rfl)
 unfold setFlight
 refine wpAny_bind (wpAny_field he₃ hd₃ (x := .ref h₁.objs.size) (by simp [hsz]) ?_)
 rw [if_pos (show (Value.ref h₁.objs.size != Value.none) = true from by simp)]
 have hs1 : h₁.objs.size = s.heap.objs.size := hs₁.1
 refine wpAny_setField hT₃ rfl (by simp only [List.size_toArray,List.length_append,List.length_cons,List.length_nil] <;> omega) (h _ h₁.objs.size (by omega) ?_ ?_)
 ·refine ⟨_,_,?_,Obj.cls_mapFields _ _,(dict_mf _ _).trans hdn,hd₃,by simpa using hsz,.inr ⟨h₁.objs.size,_,_,rfl,by simp [hsz],hTe,Heap.get?_update_self _ hT₃ (Obj.isFreed_of_fields (Obj.data_mapFields rfl _)),Obj.data_mapFields rfl _,?_⟩⟩
  ·rw [Heap.get?_update_other _ _ hTe]; exact he₃
  ·first | (simp; done) | (rcases hpl with rfl | ⟨_,_,_,_,_,_,_,rfl⟩ <;> simp)
 ·have keep : ∀ b o,b ≠ x → h₁.get? b = some o →
    (((h₁.push { cls := .type "traceback",dict := none,data := .fields ([head,.ref L,.none,rawInt L,.none] ++ (if pl.isEmpty then List.replicate 6 Value.none else pl)).toArray }).update x (Obj.mapFields (·.setIfInBounds 1 (Value.ref h₁.objs.size)))).update h₁.objs.size
     (Obj.mapFields (·.setIfInBounds 3 ((none : Option Addr).elim Value.none fun f => rawInt f)))).get? b = some o := fun b o hbe hb => by
   have hbT : h₁.objs.size ≠ b := Nat.ne_of_gt (Heap.lt_size hb)
   rw [Heap.get?_update_other _ _ hbT,Heap.get?_update_other _ _ (Ne.symm hbe)]
   exact Heap.get?_push_of_some _ hb
  refine ⟨fun b o hb hbx _ hbf => keep b o hbx ((hs₁.2.1 b hbf).trans hb),fun b o hb hbf => ?_,?_⟩
  ·obtain ⟨sl,hsl⟩ := hs₁.2.2 b o hb
   exact ⟨sl,keep b _ (fun e => hene (e ▸ hbf)) hsl⟩
  ·rw [Heap.size_update,Heap.size_update,Heap.size_push]
   show s.heap.objs.size ≤ h₁.objs.size + 1
   omega
theorem xc_leaving {base : Heap} {env : Env} {outer : List Env} {L x : Addr} {C : Value} {T : Option Addr} {Q : Unit → Shared → Prop}
  (hfr : A.frames = some (env :: outer)) (hl : s.heap.FunFrames base (env :: outer)) (hf : env.frame = some L) (he : Xc s.heap x C T)
  (h : ∀ h' T',s.heap.objs.size ≤ T' → Xc h' x C (some T') → XcKeep ((env :: outer).filterMap (·.frame)) x T s.heap h' → Q () { s with heap := h' }) : wpAny M A (leaving env (.ref x)) Q E s := by
 obtain ⟨oe,vs,he,rfl,hdn,hd,hsz,h1⟩ := he
 unfold leaving noteFrame
 simp only [hf]
 rcases h1 with ⟨rfl,h1⟩ | ⟨a,oT,ts,rfl,h1,hax,hT,hdT,h3⟩
 ·refine wpAny_bind (wpAny_bind (wpAny_field he hd h1 ?_))
  rw [if_neg (by decide)]
  exact xc_entry hfr hl hf he hdn hd hsz h
 ·refine wpAny_bind (wpAny_bind (wpAny_field he hd h1 ?_))
  rw [if_pos (show (Value.ref a != Value.none) = true from by simp)]
  refine wpAny_bind (wpAny_field hT hdT h3 ?_)
  rw [if_neg (show ¬ ((Value.none == rawInt L) = true) from by simp [rawInt])]
  refine wpAny_bind (wpAny_setField hT hdT (Array.getElem?_eq_some_iff.mp h3).1 ?_)
  have other : ∀ b,b ≠ a → (s.heap.update a (Obj.mapFields (·.setIfInBounds 3 Value.none))).get? b = s.heap.get? b := fun b hb => Heap.get?_update_other _ _ (Ne.symm hb)
  have noRecord : ∀ b o,s.heap.get? b = some o → (∀ vs,o.data ≠ .fields vs) → b ≠ a := fun b o hb hnf q => by
   rw [q,hT] at hb; injection hb with hb; subst hb; exact hnf ts hdT
  refine xc_entry hfr (hl.of_keeps fun b o hb hnf => ⟨o,(other b (noRecord b o hb hnf)).trans hb,rfl⟩) hf ((other x (Ne.symm hax)).trans he) hdn hd hsz fun h' T' hT' hx hk => h h' T' (by rw [Heap.size_update] at hT'; exact hT') hx ?_
  obtain ⟨k1,k2,k3⟩ := hk
  refine ⟨fun b o hb hbx hbT hbf => k1 b o ((other b fun e => hbT (by rw [e])).trans hb) hbx (by simp) hbf,fun b o hb hbf => ?_,by rw [Heap.size_update] at k3; exact k3⟩
  obtain ⟨_,o',ho',hnf⟩ := hl.mem hbf
  rw [hb] at ho'; cases ho'
  exact k2 b o ((other b (noRecord b o hb hnf)).trans hb) hbf
end
end L2
end
section
namespace L2
open PySem PySem.Spec PyProof.Rows
def CX1 (P : Program) (w : World) : CXT := fun outer H s E e s' => ∃ (x C : Addr) (T : Option Addr) (H' : Hp),e = .ref x ∧ s'.os = s.os ∧ AllBare s'.gens ∧ Un (frs outer) [] H H' s.heap s'.heap ∧ HOk P w H' s'.heap ∧
 H' x = none ∧ s.heap.get? x = none ∧ (∀ a,T = some a → H' a = none ∧ s.heap.get? a = none) ∧ Xc s'.heap x (.ref C) T ∧ E e (some C) H'
theorem hok_xc {P : Program} {w : World} {H : Hp} {h h' : Heap} {fr : List Addr} {x : Addr} {T : Option Addr} (hok : HOk P w H h) (k : XcKeep fr x T h h') (hx : H x = none) (hT : ∀ a,T = some a → H a = none) (hf : ∀ b ∈ fr,H b = none) : HOk P w H h' := by
 intro b u e
 refine (hok b u e).stay (fun c v hc q => k.1 c v q ?_ ?_ ?_) (fun _ q => q) fun _ _ q => q
 all_goals
  have hcn : H c ≠ none := by
   rcases hc with z | z
   ·rw [z,e]; simp
   ·rw [z]; simp
 ·exact fun z => hcn (z ▸ hx)
 ·exact fun z => hcn (hT c z)
 ·exact fun z => hcn (hf c z)
theorem xc_out {P : Program} {w : World} {K : PySem.W.Frag} {mg : Str → Option Value} {base : Heap} {N : List Str} {qual : Str} {scope : Scope} {f : Addr} {cd : Value} {A : Around} {outer : List Env} {s : Shared} {H : Hp} {E : XK}
  {pins : List (Addr × Obj)} {σ : St} {H' : Hp} {s' : Shared} {x C : Addr} {T : Option Addr} (I : Inv (cxOf (CX1 P w) P w K mg base N qual scope f cd A outer s H E) pins σ H' s')
  (hx : Xc s'.heap x (.ref C) T) (hx0 : H' x = none) (hxs : s.heap.get? x = none) (hT : ∀ a,T = some a → H' a = none ∧ s.heap.get? a = none) (hE : E (.ref x) (some C) H') :
  (cxOf (CX1 P w) P w K mg base N qual scope f cd A outer s H E).xe (.ref x) s' := by
 show wpAny (model P w) (A.deeper (envOfC qual scope s.heap.objs.size f cd)) (leaving (envOfC qual scope s.heap.objs.size f cd) (.ref x)) _ _ s'
 refine xc_leaving I.ok.frames I.stack rfl hx fun h' T' hT' hx' hk => ?_
 have hfr := I.stkFree
 have hsz : s.heap.objs.size ≤ s'.heap.objs.size := I.sz
 have old : ∀ b o,s.heap.get? b = some o → b ≠ x ∧ T ≠ some b ∧ b ≠ s.heap.objs.size := fun b o e => by
  have hb := Heap.lt_size e
  exact ⟨fun z => (by rw [z,hxs] at e; cases e),fun z => (by rw [(hT b z).2] at e; cases e),Nat.ne_of_lt hb⟩
 have up : ∀ b o o',s.heap.get? b = some o → s'.heap.get? b = some o' → b ∉ frs outer → h'.get? b = some o' := fun b o o' e e' hb => by
  obtain ⟨n1,n2,n3⟩ := old b o e
  refine hk.1 b o' e' n1 n2 fun hm => ?_
  have hm' : b ∈ s.heap.objs.size :: frs outer := hm
  rcases List.mem_cons.mp hm' with z | z
  ·exact n3 z
  ·exact hb z
 have upf : ∀ b o',s'.heap.get? b = some o' → b ∈ frs outer → ∃ sl,h'.get? b = some { o' with slots := sl } := fun b o' e' hb => hk.2.1 b o' e' (show b ∈ s.heap.objs.size :: frs outer from List.mem_cons_of_mem _ hb)
 have nex : ∀ b : Addr,b ∉ (cxOf (CX1 P w) P w K mg base N qual scope f cd A outer s H E).ex := fun b z => absurd (show b ∈ ([] : List Addr) from z) (by simp)
 refine ⟨x,C,some T',H',rfl,I.os,I.bare,⟨fun b o q n hb hx => ?_,fun b o q n hb hx => ?_,fun b o q n hx => I.base.free b o q n (nex b),fun b o q hx => ?_,I.base.tups,I.base.frzs,I.base.tbls⟩,hok_xc I.hok hk hx0 (fun a e => (hT a e).1) hfr,hx0,hxs,fun a e => ?_,hx',hE⟩
 ·exact up b o o q (I.base.keep b o q n hb (nex b)) hb
 ·obtain ⟨sl,e⟩ := I.base.slot b o q n hb (nex b)
  obtain ⟨sl',e'⟩ := upf b _ e hb
  exact ⟨sl',e'⟩
 ·obtain ⟨o',e⟩ := I.base.there b o q (nex b)
  by_cases hb : b ∈ frs outer
  ·obtain ⟨sl,e'⟩ := upf b o' e hb
   exact ⟨_,e'⟩
  ·exact ⟨o',up b o o' q e hb⟩
 ·cases e
  refine ⟨I.hok.fresh hT',?_⟩
  cases q : s.heap.get? T' with
  | none => rfl
  | some o => exact absurd (Heap.lt_size q) (Nat.not_lt.mpr (Nat.le_trans hsz hT'))
theorem pass1 {P : Program} {w : World} {K : PySem.W.Frag} {mg : Str → Option Value} {base : Heap} {N : List Str} {qual : Str} {scope : Scope} {f : Addr} {cd : Value} {A : Around} {outer : List Env} {s : Shared} {H : Hp} {E : XK} :
  Passes (CX1 P w) (cxOf (CX1 P w) P w K mg base N qual scope f cd A outer s H E) E := by
 rintro pins σ H1 s1 e s2 I ⟨x,C,T,H',rfl,os,bare,un,hok,hx0,hxs,hT,hx,hE⟩
 have I2 : Inv (cxOf (CX1 P w) P w K mg base N qual scope f cd A outer s H E) pins σ H' s2 := I.call' (ch := []) os un hok bare (fun b z => absurd z (by simp))
 have back : ∀ b,s1.heap.get? b = none → s.heap.get? b = none := fun b hb => by
  cases q : s.heap.get? b with
  | none => rfl
  | some o =>
   obtain ⟨o',e⟩ := I.base.there b o q (fun z => absurd (show b ∈ ([] : List Addr) from z) (by simp))
   rw [hb] at e; cases e
 exact xc_out I2 hx hx0 (back x hxs) (fun a e => ⟨(hT a e).1,back a (hT a e).2⟩) hE
theorem Fun.ok1 {P : Program} {w : World} {K : PySem.W.Frag} {mg : Str → Option Value} {base : Heap} {x qual : Str} {st : Stmt} {f : Addr} {fd : FuncData} {N ps : List Str} {k : Nat} {sp : Sp} (F : Fun K x qual st f fd) (S : FnScope N ps (defScope st)) (len : ∀ vs H Q E,sp vs H Q E → vs.length = ps.length)
  (hbody : ∀ (cdv : Value) (A : Around) (outer : List Env) (s : Shared) (H : Hp) (vs : List V) (Q : VK) (E : XK),Room k (A.deeper (envOfC qual (defScope st) s.heap.objs.size f cdv)) → sp vs H Q E →
   ∃ t,PSs (cxOf (CX1 P w) P w K mg base N qual (defScope st) f cdv A outer s H E) (defBody st) t ∧ t { nx := fun _ H' => Q .non H',rt := Q } (start N vs) H) : FnOk P w K mg base (CX1 P w) (k + 1) f fd ps sp := by
 obtain ⟨oc,od,kV,doc,pm,an,cdv,ct,osl,rfl,lk,hcd⟩ := F.ex
 exact fn_of lk hcd S len fun A outer s H vs Q E hr hsp => hbody cdv A outer s H vs Q E hr hsp
theorem ob_there {P : Program} {w : World} {H : Hp} {h : Heap} {a : Addr} {o : HO} (x : ObjOk P w H h a o) : ∃ ob,h.get? a = some ob := by
 cases o with
 | lst xs => obtain ⟨_,_,_,_,e⟩ := x; exact ⟨_,e⟩
 | tup xs => obtain ⟨_,_,_,o,e,_⟩ := x; exact ⟨_,e⟩
 | dK kvs => obtain ⟨_,_,_,_,o,_,_,e,_⟩ := x; exact ⟨_,e⟩
 | dT kvs => obtain ⟨_,_,_,_,o,_,_,e,_⟩ := x; exact ⟨_,e⟩
 | set S n => obtain ⟨o,_,_,_,e,_⟩ := x; exact ⟨_,e⟩
 | ins C dx fs => obtain ⟨_,_,_,e,_⟩ := x; exact ⟨_,e⟩
 | own y => exact x
 | xd fs => obtain ⟨_,⟨_,_,_,e,_⟩,_⟩ := x; exact ⟨_,e⟩
 | met f y => exact ⟨_,x⟩
 | rng lo hi => obtain ⟨_,_,_,e⟩ := x; exact ⟨_,e⟩
 | frz ob u => exact ⟨_,x.1⟩
 | tbl ps => exact ⟨_,x⟩
 | ext φ => exact x.2.1
theorem exc_obj {K : PySem.W.Frag} {h : Heap} {C : Addr} {bmB : List Value} {newId : String} (X : K.In h) (q : PySem.W.excIn K C bmB newId = true) :
  ∃ bm N nm qn bs hdct sn sub ab col dd k0 k1 k2 k3 k5,∃ mN : Str → Option Value,mN "__init__" = none ∧ (∀ T,bmB.contains (.type T) = true → bm.contains (.type T) = true) ∧ ∀ h' : Heap,K.In h' → h'.get? C = some (excClassObj nm qn C N bs bm hdct sn sub ab col dd k0 k1 k2 k3 k5 newId) ∧ h'.Ns N mN ∧ OwnTail h' bmB bm := by
 unfold PySem.W.excIn at q
 split at q
 ·rename_i dd cd sl ho
  split at q
  ·rename_i C' bm k0 k1 k2 k3 n k5 hm hs
   simp only [Bool.and_eq_true,beq_iff_eq,Bool.not_eq_true'] at q
   obtain ⟨⟨⟨⟨⟨rfl,rfl⟩,hdel⟩,ht⟩,hok⟩,hni⟩ := q
   obtain ⟨nm,bs,mro,ns,qn,hd,sn,sub,ab,col,del⟩ := cd
   dsimp only at hm hdel hok hni
   subst hm hdel
   have hsl : sl = #[k0,k1,k2,k3,some (.builtin n),k5] := by
    obtain ⟨l⟩ := sl
    simp only at hs
    rw [hs]
   subst hsl
   refine ⟨bm,ns,nm,qn,bs,hd,sn,sub,ab,col,dd,k0,k1,k2,k3,k5,h.nsMap ns,PySem.W.nsMap_none_of_in X hok hni,fun T hT => (PySem.W.tail_of_in X ht).hasType hT,fun h' X' => ⟨X' _ _ ho,?_,PySem.W.tail_of_in X' ht⟩⟩
   have hN : h.Ns ns (h.nsMap ns) := .of_isNs (PySem.W.isNs_of_in X hok)
   unfold PySem.W.nsOkIn at hok
   split at hok
   ·rename_i c1 d1 es1 ep1 sl1 ho1
    exact hN.at' fun o e => by
     rw [X _ _ ho1] at e
     rw [← e]
     exact X' _ _ ho1
   ·cases hok
  ·cases q
 ·cases q
abbrev bmV : List Value := [.type "ValueError",.type "Exception",.type "BaseException",.type "object"]
section
variable {X : Cx}
def tRaise (EX : XK) (C : Addr) : TS := fun _ _ H => ∀ x,H x = none → EX (.ref x) (some C) H
theorem ps_raise {x : Str} {C : Addr} {msg : Str} {j : Nat} {np mp cpos pos : Pos} {EX : XK} (hc : X.calm = true) (hg : Gl X x) (hm : X.mg x = some (.ref C)) (q : PySem.W.excIn X.K C bmV "ValueError.__new__" = true)
  (hxe : ∀ (pins : List (Addr × Obj)) (σ : St) (H : Hp) (s : Shared) (x : Addr),Inv X pins σ H s → Xc s.heap x (.ref C) none → H x = none → X.s₀.heap.get? x = none → EX (.ref x) (some C) H → X.xe (.ref x) s)
  (hex : X.ex = [] := by rfl) (hd : (x == ("__debug__" : Str)) = false := by decide) (hplain : (backTo cpos (starEach [Expr.Constant (.str msg) j mp] X.env)).any (·.1) = false := by rfl) :
  PS X (.Raise (some (.Call (.Name x np) [.Constant (.str msg) j mp] [] cpos)) none pos) (tRaise EX C) := by
 intro pins s σ H D I h
 obtain ⟨bm,N,nm,qn,bs,hdct,sn,sub,ab,col,dd,k0,k1,k2,k3,k5,mN,hni,hbm,hat⟩ := exc_obj I.kIn q
 refine wpAny_Raise_call_subU (C := C) (nm := nm) (q := qn) (N := N) (bs := bs) (bm := bm) (hdct := hdct) (sn := sn) (sub := sub) (ab := ab) (col := col) (dd := dd) (k0 := k0) (k1 := k1) (k2 := k2) (k3 := k3) (k5 := k5) PySem.F.excBase_ValueError PySem.F.excBase_ValueError.hasB PySem.F.excBase_ValueError (hbm _ PySem.F.excBase_ValueError.hasBase) (I.ok.hd hc) hplain hni ?_
 refine thn (pe_glob (v := .ref C) hg hm rfl hd pins s σ H (fun v H1 => v = .ref C ∧ H1 = H) I ⟨rfl,rfl⟩) fun f s₁ ⟨v,H1,I1,r1,e1,e2⟩ => ?_
 subst e1 e2
 cases r1
 refine ⟨rfl,?_⟩
 have hA := (pa_cons pe_str pa_nil : PA X [Expr.Constant (.str msg) j mp] _) cpos pins s₁ σ H1 (fun vs H2 => vs = [.str msg] ∧ H2 = H1) I1 ⟨rfl,rfl⟩
 refine Calls.evalArgs_plain (thn hA fun us s₂ ⟨vs,H2,I2,r2,e3,e4⟩ => ?_)
 subst e3 e4
 obtain ⟨c1,c2,c3⟩ := hat s₂.heap I2.kIn
 refine ⟨rfl,?_,c1,c2,c3,fun h' e hm => ?_⟩
 ·rw [← r2.length]; show 1 ≤ sizeLine; decide
 obtain ⟨t,ht,_,_⟩ := hm.there
 have I3 : Inv X pins σ H2 { s₂ with heap := h' } := I2.kept (t' := s₂.toks) hm.keeps
 have he : H2 e = none := by
  cases z : H2 e with
  | none => rfl
  | some u =>
   obtain ⟨o,ho⟩ := ob_there (I2.hok e u z)
   rw [hm.new] at ho; cases ho
 refine hxe pins σ H2 _ e I3 ⟨_,_,ht,rfl,rfl,rfl,(by show 1 < 6; decide),.inl ⟨rfl,rfl⟩⟩ he ?_ (h e he)
 cases z : X.s₀.heap.get? e with
 | none => rfl
 | some o =>
  obtain ⟨o',ho⟩ := I2.base.there e o z (by rw [hex]; simp)
  rw [hm.new] at ho; cases ho
end
end L2
end
section
namespace L2
open PySem PySem.Spec PyProof.Rows
section
variable {M : Model} {A : Around} {E : Value → Shared → Prop} {s : Shared}
theorem xc_note {base : Heap} {env : Env} {outer : List Env} {L x : Addr} {C : Value} {T : Option Addr} {Q : Unit → Shared → Prop}
  (hfr : A.frames = some (env :: outer)) (hl : s.heap.FunFrames base (env :: outer)) (hf : env.frame = some L) (he : Xc s.heap x C T)
  (h : ∀ h' T',s.heap.objs.size ≤ T' → Xc h' x C (some T') → XcKeep ((env :: outer).filterMap (·.frame)) x T s.heap h' → Q () { s with heap := h' }) :
  wpAny M A (noteFrame (.ref x) env) (fun _ s₂ => wpAny M A (setFlight (.ref x) none) Q E s₂) E s := by
 obtain ⟨oe,vs,he,rfl,hdn,hd,hsz,h1⟩ := he
 unfold noteFrame
 simp only [hf]
 rcases h1 with ⟨rfl,h1⟩ | ⟨a,oT,ts,rfl,h1,hax,hT,hdT,h3⟩
 ·refine wpAny_bind (wpAny_field he hd h1 ?_)
  rw [if_neg (by decide)]
  exact xc_entry hfr hl hf he hdn hd hsz h
 ·refine wpAny_bind (wpAny_field he hd h1 ?_)
  rw [if_pos (show (Value.ref a != Value.none) = true from by simp)]
  refine wpAny_bind (wpAny_field hT hdT h3 ?_)
  rw [if_neg (show ¬ ((Value.none == rawInt L) = true) from by simp [rawInt])]
  refine wpAny_bind (wpAny_setField hT hdT (Array.getElem?_eq_some_iff.mp h3).1 ?_)
  have other : ∀ b,b ≠ a → (s.heap.update a (Obj.mapFields (·.setIfInBounds 3 Value.none))).get? b = s.heap.get? b := fun b hb => Heap.get?_update_other _ _ (Ne.symm hb)
  have noRecord : ∀ b o,s.heap.get? b = some o → (∀ vs,o.data ≠ .fields vs) → b ≠ a := fun b o hb hnf q => by
   rw [q,hT] at hb; injection hb with hb; subst hb; exact hnf ts hdT
  refine xc_entry hfr (hl.of_keeps fun b o hb hnf => ⟨o,(other b (noRecord b o hb hnf)).trans hb,rfl⟩) hf ((other x (Ne.symm hax)).trans he) hdn hd hsz fun h' T' hT' hx hk => h h' T' (by rw [Heap.size_update] at hT'; exact hT') hx ?_
  obtain ⟨k1,k2,k3⟩ := hk
  refine ⟨fun b o hb hbx hbT hbf => k1 b o ((other b fun e => hbT (by rw [e])).trans hb) hbx (by simp) hbf,fun b o hb hbf => ?_,by rw [Heap.size_update] at k3; exact k3⟩
  obtain ⟨_,o',ho',hnf⟩ := hl.mem hbf
  rw [hb] at ho'; cases ho'
  exact k2 b o ((other b (noRecord b o hb hnf)).trans hb) hbf
theorem xc_flight {x : Addr} {C : Value} {T : Addr} {Q : Unit → Shared → Prop} (he : Xc s.heap x C (some T))
  (h : ∀ h',Xc h' x C (some T) → XcKeep [] x (some T) s.heap h' → Q () { s with heap := h' }) : wpAny M A (setFlight (.ref x) none) Q E s := by
 obtain ⟨oe,vs,he,rfl,hdn,hd,hsz,h1⟩ := he
 rcases h1 with ⟨z,_⟩ | ⟨a,oT,ts,z,h1,hax,hT,hdT,h3⟩
 ·cases z
 cases z
 unfold setFlight
 refine wpAny_bind (wpAny_field he hd h1 ?_)
 rw [if_pos (show (Value.ref T != Value.none) = true from by simp)]
 have hlt := (Array.getElem?_eq_some_iff.mp h3).1
 refine wpAny_setField hT hdT hlt (h _ ?_ ?_)
 ·refine ⟨oe,vs,?_,rfl,hdn,hd,hsz,.inr ⟨T,_,_,rfl,h1,hax,Heap.get?_update_self _ hT (Obj.isFreed_of_fields (Obj.data_mapFields hdT _)),Obj.data_mapFields hdT _,?_⟩⟩
  ·rw [Heap.get?_update_other _ _ hax]; exact he
  ·simp [hlt]
 ·refine ⟨fun b o hb hbx hbT _ => ?_,fun b o _ z => absurd z (by simp),by rw [Heap.size_update]; exact Nat.le_refl _⟩
  rw [Heap.get?_update_other _ _ (fun e => hbT (by rw [e]))]; exact hb
theorem xc_matches {C S : Addr} {nm q N bs bm hdct sn sub ab col dd k0 k1 k2 k3 k5 newId} {nm' q' N' bs' bm' hdct' sn' sub' ab' col' dd' k0' k1' k2' k3' k5' newId'} {h : Heap} {g : Array GenState} {d : Drawn} {t : Nat} {os : OsState} {e : Addr} {oe : Obj} {Q : Bool → Shared → Prop}
  (hC : h.get? C = some (excClassObj nm q C N bs bm hdct sn sub ab col dd k0 k1 k2 k3 k5 newId)) (hS : h.get? S = some (excClassObj nm' q' S N' bs' bm' hdct' sn' sub' ab' col' dd' k0' k1' k2' k3' k5' newId')) (he : h.get? e = some oe) (hcls : oe.cls = .ref C)
  (hbase : bm'.contains (.type "BaseException") = true) (hsub : (Value.ref C :: bm).contains (.ref S) = true)
  (hq : Q true ⟨h,g,d,t,os⟩) : wpAny M A (excMatches (.ref e) (.ref S)) Q E ⟨h,g,d,t,os⟩ := by
 have hcB : (Value.ref S :: bm').contains (.type "BaseException") = true := by rw [List.contains_cons,hbase,Bool.or_true]
 have f := tc_notTuple
 unfold excMatches
 repeat (first | (with_reducible refine wpAny_loadPart_at he ?_; rw [hcls]) | with_reducible refine wpAny_loadPart_at hS ?_ | (with_reducible refine wpAny_isSubtype_exc hS ?_; rw [hcB]) | (with_reducible refine wpAny_isSubtype_exc hC ?_; rw [hsub]) | wp_step)
 exact hq
end
section
variable {X : Cx} {pins : List (Addr × Obj)} {σ : List (Option V)} {H H' : Hp} {s : Shared} {h' : Heap}
structure Off (X : Cx) (pins : List (Addr × Obj)) (x : Addr) : Prop where
 s0 : X.s₀.heap.get? x = none
 lo : x ≠ X.env.locals
 ce : ∀ y c,X.env.cells.lookup y = some c → c ≠ x
 pn : ∀ p ∈ X.pn ++ pins,p.1 ≠ x
theorem Inv.off (I : Inv X pins σ H s) (hex : X.ex = []) {x : Addr} (h : s.heap.get? x = none) : Off X pins x := by
 refine ⟨?_,fun e => ?_,fun y c e z => ?_,fun p hp z => ?_⟩
 ·cases q : X.s₀.heap.get? x with
  | none => rfl
  | some o =>
   obtain ⟨o',e⟩ := I.base.there x o q (by rw [hex]; simp)
   rw [h] at e; cases e
 ·obtain ⟨m,⟨o,_,_,ho,_⟩,_⟩ := I.loc
  rw [← e,h] at ho; cases ho
 ·obtain ⟨v,o,ho,_⟩ := I.cell y c e
  rw [z,h] at ho; cases ho
 ·have := (I.pin p hp).1
  rw [z,h] at this; cases this
theorem Inv.stepN {ch : List Addr} (I : Inv X pins σ H s) (hch : ∀ b ∈ ch,Off X pins b)
  (keep : ∀ b o,b ≠ X.env.locals → b ∉ X.fs → b ∉ ch → s.heap.get? b = some o → H b = none → h'.get? b = some o)
  (slot : ∀ b o,b ≠ X.env.locals → b ∈ X.fs → b ∉ ch → s.heap.get? b = some o → H b = none → ∃ sl,h'.get? b = some { o with slots := sl }) (free : ∀ b o,b ∉ ch → s.heap.get? b = some o → H b = none → H' b = none)
  (there : ∀ b o,b ∉ ch → s.heap.get? b = some o → ∃ o',h'.get? b = some o')
  (tups : ∀ b xs,H b = some (.tup xs) → H' b = some (.tup xs)) (frzs : ∀ b o u,H b = some (.frz o u) → H' b = some (.frz o u)) (tbls : ∀ b ps,H b = some (.tbl ps) → ∃ more,H' b = some (.tbl (ps ++ more)))
  (ns : ∀ m,s.heap.Ns X.env.locals m → h'.Ns X.env.locals m) (hok : HOk X.prog X.w H' h') :
  Inv X pins σ H' { s with heap := h' } := by
 have neL : ∀ b o,X.s₀.heap.get? b = some o → b ≠ X.env.locals := fun b o e => Nat.ne_of_lt (Nat.lt_of_lt_of_le (Heap.lt_size e) I.ok.above)
 have neC : ∀ b o,X.s₀.heap.get? b = some o → b ∉ ch := fun b o e hb => by
  rw [(hch b hb).s0] at e; cases e
 have cellK : ∀ x c,X.env.cells.lookup x = some c → ∀ v,s.heap.IsCell c v → h'.IsCell c v := fun x c e v ⟨o,ho,hd⟩ => by
  have nch : c ∉ ch := fun z => (hch c z).ce x c e rfl
  by_cases hc : c ∈ X.fs
  ·obtain ⟨sl,q⟩ := slot c o (I.cne x c e) hc nch ho (I.freeC x c e)
   exact ⟨_,q,hd⟩
  ·exact ⟨o,keep c o (I.cne x c e) hc nch ho (I.freeC x c e),hd⟩
 refine ⟨I.ok,I.os,I.bare,⟨fun b o e n hb hx => ?_,fun b o e n hb hx => ?_,fun b o e n hx => ?_,fun b o e hx => ?_,fun b xs e => tups b xs (I.base.tups b xs e),fun b o xs e => frzs b o xs (I.base.frzs b o xs e),fun b ps e => ?_⟩,?_,fun x c e => ?_,?_,fun x c e => ?_,fun p hp => ?_,hok,I.len⟩
 ·exact keep b o (neL b o e) hb (neC b o e) (I.base.keep b o e n hb hx) (I.base.free b o e n hx)
 ·obtain ⟨sl,e1⟩ := I.base.slot b o e n hb hx
  obtain ⟨sl',e2⟩ := slot b _ (neL b o e) hb (neC b o e) e1 (I.base.free b o e n hx)
  exact ⟨sl',e2⟩
 ·obtain ⟨o',e1⟩ := I.base.there b o e hx
  exact free b o' (neC b o e) e1 (I.base.free b o e n hx)
 ·obtain ⟨o',e1⟩ := I.base.there b o e hx
  exact there b o' (neC b o e) e1
 ·obtain ⟨m1,e1⟩ := I.base.tbls b ps e
  obtain ⟨m2,e2⟩ := tbls b _ e1
  exact ⟨m1 ++ m2,by rw [e2,Array.append_assoc]⟩
 ·obtain ⟨m,hn,hl⟩ := I.loc
  refine ⟨m,ns m hn,fun i x v e1 e2 e3 => ?_⟩
  obtain ⟨u,r,l⟩ := hl i x v e1 e2 e3
  refine ⟨u,r,?_⟩
  rcases l with l | ⟨k,c,e,z⟩
  ·exact .inl l
  ·exact .inr ⟨k,c,e,cellK x c e _ z⟩
 ·obtain ⟨v,z⟩ := I.cell x c e
  exact ⟨v,cellK x c e v z⟩
 ·obtain ⟨m,⟨o,_,_,ho,_⟩,_⟩ := I.loc
  exact free _ o (fun z => (hch _ z).lo rfl) ho I.free
 ·obtain ⟨v,o,ho,hd⟩ := I.cell x c e
  exact free c o (fun z => (hch c z).ce x c e rfl) ho (I.freeC x c e)
 ·obtain ⟨e,n,ne,nf,d⟩ := I.pin p hp
  have nch : p.1 ∉ ch := fun z => (hch p.1 z).pn p hp rfl
  exact ⟨keep p.1 p.2 ne nf nch e n,free p.1 p.2 nch e n,ne,nf,d⟩
theorem Inv.xkeep {fr : List Addr} {x : Addr} {T : Option Addr} (I : Inv X pins σ H s) (k : XcKeep fr x T s.heap h') (hfr : ∀ b ∈ fr,b ∈ frs X.stack) (ox : Off X pins x) (hx : H x = none) (oT : ∀ a,T = some a → Off X pins a ∧ H a = none) : Inv X pins σ H { s with heap := h' } := by
 have sl : ∀ b o,b ∉ (x :: T.toList) → s.heap.get? b = some o → ∃ sl,h'.get? b = some { o with slots := sl } := fun b o hc e => by
  by_cases hb : b ∈ fr
  ·exact k.2.1 b o e hb
  ·exact ⟨o.slots,k.1 b o e (fun z => hc (by simp [z])) (fun z => hc (by simp [z])) hb⟩
 refine I.stepN (ch := x :: T.toList) (fun b hb => ?_) (fun b o hL hb hc e _ => ?_) (fun b o _ _ hc e _ => sl b o hc e) (fun _ _ _ _ n => n) (fun b o hc e => ?_) (fun _ _ e => e) (fun _ _ _ e => e) (fun b ps e => ⟨#[],by rw [e]; simp⟩) (fun m hm => ?_) (hok_xc I.hok k hx (fun a e => (oT a e).2) fun b hb => I.stkFree b (hfr b hb))
 ·rcases List.mem_cons.mp hb with z | z
  ·rw [z]; exact ox
  ·exact (oT b (by simpa using z)).1
 ·exact k.1 b o e (fun z => hc (by simp [z])) (fun z => hc (by simp [z])) fun z => (List.mem_cons.mp (I.stkSub b (hfr b z))).elim hL hb
 ·obtain ⟨z,e⟩ := sl b o hc e
  exact ⟨_,e⟩
 ·obtain ⟨o,es,ep,ho,r⟩ := hm
  obtain ⟨z,e⟩ := sl _ o (fun z => by
   rcases List.mem_cons.mp z with z | z
   ·exact ox.lo z.symm
   ·exact (oT _ (by simpa using z)).1.lo rfl) ho
  exact ⟨_,es,ep,e,r⟩
abbrev excO (x C : Addr) : HO := .ext fun h => ∃ o,PySem.W.InstAt h x o C none
theorem Inv.know {x C : Addr} {T : Option Addr} (I : Inv X pins σ H s) (hx : H x = none) (ox : Off X pins x) (e : Xc s.heap x (.ref C) T) : Inv X pins σ (upd H x (excO x C)) s := by
 obtain ⟨oe,vs,he,hc,hdn,hda,_⟩ := e
 have hno : PySem.W.notCls oe = true := by unfold PySem.W.notCls; rw [hda]
 have hdc : match oe.dict,(none : Option Obj) with | some dx,some o => s.heap.get? dx = some o | none,none => True | _,_ => False := by rw [hdn]; trivial
 have ne : ∀ b u,H b = some u → b ≠ x := fun b u e z => by rw [z,hx] at e; cases e
 refine I.stepN (h' := s.heap) (ch := [x]) (fun b hb => ?_) (fun b o _ _ _ e _ => e) (fun b o _ _ _ e _ => ⟨o.slots,e⟩) (fun b o hc _ n => ?_) (fun b o _ e => ⟨o,e⟩) (fun b xs e => ?_) (fun b o u e => ?_) (fun b ps e => ⟨#[],?_⟩) (fun m hm => hm) (fun b u e => ?_)
 ·obtain rfl : b = x := by simpa using hb
  exact ox
 ·rw [upd_ne (fun z => hc (by simp [z]))]; exact n
 ·rw [upd_ne (ne b _ e)]; exact e
 ·rw [upd_ne (ne b _ e)]; exact e
 ·rw [upd_ne (ne b _ e),e]; simp
 ·by_cases hb : b = x
  ·subst hb
   rw [upd_same] at e; cases e
   refine ⟨⟨oe,he,hc,hno,hdc⟩,⟨oe,he⟩,fun h1 h2 ⟨o,e1,e2,e3,e4⟩ q => ⟨o,q o e1,e2,e3,?_⟩⟩
   cases z : o.dict with
   | none => trivial
   | some dx => rw [z] at e4; exact e4.elim
  ·rw [upd_ne hb] at e
   refine (I.hok b u e).stay (fun c v _ q => q) (fun c q => ?_) fun c xs q => ?_
   ·rw [upd_ne (ne c _ q)]; exact q
   ·rw [upd_ne (ne c _ q)]; exact q
end
end L2
end
section
namespace L2
open PySem PySem.Spec PyProof.Rows
section
variable {X : Cx} {pins pins' : List (Addr × Obj)} {σ : List (Option V)} {H H' : Hp} {s : Shared} {h' : Heap} {EB : XK}
def XeT (X : Cx) (pins : List (Addr × Obj)) (EB : XK) : Value → Shared → Prop := fun e s => ∃ (x C : Addr) (T : Option Addr) (σ : St) (H : Hp),e = .ref x ∧ Inv X pins σ H s ∧ Xc s.heap x (.ref C) T ∧ H x = none ∧ Off X pins x ∧ (∀ a,T = some a → Off X pins a ∧ H a = none) ∧ EB (.ref x) (some C) H
abbrev XB (X : Cx) (pins : List (Addr × Obj)) (EB : XK) : Cx := { X with pn := X.pn ++ pins,xe := XeT X pins EB }
abbrev XH (X : Cx) (pins : List (Addr × Obj)) (x : Addr) : Cx := { X with A := X.A.mark (some (.ref x)),calm := false,pn := X.pn ++ pins,xe := fun _ _ => False }
theorem Inv.toB (I : Inv X pins σ H s) : Inv (XB X pins EB) [] σ H s :=
 ⟨⟨I.ok.mod,I.ok.kind,I.ok.glob,I.ok.blt,I.ok.above,I.ok.inj,I.ok.has,I.ok.cab,I.ok.hd,I.ok.frames,I.ok.stk,I.ok.exf,I.ok.bs,I.ok.bsz,I.ok.noex,I.ok.exfs,I.ok.funs,I.ok.frf⟩,I.os,I.bare,I.base,I.loc,I.cell,I.free,I.freeC,
  fun p hp => I.pin p (by simpa using hp),I.hok,I.len⟩
theorem Inv.ofB (I : Inv (XB X pins EB) pins' σ H s) : Inv X pins σ H s :=
 ⟨⟨I.ok.mod,I.ok.kind,I.ok.glob,I.ok.blt,I.ok.above,I.ok.inj,I.ok.has,I.ok.cab,I.ok.hd,I.ok.frames,I.ok.stk,I.ok.exf,I.ok.bs,I.ok.bsz,I.ok.noex,I.ok.exfs,I.ok.funs,I.ok.frf⟩,I.os,I.bare,I.base,I.loc,I.cell,I.free,I.freeC,
  fun p hp => I.pin p (List.mem_append_left _ hp),I.hok,I.len⟩
theorem Inv.toH {x : Addr} (I : Inv X pins σ H s) : Inv (XH X pins x) [] σ H s :=
 ⟨⟨I.ok.mod,I.ok.kind,I.ok.glob,I.ok.blt,I.ok.above,I.ok.inj,I.ok.has,I.ok.cab,(fun z => nomatch z),I.ok.frames,I.ok.stk,I.ok.exf,I.ok.bs,I.ok.bsz,I.ok.noex,I.ok.exfs,I.ok.funs,I.ok.frf⟩,I.os,I.bare,I.base,I.loc,I.cell,I.free,I.freeC,
  fun p hp => I.pin p (by simpa using hp),I.hok,I.len⟩
theorem Inv.ofH {x : Addr} (I : Inv (XH X pins x) pins' σ H s) (hd : X.calm = true → X.A.handled = none) : Inv X pins σ H s :=
 ⟨⟨I.ok.mod,I.ok.kind,I.ok.glob,I.ok.blt,I.ok.above,I.ok.inj,I.ok.has,I.ok.cab,hd,I.ok.frames,I.ok.stk,I.ok.exf,I.ok.bs,I.ok.bsz,I.ok.noex,I.ok.exfs,I.ok.funs,I.ok.frf⟩,I.os,I.bare,I.base,I.loc,I.cell,I.free,I.freeC,
  fun p hp => I.pin p (List.mem_append_left _ hp),I.hok,I.len⟩
theorem SP.ofB {D : Ends} {f : Flow} {s' : Shared} (h : SP (XB X pins EB) [] D f s') : SP X pins D f s' := by
 cases f with
 | next => obtain ⟨σ',H',I,q⟩ := h; exact ⟨σ',H',I.ofB,q⟩
 | brk => obtain ⟨σ',H',I,q⟩ := h; exact ⟨σ',H',I.ofB,q⟩
 | cont => obtain ⟨σ',H',I,q⟩ := h; exact ⟨σ',H',I.ofB,q⟩
 | ret u => obtain ⟨v,σ',H',I,r,q⟩ := h; exact ⟨v,σ',H',I.ofB,r,q⟩
theorem passT (hex : X.ex = []) : Passes (CX1 X.prog X.w) (XB X pins EB) EB := by
 rintro pins' σ H1 s1 e s2 I ⟨x,C,T,H',rfl,os,bare,un,hok,hx0,hxs,hT,hx,hE⟩
 have I2 : Inv (XB X pins EB) pins' σ H' s2 := I.call' (ch := []) os un hok bare (fun b z => absurd z (by simp))
 have J : Inv X pins σ H1 s1 := I.ofB
 exact ⟨x,C,T,σ,H',rfl,I2.ofB,hx,hx0,J.off hex hxs,fun a e => ⟨J.off hex (hT a e).2,(hT a e).1⟩,hE⟩
theorem Inv.gone {i : Nat} {n : Str} {m : Str → Option Value} {u : Option Value} (I : Inv X pins σ H s) (hN : X.N.Nodup) (hi : X.N[i]? = some n)
  (hl : ∀ (i : Nat) (x : Str) (v : V),X.N[i]? = some x → σ[i]? = some (some v) → Vis X.env.scope x → ∃ u,RelV v u ∧ Look X.env s.heap m x u)
  (hn : h'.Ns X.env.locals fun y => if y = n then u else m y) (hs : Heap.SameBut X.env.locals s.heap h') : Inv X pins (σ.set i none) H { s with heap := h' } := by
 have hiσ : i < σ.length := by rw [I.len]; exact (List.getElem?_eq_some_iff.mp hi).1
 refine ⟨I.ok,I.os,I.bare,⟨fun b o e n hb hx => ?_,fun b o e n hb hx => ?_,I.base.free,fun b o e hx => ?_,I.base.tups,I.base.frzs,I.base.tbls⟩,⟨_,hn,fun j y v' e1 e2 e3 => ?_⟩,fun y c e => ?_,I.free,I.freeC,fun p hp => ?_,fun b ob e => ?_,by simpa using I.len⟩
 ·exact (hs.2 b (Nat.ne_of_lt (Nat.lt_of_lt_of_le (Heap.lt_size e) I.ok.above))).trans (I.base.keep b o e n hb hx)
 ·obtain ⟨sl,e1⟩ := I.base.slot b o e n hb hx
  exact ⟨sl,(hs.2 b (Nat.ne_of_lt (Nat.lt_of_lt_of_le (Heap.lt_size e) I.ok.above))).trans e1⟩
 ·obtain ⟨o',e1⟩ := I.base.there b o e hx
  exact ⟨o',(hs.2 b (Nat.ne_of_lt (Nat.lt_of_lt_of_le (Heap.lt_size e) I.ok.above))).trans e1⟩
 ·by_cases hj : j = i
  ·subst hj
   rw [List.getElem?_set_self hiσ] at e2
   cases e2
  ·rw [List.getElem?_set_ne (Ne.symm hj)] at e2
   obtain ⟨u',r',q⟩ := hl j y v' e1 e2 e3
   refine ⟨u',r',?_⟩
   rcases q with ⟨k,e⟩ | ⟨k,c,e,z⟩
   ·refine .inl ⟨k,?_⟩
    have : y ≠ n := fun e => hj (nodup_ix hN e1 (e ▸ hi))
    simp [this,e]
   ·exact .inr ⟨k,c,e,z.sameBut hs (I.cne y c e)⟩
 ·obtain ⟨w',z⟩ := I.cell y c e
  exact ⟨w',z.sameBut hs (I.cne y c e)⟩
 ·obtain ⟨e,n,ne,nf,d⟩ := I.pin p hp
  exact ⟨(hs.2 p.1 ne).trans e,n,ne,nf,d⟩
 ·refine (I.hok b ob e).stay (fun c w' hc q => (hs.2 c ?_).trans q) (fun _ q => q) fun _ _ q => q
  rintro rfl
  rcases hc with z | z
  ·rw [← z,I.free] at e; cases e
  ·rw [I.free] at z; cases z
def SubX (K : PySem.W.Frag) (C S : Addr) : Prop := ∀ h : Heap,K.In h → ∃ nm q N bs bm hdct sn sub ab col dd k0 k1 k2 k3 k5 newId nm' q' N' bs' bm' hdct' sn' sub' ab' col' dd' k0' k1' k2' k3' k5' newId',
 h.get? C = some (excClassObj nm q C N bs bm hdct sn sub ab col dd k0 k1 k2 k3 k5 newId) ∧ h.get? S = some (excClassObj nm' q' S N' bs' bm' hdct' sn' sub' ab' col' dd' k0' k1' k2' k3' k5' newId') ∧
 bm'.contains (.type "BaseException") = true ∧ (Value.ref C :: bm).contains (.ref S) = true
def EBof (K : PySem.W.Frag) (n ie : Nat) (S : Addr) (tH : TS) (D : Ends) : XK := fun e c H' => ∃ x C,e = .ref x ∧ c = some C ∧ SubX K C S ∧ ∀ σ' : St,σ'.length = n →
 tH { nx := fun σ2 H2 => D.nx (σ2.set ie none) H2,rt := fun _ _ => False } (σ'.set ie (some (.ref x))) (upd H' x (excO x C))
def tTry (K : PySem.W.Frag) (n ie : Nat) (S : Addr) (t : XK → TS) (tH : TS) : TS := fun D σ H => t (EBof K n ie S tH D) D σ H
theorem ps_try {n : Str} {ie : Nat} {xS : Str} {S : Addr} {body suite : List Stmt} {b₀ : Stmt} {t : XK → TS} {tH : TS} {np hpos pos : Pos} (hex : X.ex = []) (hN : X.N.Nodup) (hie : X.N[ie]? = some n) (hlo : X.env.scope.names.lookup n = some .local)
  (hst : X.stack = X.env :: X.outer) (hfr : X.env.frame = some X.env.locals) (hgS : Gl X xS) (hmS : X.mg xS = some (.ref S))
  (hb : ∀ pins EB,PSs (XB X pins EB) body (t EB)) (hH : ∀ pins x,PSs (XH X pins x) (b₀ :: suite) tH) (hd : (xS == ("__debug__" : Str)) = false := by decide) :
  PS X (.Try body [.ExceptHandler (some (.Name xS np)) (some n) (b₀ :: suite) hpos] [] [] pos) (tTry X.K X.N.length ie S t tH) := by
 intro pins s σ H D I h
 refine wpAny_Try_except (wpAny_mono (hb pins _ [] s σ H D I.toB h) (fun f s1 q => ?_) (fun e s1 q => ?_))
 ·have q' : SP X pins D f s1 := q.ofB
  cases f with
  | next => exact wpAny_execs_nil q'
  | brk => exact q'
  | cont => exact q'
  | ret u => exact q'
 obtain ⟨x,C,T,σ1,H1,rfl,I1,hx,hx0,ox,hT,x',C',e1,e2,sub,k⟩ := q
 cases e1
 cases e2
 have hstk := hst
 refine xc_note (base := X.base) (outer := X.outer) (L := X.env.locals) (by rw [← hst]; exact I1.ok.frames) (by rw [← hst]; exact I1.stack) hfr hx fun h2 T2 hT2 hx2 hk2 => ?_
 have I2 : Inv X pins σ1 H1 { s1 with heap := h2 } := I1.xkeep hk2 (fun b z => by rw [hst]; exact z) ox hx0 hT
 have nT2 : s1.heap.get? T2 = none := Heap.get?_none_of_le hT2
 have oT2 : Off X pins T2 := I1.off hex nT2
 have fT2 : H1 T2 = none := I1.hok.fresh hT2
 refine wpAny_handleBy_cons (codeAny_handlers_test ?_) (by intro q; cases q)
 refine ld_glob (X := XH X pins x) (I2.toH (x := x)) hgS hmS ?_ hd
 obtain ⟨nm,q,N,bs,bm,hdct,sn,sub',ab,col,dd,k0,k1,k2,k3,k5,newId,nm',q',N',bs',bm',hdct',sn',sub'',ab',col',dd',k0',k1',k2',k3',k5',newId',hC,hS,hbm,hsub⟩ := sub h2 I2.kIn
 obtain ⟨oe,vs,hoe,hcl,_⟩ := id hx2
 refine xc_matches hC hS hoe hcl hbm hsub ?_
 show codeAny _ _ _ _ _
 refine codeAny_handlers_suite_as ?_
 refine xc_flight hx2 fun h4 hx4 hk4 => ?_
 have I4 : Inv X pins σ1 H1 { s1 with heap := h4 } := I2.xkeep (h' := h4) hk4 (fun b z => absurd z (by simp)) ox hx0 (fun a e => by cases e; exact ⟨oT2,fT2⟩)
 have I5 : Inv X pins σ1 (upd H1 x (excO x C)) { s1 with heap := h4 } := I4.know hx0 ox hx4
 refine store_ok (X := XH X pins x) (I5.toH (x := x)) hN hie (.inl hlo) (v := .ref x) rfl (fun s6 I6 => ?_) (.inr hlo)
 refine wpAny_mono (hH pins x [] s6 _ _ _ I6 (k σ1 I1.len)) (fun f s7 q7 => ?_) fun _ _ z => z.elim
 cases f with
 | brk => obtain ⟨_,_,_,z⟩ := q7; exact z.elim
 | cont => obtain ⟨_,_,_,z⟩ := q7; exact z.elim
 | ret u => obtain ⟨_,_,_,_,_,z⟩ := q7; exact z.elim
 | next =>
  obtain ⟨σ7,H7,I7,d7⟩ := q7
  have I7' : Inv X pins σ7 H7 s7 := I7.ofH I.ok.hd
  show wpAny _ _ (do bindName X.env n .none; unbindBehindTheSuite X.env n hpos) _ _ s7
  refine wpAny_bind (wpAny_bindName (store_ok I7' hN hie (.inl hlo) (v := .non) rfl (fun s8 I8 => ?_) (.inr hlo)))
  obtain ⟨m,hn,hl⟩ := id I8.loc
  have hie8 : ie < σ7.length := by rw [I7'.len]; exact (List.getElem?_eq_some_iff.mp hie).1
  obtain ⟨u,_,lk⟩ := hl ie n .non hie (by rw [List.getElem?_set_self hie8]) (.inl hlo)
  have kn : X.env.kindOf n = some .local := hlo
  have hm : m n = some u := by
   rcases lk with ⟨_,e⟩ | ⟨z,_⟩
   ·exact e
   ·rw [kn] at z; rcases z with z | z <;> cases z
  unfold unbindBehindTheSuite
  refine wpAny_onRaise (wpAny_unbindName_local kn hn hm (by rw [I.ok.kind]; rfl) fun h9 u9 hn9 hs9 => ?_)
  have I9 := I8.gone hN hie hl hn9 hs9
  rw [List.set_set] at I9
  exact ⟨_,H7,I9,d7⟩
end
end L2
end
section
namespace L2
open PySem PySem.Spec PyProof.Rows
theorem findObj_none {K : PySem.W.Frag} {C : Addr} {name : Str} {a g : Value} (hc : (PySem.W.clsIn K C).isSome = true) (ha : PySem.W.findIn K (.ref C) name = some (some a)) (hg : PySem.W.specialIn K a "__get__" = some (some g)) (ht : PySem.W.takesIn K a = some true) : PySem.W.findObj K C none name = some (.bind g a) := by
 obtain ⟨cd,hc⟩ := Option.isSome_iff_exists.mp hc
 unfold PySem.W.findObj
 rw [hc,Option.bind_some,ha,Option.bind_some]
 simp [hg,ht]
structure XCls (K : PySem.W.Frag) (D : Addr) : Prop where
 ga : PySem.W.findIn K (.ref D) "__getattribute__" = some (some (.builtin "BaseException.__getattribute__"))
 gt : PySem.W.findIn K (.ref D) "__getattr__" = some none
 cls : (PySem.W.clsIn K D).isSome = true
 find : PySem.W.findIn K (.ref D) "__class__" = some (some (.builtin "object.__class__"))
 spec : PySem.W.specialIn K (.builtin "object.__class__") "__get__" = some (some (.builtin "getset_descriptor.__get__"))
 tk : PySem.W.takesIn K (.builtin "object.__class__") = some true
 mro : PySem.W.mroIn K D (.type "object") = some true
 mroB : PySem.W.mroIn K D (.type "BaseException") = some true
section
variable {prog : Program} {w : World} {A : Around} {E : Value → Shared → Prop} {s : Shared} {K : PySem.W.Frag} {x D : Addr} {ox : Obj}
theorem xk_check {M : Model} {nameV : Value} {Q : Unit → Shared → Prop} (c : XCls K D) (X : K.In s.heap) (I : PySem.W.InstAt s.heap x ox D none) (hq : Q () s) : wpAny M A (checkBuiltinCall "BaseException.__getattribute__" ⟨[.ref x,nameV],[]⟩) Q E s := by
 obtain ⟨hh,g,d,t,os⟩ := s
 have hk : builtinKind "BaseException.__getattribute__" = some .slot := by decide +kernel
 have hsplit : splitId "BaseException.__getattribute__" = some ("BaseException","__getattribute__") := by decide +kernel
 have ha := F.args_bexc_ga (.ref x) nameV
 have L0 := I.type (M := M)
 have L1 := PySem.W.looks_mroIn (M := M) X c.mroB
 simp only [checkBuiltinCall,hk,hsplit]
 refine wpAny_bind ?_
 unfold isInstance
 refine wpAny_bind (L0.at (L1.at ?_))
 repeat (first | assumption | wp_step)
theorem xk_entry {tk : Tok} {Q : Fin → Shared → Prop} (c : XCls K D) (X : K.In s.heap) (I : PySem.W.InstAt s.heap x ox D none) (hq : Q (.done (.ret (.ref D))) s) :
  wpAny (model prog w) A (Builtin.«object.__getattribute__» ⟨[.ref x,.str "__class__" tk],[]⟩) Q E s := by
 obtain ⟨hh,g,d,t,os⟩ := s
 have hf := findObj_none c.cls c.find c.spec c.tk
 have L0 := I.type (M := model prog w)
 have L1 := PySem.W.looks_find (M := model prog w) X I hf
 unfold Builtin.«object.__getattribute__»
 repeat (first | with_reducible refine wpAny_bind (L0.at ?_) | with_reducible refine wpAny_bind (L1.at ?_) | wp_step)
 exact PySem.W.class_get (s := ⟨hh,g,d,t,os⟩) X I c.mro (wpAny_pure hq)
theorem xk_class {Q : Option Value → Shared → Prop} (c : XCls K D) (X : K.In s.heap) (I : PySem.W.InstAt s.heap x ox D none) (h : Q (some (.ref D)) { s with toks := s.toks + 1 }) : wpAny (model prog w) A (getAttr? (.ref x) "__class__") Q E s := by
 obtain ⟨hh,g,d,t,os⟩ := s
 have L0 := I.type (M := model prog w)
 have L1 := PySem.W.looks_findIn (M := model prog w) X c.ga
 have L2 := PySem.W.looks_findIn (M := model prog w) X c.gt
 have FA := F.excAttr_ValueError
 have f3 := FA.ga.bind (.ref x)
 have hx2 : (Value.builtin "BaseException.__getattribute__" == Value.builtin "object.__getattribute__") = false := by decide +kernel
 unfold getAttr? getAttrBy? getAttrBy
 refine wpAny_bind (wpAny_mkText (wpAny_bind (wpAny_attempt (wpAny_holding (wpAny_bind (L0.at (wpAny_bind (L1.at ?_))))))))
 dsimp only
 rw [if_neg (by rw [hx2,Bool.and_false]; decide)]
 unfold getAttrByItsOwn hookBefore
 rw [if_pos (show onTheHeap (.ref D) = true from rfl)]
 refine wpAny_bind (L2.at ?_)
 refine wpAny_bind (wpAny_attempt (wpAny_holding ?_))
 unfold callGetattribute boundAndCalled
 rw [Bool.false_and,if_neg Bool.false_ne_true,f3]
 refine wpAny_bind (wpAny_pure ?_)
 refine wpAny_call (codeAny_call_builtin FA.ga.plain F.entry_bexc_ga (xk_check (s := ⟨hh,g,d,t + 1,os⟩) c X I (xk_entry (s := ⟨hh,g,d,t + 1,os⟩) c X I ?_)))
 exact PySem.W.handed_on rfl (wpAny_pure h)
end
theorem kitx_exc {K : PySem.W.Frag} {x D : Addr} {ox : Obj} (c : XCls K D) : PySem.W.KitX K (.ref x) (.ref D) (fun h => PySem.W.InstAt h x ox D none) where
 ty := fun _ _ _ I => I.type
 it := fun _ _ X _ => by
  obtain ⟨cdD,hcD⟩ := Option.isSome_iff_exists.mp c.cls
  unfold PySem.W.clsIn at hcD
  split at hcD
  ·rename_i c' d' cd' sl' ho
   intro A' Q' E' s' k q
   unfold isType loadHead
   exact wpAny_bind (wpAny_loadPart (k _ _ (X _ _ ho)) (wpAny_pure q))
  ·cases hcD
 ne := fun h tp dd its n sl X htp => by
  obtain ⟨cdD,hcD⟩ := Option.isSome_iff_exists.mp c.cls
  refine Bool.eq_false_iff.mpr fun q => ?_
  have e : D = tp := Value.ref.inj (beq_iff_eq.mp q)
  subst e
  unfold PySem.W.clsIn at hcD
  split at hcD
  ·rename_i c' d' cd' sl' ho
   have z := (X _ _ ho).symm.trans htp
   cases z
  ·cases hcD
 ca := fun X I k => xk_class c X I k
section
variable {X : Cx}
theorem call_isi_x {c : V} {cv : Value} {b : Bool} {C : Addr} (rc : ∀ u,RelV c u → u = cv) (xc : XCls X.K C) (e : PySem.W.kitOne X.K (.ref C) cv = some b) :
  CallR X (.builtin "isinstance") (fun xs H Q => ∃ x,xs = [.ref x,c] ∧ H x = some (excO x C) ∧ Q (.bl b) H) := by
 intro pins s σ H xs us Q I r h
 obtain ⟨x,rfl,hx,q⟩ := h
 obtain ⟨u,u',rfl,ru,ru'⟩ := vals2 r
 obtain rfl := rc _ ru'
 cases (show u = Value.ref x from ru)
 obtain ⟨⟨o,p⟩,_⟩ := (show ObjOk X.prog X.w H s.heap x (excO x C) from I.hok x _ hx)
 exact PySem.W.kia_one (kitx_exc xc) I.kIn p e (fun z => nomatch z) fun tk => ⟨.bl b,H,I.tok _,rfl,q⟩
end
structure RoomN (k : Nat) (A : Around) : Prop where
 dp : A.depth + 3 * k + 5 < recursionLimit
 un : A.units + 16 * k + 200 < cLine
theorem Room.mark {k : Nat} {A : Around} (r : Room k A) (v : Option Value) : RoomN k (A.mark v) := ⟨r.dp,r.un⟩
theorem RoomN.deeper {k : Nat} {A : Around} (r : RoomN (k + 1) A) (env : Env) : RoomN k (A.deeper env) :=
 ⟨by have := r.dp; show A.depth + 1 + 3 * k + 5 < _; omega,by have := r.un; show A.units + 3 + 16 * k + 200 < _; omega⟩
theorem RoomN.depth {k : Nat} {A : Around} (r : RoomN k A) : A.depth < recursionLimit := by have := r.dp; omega
theorem RoomN.units {k : Nat} {A : Around} (r : RoomN k A) : A.units + 64 < cLine := by have := r.un; omega
structure FnOkN (P : Program) (w : World) (K : PySem.W.Frag) (mg : Str → Option Value) (base : Heap) (k : Nat) (f : Addr) (fd : FuncData) (ps : List Str) (sp : Sp) : Prop where
 len : ∀ vs H Q E,sp vs H Q E → vs.length = ps.length
 run : ∀ (A : Around) (outer : List Env) (s : Shared) (H : Hp) (args : Args) (us : List Value) (vs : List V) (Q : VK) (E : XK),RoomN k A → Env0 P w K mg base A outer s H → BindsTo s fd args (ps.zip us) → Vals vs us → sp vs H Q E →
  codeAny (model P w) A (.call (.ref f) args) (CR CX0 outer P w H s Q E) s
abbrev cxN (P : Program) (w : World) (K : PySem.W.Frag) (mg : Str → Option Value) (base : Heap) (N : List Str) (qual : Str) (scope : Scope) (f : Addr) (cd : Value) (A : Around) (outer : List Env) (s : Shared) (H : Hp) (E : XK) : Cx :=
 { cxOf CX0 P w K mg base N qual scope f cd A outer s H E with calm := false,xe := fun _ _ => False }
theorem inv_startN {P : Program} {w : World} {K : PySem.W.Frag} {mg : Str → Option Value} {base : Heap} {N ps : List Str} {qual : Str} {scope : Scope} {f : Addr} {cd : Value} {A : Around} {outer : List Env} {s s1 : Shared} {H : Hp} {E : XK} {us : List Value} {vs : List V}
  (S : FnScope N ps scope) (e0 : Env0 P w K mg base A outer s H) (hl : vs.length = ps.length) (r : Vals vs us)
  (x : InCallC s s.heap.objs.size (bindL (envOfC qual scope s.heap.objs.size f cd).kindOf (ps.zip us) fun _ => none) (cellsFrom (s.heap.objs.size + 1) scope.names []) (bindC (envOfC qual scope s.heap.objs.size f cd).kindOf (ps.zip us) fun _ => none) s1) :
  Inv (cxN P w K mg base N qual scope f cd A outer s H E) [] (start N vs) H s1 := by
 have I : Inv (cxOf CX0 P w K mg base N qual scope f cd { A with handled := none } outer s H E) [] (start N vs) H s1 := inv_start (A := { A with handled := none }) S rfl ⟨e0.frames,e0.mod,e0.bs,e0.bsz,e0.funs,e0.frf,e0.hok,e0.bare⟩ hl r x
 exact ⟨⟨I.ok.mod,I.ok.kind,I.ok.glob,I.ok.blt,I.ok.above,I.ok.inj,I.ok.has,I.ok.cab,(fun z => nomatch z),Around.frames_deeper e0.frames,I.ok.stk,I.ok.exf,I.ok.bs,I.ok.bsz,I.ok.noex,I.ok.exfs,I.ok.funs,I.ok.frf⟩,I.os,I.bare,I.base,I.loc,I.cell,I.free,I.freeC,I.pin,I.hok,I.len⟩
theorem fn_ofN {P : Program} {w : World} {K : PySem.W.Frag} {mg : Str → Option Value} {base : Heap} {k : Nat} {f : Addr} {name qual : Str} {params : Arguments} {body : List Stmt} {scope : Scope} {dV kV doc pm cdv ct oc : Value} {an od : Option Addr}
  {osl : Array (Option Value)} {N ps : List Str} {sp : Sp} (lk : K.lookup f = some ⟨oc,od,.func (PySem.W.fnOf name qual params body scope dV kV doc pm an cdv ct),osl⟩) (hcd : PySem.W.codeIn K cdv qual = true) (S : FnScope N ps scope)
  (len : ∀ vs H Q E,sp vs H Q E → vs.length = ps.length)
  (hbody : ∀ (A : Around) (outer : List Env) (s : Shared) (H : Hp) (vs : List V) (Q : VK) (E : XK),RoomN k (A.deeper (envOfC qual scope s.heap.objs.size f cdv)) → sp vs H Q E →
   ∃ t,PSs (cxN P w K mg base N qual scope f cdv A outer s H E) body t ∧ t { nx := fun _ H' => Q .non H',rt := Q } (start N vs) H) :
  FnOkN P w K mg base (k + 1) f (PySem.W.fnOf name qual params body scope dV kV doc pm an cdv ct) ps sp := by
 refine ⟨len,fun A outer s H args us vs Q E hr e0 hb r hsp => ?_⟩
 have hl := len _ _ _ _ hsp
 have KX : K.In s.heap := e0.mod.kin.keeps fun b o e => (e0.bs b o e).1
 have lim : s.heap.NoLimit := e0.mod.nolimit.keeps fun b o e => (e0.bs b o e).1
 have hkind : ∀ y ∈ ps.zip us,scope.names.lookup y.1 = some .local ∨ (scope.names.lookup y.1 = some .cell ∧ ((cellsFrom (s.heap.objs.size + 1) scope.names []).lookup y.1).isSome = true) := fun ⟨n,v⟩ hy => by
  rcases S.par n (List.of_mem_zip hy).1 with q | q
  ·exact .inl q
  ·exact .inr ⟨q,PySem.W.cellsFrom_some _ _ _ (.inl q)⟩
 refine codeAny_call_function hr.depth (KX _ _ lk) rfl S.co S.gen rfl (PySem.W.codeRec_of KX hcd) (hb _ _ _ _ ?_)
 refine wpAny_newFunctionEnv_cells S.kind hkind fun env he s1 x => ?_
 subst he
 refine ⟨lim.keeps x.toInCall.keep,codeAny_func ?_⟩
 obtain ⟨t,ht,hq⟩ := hbody A outer s H vs Q E (hr.deeper _) hsp
 have I : Inv (cxN P w K mg base N qual scope f cdv A outer s H E) [] (start N vs) H s1 := inv_startN S e0 hl r x
 refine wpAny_mono (ht [] s1 (start N vs) H _ I hq) (fun fl s' hs => ?_) fun e s' hs => hs.elim
 have fin : ∀ {σ' : St} {H' : Hp} {v : V} {u : Value},Inv (cxN P w K mg base N qual scope f cdv A outer s H E) [] σ' H' s' → RelV v u → Q v H' → CE outer P w H s Q u s' :=
  fun {σ' H' v u} J rv q => ⟨v,H',J.os,J.bare,J.base,J.hok,rv,q⟩
 cases fl with
 | ret u =>
  obtain ⟨v,σ',H',J,rv,q⟩ := hs
  exact fin J rv q
 | next =>
  obtain ⟨σ',H',J,q⟩ := hs
  exact fin (v := V.non) (u := Value.none) J rfl q
 | brk =>
  obtain ⟨_,_,_,q⟩ := hs
  exact False.elim q
 | cont =>
  obtain ⟨_,_,_,q⟩ := hs
  exact False.elim q
theorem Fun.okN {P : Program} {w : World} {K : PySem.W.Frag} {mg : Str → Option Value} {base : Heap} {x qual : Str} {st : Stmt} {f : Addr} {fd : FuncData} {N ps : List Str} {k : Nat} {sp : Sp} (F : Fun K x qual st f fd) (S : FnScope N ps (defScope st)) (len : ∀ vs H Q E,sp vs H Q E → vs.length = ps.length)
  (hbody : ∀ (cdv : Value) (A : Around) (outer : List Env) (s : Shared) (H : Hp) (vs : List V) (Q : VK) (E : XK),RoomN k (A.deeper (envOfC qual (defScope st) s.heap.objs.size f cdv)) → sp vs H Q E →
   ∃ t,PSs (cxN P w K mg base N qual (defScope st) f cdv A outer s H E) (defBody st) t ∧ t { nx := fun _ H' => Q .non H',rt := Q } (start N vs) H) : FnOkN P w K mg base (k + 1) f fd ps sp := by
 obtain ⟨oc,od,kV,doc,pm,an,cdv,ct,osl,rfl,lk,hcd⟩ := F.ex
 exact fn_ofN lk hcd S len fun A outer s H vs Q E hr hsp => hbody cdv A outer s H vs Q E hr hsp
section
variable {X : Cx} {k : Nat} {f : Addr} {fd : FuncData} {ps : List Str} {sp : Sp} {dvs : List V} {ds : List Value} {E : XK} {x : Str} {p pos : Pos} {e : Expr} {es : List Expr} {t : TA}
theorem pe_callN (F : FnOkN X.prog X.w X.K X.mg X.base k f fd ps sp) (hr : RoomN k X.A) (hg : Gl X x) (hm : X.mg x = some (.ref f)) (hk : PySem.W.keepIn X.K (.ref f) = true) (hb : Binds X.K fd ps ds) (hd : Vals dvs ds)
  (ha : PA X (e :: es) t) (hdb : (x == ("__debug__" : Str)) = false := by decide) (he : starEach (e :: es) X.env = (false,eval e X.env) :: starEach es X.env := by rfl) (hpl : (backTo pos (starEach es X.env)).any (·.1) = false := by rfl) :
  PE X (.Call (.Name x p) (e :: es) [] pos) (tCall sp dvs E t) := by
 intro pins s σ H Q I h
 refine wpAny_Call_Name_kw (ld_glob I hg hm ?_ hdb)
 refine PySem.W.callWith_K (h₀ := X.base) I.ok.mod.kin hk (thn (ha pos pins s σ H _ I h) fun us s1 ⟨vs,H1,I1,r,q⟩ => ⟨I1.kIn,?_⟩) he hpl
 have r2 : Vals (vs ++ dvs) (us ++ ds) := r.append hd
 have hl : (us ++ ds).length = ps.length := by rw [← r2.length]; exact F.len _ _ _ _ q
 refine wpAny_call (codeAny_mono (F.run X.A X.stack s1 H1 ⟨us,[]⟩ (us ++ ds) (vs ++ dvs) Q E hr I1.env0 (hb s1 us I1.kIn hl) r2 q) fun r s' hq => ?_)
 cases r with
 | error e => exact hq.elim
 | ok fl =>
  cases fl with
  | ret u => exact I1.after hq
  | next => exact False.elim hq
  | brk => exact False.elim hq
  | cont => exact False.elim hq
end
end L2
end
section
namespace Zp
open PySem PySem.Spec PyProof.Rows
section
variable {prog : Program} {w : World} {A : Around} {E : Value → Shared → Prop} {s : Shared}
end
structure Apart (z TI TO i1 i2 : Addr) (fp1 fp2 : List Addr) : Prop where
 z1 : z ∉ fp1
 z2 : z ∉ fp2
 o1 : TO ∉ fp1
 o2 : TO ∉ fp2
 m1 : i1 ∈ fp1
 m2 : i2 ∈ fp2
 x12 : i1 ∉ fp2
 x21 : i2 ∉ fp1
 TIz : TI ≠ z
 TOz : TO ≠ z
 TITO : TI ≠ TO
 TIi1 : TI ≠ i1
 TIi2 : TI ≠ i2
section
variable {prog : Program} {w : World} {A : Around} {E : Value → Shared → Prop} {s : Shared} {z TI TO i1 i2 : Addr} {fp1 fp2 : List Addr} {n1 n2 i : Nat} {P1 P2 : Nat → Value → Prop} {S1 S2 : Nat → Heap → Prop} {a b : Value}
theorem zip_item {Q : Value → Shared → Prop} (D1 : Draws prog w A i1 fp1 n1 P1 S1) (D2 : Draws prog w A i2 fp2 n2 P2 S2) (D : Apart z TI TO i1 i2 fp1 fp2)
  (hz : IsZip s.heap z TI TO .none) (hTI : IsPair s.heap TI (.ref i1) (.ref i2)) (hTO : IsPair s.heap TO a b) (h1 : S1 i s.heap) (h2 : S2 i s.heap) (l1 : i < n1) (l2 : i < n2)
  (hQ : ∀ x y h' tk,P1 i x → P2 i y → IsZip h' z TI TO (rawInt s.heap.objs.size) → IsPair h' TO x y → S1 (i + 1) h' → S2 (i + 1) h' → IsPair h' s.heap.objs.size x y → h'.objs.size = s.heap.objs.size + 1 →
   (∀ c o,c ≠ z → c ≠ TO → c ≠ i1 → c ≠ i2 → s.heap.get? c = some o → h'.get? c = some o) → Q (.ref s.heap.objs.size) { s with heap := h',toks := tk }) :
  wpAny (model prog w) A (Builtin.«zip.__next__» ⟨[.ref z],[]⟩) (fun fin s' => ∃ v,fin = .done (.ret v) ∧ Q v s') E s := by
 have ne1 : ∀ c ∈ fp1,c ≠ z := fun c hc e => D.z1 (e ▸ hc)
 have ne2 : ∀ c ∈ fp2,c ≠ z := fun c hc e => D.z2 (e ▸ hc)
 have no1 : ∀ c ∈ fp1,c ≠ TO := fun c hc e => D.o1 (e ▸ hc)
 have no2 : ∀ c ∈ fp2,c ≠ TO := fun c hc e => D.o2 (e ▸ hc)
 have n12 : ∀ c ∈ fp2,c ≠ i1 := fun c hc e => D.x12 (e ▸ hc)
 have n21 : ∀ c ∈ fp1,c ≠ i2 := fun c hc e => D.x21 (e ▸ hc)
 have i1z : i1 ≠ z := ne1 _ D.m1
 have i2z : i2 ≠ z := ne2 _ D.m2
 have TOi1 : TO ≠ i1 := (no1 _ D.m1).symm
 have TOi2 : TO ≠ i2 := (no2 _ D.m2).symm
 show wpAny _ _ (field (.ref z) 2 >>= _) _ _ _
 refine wpAny_bind (wpAny_field hz rfl (x := .bool false) rfl ?_)
 show wpAny _ _ (field (.ref z) 3 >>= _) _ _ _
 refine wpAny_bind (wpAny_field hz rfl (x := .ref TI) rfl ?_)
 refine wpAny_bind (wpAny_seqItems hTI rfl ?_)
 show wpAny _ _ (Builtin.SmallTypes.ownedTupleIsFree (.ref z) >>= _) _ _ _
 refine wpAny_bind ?_
 unfold Builtin.SmallTypes.ownedTupleIsFree
 refine wpAny_bind (wpAny_field hz rfl (x := .none) rfl (wpAny_pure ?_))
 simp only [if_true]
 refine wpAny_bind (wpAny_rule ?_)
 refine wpAny_bind (wpAny_field hz rfl (x := .ref TO) rfl ?_)
 refine wpAny_bind (wpAny_setField_rec hz (by simp) fun g1 hz1 k1 => ?_)
 replace hz1 : IsZip g1 z TI TO .ellipsis := hz1
 refine wpAny_bind ?_
 simp only [List.zipIdx_cons,List.zipIdx_nil,List.forIn_cons,List.forIn_nil]
 refine wpAny_bind (wpAny_bind (wpAny_onRaise ?_))
 show wpAny _ _ (Builtin.SmallTypes.nextOf (.ref i1) >>= _) _ _ _
 refine wpAny_bind (D1.item i _ _ _ l1 (D1.frame _ _ _ h1 fun c hc o e => k1.extBut c o (ne1 c hc) e) fun x g2 tk2 px s2 k2 => wpAny_pure ?_)
 have t2 : IsPair g2 TO a b := k2.extBut _ _ TOi1 (k1.extBut _ _ D.TOz hTO)
 refine wpAny_bind (wpAny_seqItems t2 rfl ?_)
 refine wpAny_bind (wpAny_updateSeq_pair t2 fun g3 t3 k3 => ?_)
 replace t3 : IsPair g3 TO x b := t3
 refine wpAny_bind (wpAny_letGo (wpAny_pure ?_))
 refine wpAny_bind (wpAny_bind (wpAny_onRaise ?_))
 show wpAny _ _ (Builtin.SmallTypes.nextOf (.ref i2) >>= _) _ _ _
 refine wpAny_bind (D2.item i _ _ _ l2 (D2.frame _ _ _ h2 fun c hc o e => k3.extBut c o (no2 c hc) (k2.extBut c o (n12 c hc) (k1.extBut c o (ne2 c hc) e))) fun y g4 tk4 py s4 k4 => wpAny_pure ?_)
 have t4 : IsPair g4 TO x b := k4.extBut _ _ TOi2 t3
 refine wpAny_bind (wpAny_seqItems t4 rfl ?_)
 refine wpAny_bind (wpAny_updateSeq_pair t4 fun g5 t5 k5 => ?_)
 replace t5 : IsPair g5 TO x y := t5
 refine wpAny_bind (wpAny_letGo (wpAny_pure (wpAny_pure ?_)))
 refine wpAny_bind (wpAny_seqItems t5 rfl ?_)
 refine wpAny_bind (wpAny_newTuple ?_)
 have hsz : g5.objs.size = s.heap.objs.size := by rw [k5.1,k4.1,k3.1,k2.1,k1.1]
 have z5 : IsZip g5 z TI TO .ellipsis := k5.extBut _ _ D.TOz.symm (k4.extBut _ _ i2z.symm (k3.extBut _ _ D.TOz.symm (k2.extBut _ _ i1z.symm hz1)))
 have kk : ∀ c o,c ≠ z → c ≠ TO → c ≠ i1 → c ≠ i2 → s.heap.get? c = some o → g5.get? c = some o := fun c o c1 c2 c3 c4 e =>
  k5.extBut _ _ c2 (k4.extBut _ _ c4 (k3.extBut _ _ c2 (k2.extBut _ _ c3 (k1.extBut _ _ c1 e))))
 have d1 : S1 (i + 1) g5 := D1.frame _ _ _ s2 fun c hc o e => k5.extBut c o (no1 c hc) (k4.extBut c o (n21 c hc) (k3.extBut c o (no1 c hc) e))
 have d2 : S2 (i + 1) g5 := D2.frame _ _ _ s4 fun c hc o e => k5.extBut c o (no2 c hc) e
 have zlt : z < g5.objs.size := Heap.lt_size z5
 have e1 : ∀ c ∈ fp1,∀ o,g5.get? c = some o → c < g5.objs.size := fun c _ o e => Heap.lt_size e
 show wpAny _ _ (Builtin.SmallTypes.ownedTupleHandOut (.ref z) (.ref g5.objs.size) >>= _) _ _ _
 refine wpAny_bind ?_
 unfold Builtin.SmallTypes.ownedTupleHandOut
 have z6 : IsZip (g5.push { cls := .type "tuple",data := .seq #[x,y] }) z TI TO .ellipsis := Heap.get?_push_of_some _ z5
 refine wpAny_bind (wpAny_setField_rec z6 (by simp) fun g7 z7 k7 => ?_)
 replace z7 : IsZip g7 z TI TO (rawInt g5.objs.size) := z7
 refine wpAny_setField_rec z7 (by simp) fun g8 z8 k8 => ?_
 replace z8 : IsZip g8 z TI TO (rawInt g5.objs.size) := z8
 have up : ∀ c o,c ≠ z → g5.get? c = some o → g8.get? c = some o := fun c o c1 e => k8.extBut _ _ c1 (k7.extBut _ _ c1 (Heap.get?_push_of_some _ e))
 have T8 : IsPair g8 g5.objs.size x y := k8.extBut _ _ (Nat.ne_of_gt zlt) (k7.extBut _ _ (Nat.ne_of_gt zlt) (Heap.get?_push_size _ rfl))
 have sz8 : g8.objs.size = g5.objs.size + 1 := by rw [k8.1,k7.1,Heap.size_push]
 rw [hsz] at z8 T8 sz8
 refine wpAny_pure ⟨_,rfl,?_⟩
 show Q (.ref g5.objs.size) _
 rw [hsz]
 exact hQ x y g8 _ px py z8 (up _ _ D.TOz t5) (D1.frame _ _ _ d1 fun c hc o e => up c o (ne1 c hc) e) (D2.frame _ _ _ d2 fun c hc o e => up c o (ne2 c hc) e) T8 sz8 fun c o c1 c2 c3 c4 e => up c o c1 (kk c o c1 c2 c3 c4 e)
theorem zip_end {Q : Fin → Shared → Prop} (D1 : Draws prog w A i1 fp1 n1 P1 S1) (D2 : Draws prog w A i2 fp2 n2 P2 S2) (D : Apart z TI TO i1 i2 fp1 fp2)
  (hz : IsZip s.heap z TI TO .none) (hTI : IsPair s.heap TI (.ref i1) (.ref i2)) (hTO : IsPair s.heap TO a b) (h1 : S1 i s.heap) (h2 : S2 i s.heap) (hend : i = n1 ∨ (i < n1 ∧ i = n2))
  (hE : ∀ h' e tk,(∀ c o,c ≠ z → c ≠ TO → c ≠ i1 → c ≠ i2 → s.heap.get? c = some o → h'.get? c = some o) → (∃ o,h'.get? e = some o ∧ o.cls = .type "StopIteration") → E (.ref e) { s with heap := h',toks := tk }) :
  wpAny (model prog w) A (Builtin.«zip.__next__» ⟨[.ref z],[]⟩) Q E s := by
 have ne1 : ∀ c ∈ fp1,c ≠ z := fun c hc e => D.z1 (e ▸ hc)
 have ne2 : ∀ c ∈ fp2,c ≠ z := fun c hc e => D.z2 (e ▸ hc)
 have no1 : ∀ c ∈ fp1,c ≠ TO := fun c hc e => D.o1 (e ▸ hc)
 have no2 : ∀ c ∈ fp2,c ≠ TO := fun c hc e => D.o2 (e ▸ hc)
 have n12 : ∀ c ∈ fp2,c ≠ i1 := fun c hc e => D.x12 (e ▸ hc)
 have i1z : i1 ≠ z := ne1 _ D.m1
 have i2z : i2 ≠ z := ne2 _ D.m2
 have TOi1 : TO ≠ i1 := (no1 _ D.m1).symm
 show wpAny _ _ (field (.ref z) 2 >>= _) _ _ _
 refine wpAny_bind (wpAny_field hz rfl (x := .bool false) rfl ?_)
 show wpAny _ _ (field (.ref z) 3 >>= _) _ _ _
 refine wpAny_bind (wpAny_field hz rfl (x := .ref TI) rfl ?_)
 refine wpAny_bind (wpAny_seqItems hTI rfl ?_)
 show wpAny _ _ (Builtin.SmallTypes.ownedTupleIsFree (.ref z) >>= _) _ _ _
 refine wpAny_bind ?_
 unfold Builtin.SmallTypes.ownedTupleIsFree
 refine wpAny_bind (wpAny_field hz rfl (x := .none) rfl (wpAny_pure ?_))
 simp only [if_true]
 refine wpAny_bind (wpAny_rule ?_)
 refine wpAny_bind (wpAny_field hz rfl (x := .ref TO) rfl ?_)
 refine wpAny_bind (wpAny_setField_rec hz (by simp) fun g1 hz1 k1 => ?_)
 replace hz1 : IsZip g1 z TI TO .ellipsis := hz1
 refine wpAny_bind ?_
 simp only [List.zipIdx_cons,List.zipIdx_nil,List.forIn_cons,List.forIn_nil]
 refine wpAny_bind (wpAny_bind (wpAny_onRaise ?_))
 have f1 := D1.frame _ _ _ h1 fun c hc o e => k1.extBut c o (ne1 c hc) e
 rcases hend with e0 | ⟨l1,e0⟩
 ·show wpAny _ _ (Builtin.SmallTypes.nextOf (.ref i1) >>= _) _ _ _
  refine wpAny_bind (D1.done _ _ _ (e0 ▸ f1) fun g2 e k2 he => ?_)
  obtain ⟨oe,hoe,hce⟩ := he
  have z2 : IsZip g2 z TI TO .ellipsis := k2 _ _ i1z.symm hz1
  have ez : e ≠ z := fun x => by subst x; rw [z2] at hoe; cases hoe; simp at hce
  refine wpAny_setField_rec z2 (by simp) fun g3 _ k3 => hE g3 e _ (fun c o c1 _ c3 _ x => k3.extBut _ _ c1 (k2 _ _ c3 (k1.extBut _ _ c1 x))) ⟨oe,k3.extBut _ _ ez hoe,hce⟩
 ·show wpAny _ _ (Builtin.SmallTypes.nextOf (.ref i1) >>= _) _ _ _
  refine wpAny_bind (D1.item i _ _ _ l1 f1 fun x g2 tk2 px s2 k2 => wpAny_pure ?_)
  have t2 : IsPair g2 TO a b := k2.extBut _ _ TOi1 (k1.extBut _ _ D.TOz hTO)
  refine wpAny_bind (wpAny_seqItems t2 rfl ?_)
  refine wpAny_bind (wpAny_updateSeq_pair t2 fun g3 t3 k3 => ?_)
  refine wpAny_bind (wpAny_letGo (wpAny_pure ?_))
  refine wpAny_bind (wpAny_bind (wpAny_onRaise ?_))
  have f2 : S2 i g3 := D2.frame _ _ _ h2 fun c hc o e => k3.extBut c o (no2 c hc) (k2.extBut c o (n12 c hc) (k1.extBut c o (ne2 c hc) e))
  show wpAny _ _ (Builtin.SmallTypes.nextOf (.ref i2) >>= _) _ _ _
  refine wpAny_bind (D2.done _ _ _ (e0 ▸ f2) fun g4 e k4 he => ?_)
  obtain ⟨oe,hoe,hce⟩ := he
  have z4 : IsZip g4 z TI TO .ellipsis := k4 _ _ i2z.symm (k3.extBut _ _ D.TOz.symm (k2.extBut _ _ i1z.symm hz1))
  have ez : e ≠ z := fun x => by subst x; rw [z4] at hoe; cases hoe; simp at hce
  refine wpAny_setField_rec z4 (by simp) fun g5 _ k5 => hE g5 e _ (fun c o c1 c2 c3 c4 x => k5.extBut _ _ c1 (k4 _ _ c4 (k3.extBut _ _ c2 (k2.extBut _ _ c3 (k1.extBut _ _ c1 x))))) ⟨oe,k5.extBut _ _ ez hoe,hce⟩
end
theorem walks_zip {prog : Program} {w : World} {A : Around} {z TI TO i1 i2 : Addr} {fp1 fp2 : List Addr} {n1 n2 : Nat} {P1 P2 : Nat → Value → Prop} {S1 S2 : Nat → Heap → Prop}
  (D1 : Draws prog w A.in1 i1 fp1 n1 P1 S1) (D2 : Draws prog w A.in1 i2 fp2 n2 P2 S2) (D : Apart z TI TO i1 i2 fp1 fp2) :
  WalksT prog w A z (z :: TI :: TO :: (fp1 ++ fp2)) [z,TO,i1,i2] (min n1 n2) (fun i vals => ∃ x y,P1 i x ∧ P2 i y ∧ vals = #[x,y])
   (fun i h => IsZip h z TI TO .none ∧ IsPair h TI (.ref i1) (.ref i2) ∧ (∃ a b,IsPair h TO a b) ∧ S1 i h ∧ S2 i h)
   (fun i T h => IsZip h z TI TO (rawInt T) ∧ IsPair h TI (.ref i1) (.ref i2) ∧ (∃ a b,IsPair h TO a b) ∧ S1 (i + 1) h ∧ S2 (i + 1) h ∧ T ≠ z ∧ T ≠ TO ∧ T ≠ i1 ∧ T ≠ i2) where
 sub := fun c hc => by
  simp at hc ⊢
  rcases hc with rfl | rfl | rfl | rfl
  ·simp
  ·simp
  ·exact .inr (.inr (.inr (.inl D.m1)))
  ·exact .inr (.inr (.inr (.inr D.m2)))
 frame := fun i h h' hst hk => by
  obtain ⟨hz,hTI,⟨a,b,hTO⟩,h1,h2⟩ := hst
  exact ⟨hk z (by simp) _ hz,hk TI (by simp) _ hTI,⟨a,b,hk TO (by simp) _ hTO⟩,D1.frame _ _ _ h1 fun c hc o e => hk c (by simp [hc]) o e,D2.frame _ _ _ h2 fun c hc o e => hk c (by simp [hc]) o e⟩
 item := fun i s Q E hi hst hQ => by
  obtain ⟨hz,hTI,⟨a,b,hTO⟩,h1,h2⟩ := hst
  have hT : s.TypeIs (.ref z) "zip" := ⟨_,hz,rfl⟩
  unfold pyNext
  refine wpAny_bind (wpAny_attempt (wpAny_callSpecial?_slot (name := Str.ofString "__next__") hT F.slot_zip_next (wpAny_call_entry F.slot_zip_next hT F.entry_zip_next
   (zip_item D1 D2 D hz hTI hTO h1 h2 (Nat.lt_of_lt_of_le hi (Nat.min_le_left ..)) (Nat.lt_of_lt_of_le hi (Nat.min_le_right ..)) fun x y h' tk px py a1 a2 a3 a4 a5 a6 hk => wpAny_pure ?_) (F.args_zip_next_1 _))))
  have lt : ∀ {c o},s.heap.get? c = some o → s.heap.objs.size ≠ c := fun e => Nat.ne_of_gt (Heap.lt_size e)
  obtain ⟨o1,l1⟩ := D1.live _ _ h1
  obtain ⟨o2,l2⟩ := D2.live _ _ h2
  exact hQ s.heap.objs.size #[x,y] h' tk ⟨_,_,px,py,rfl⟩ (Nat.le_refl _) ⟨_,a5,rfl,_,rfl⟩ ⟨a1,hk _ _ D.TIz D.TITO D.TIi1 D.TIi2 hTI,⟨_,_,a2⟩,a3,a4,lt hz,lt hTO,lt l1,lt l2⟩
   fun c o hc e => hk c o (fun x => hc (by simp [x])) (fun x => hc (by simp [x])) (fun x => hc (by simp [x])) (fun x => hc (by simp [x])) e
 go := fun elts k pos i T s Q E hm hQ => by
  obtain ⟨hz,hTI,⟨a,b,hTO⟩,h1,h2,_⟩ := hm
  refine wpAny_letOwnedTupleGo_zip hz fun h' hz' hs' => hQ h' ⟨hz',hs'.extBut _ _ D.TIz hTI,⟨a,b,hs'.extBut _ _ D.TOz hTO⟩,
   D1.frame _ _ _ h1 fun c hc o e => hs'.extBut c o (fun q => D.z1 (q ▸ hc)) e,D2.frame _ _ _ h2 fun c hc o e => hs'.extBut c o (fun q => D.z2 (q ▸ hc)) e⟩ fun c o hc e => hs'.extBut _ _ (fun x => hc (by simp [x])) e
 apart := fun i T h hm hT => by
  obtain ⟨_,_,_,_,_,t1,t2,t3,t4⟩ := hm
  simp at hT
  rcases hT with rfl | rfl | rfl | rfl
  ·exact t1 rfl
  ·exact t2 rfl
  ·exact t3 rfl
  ·exact t4 rfl
 done := fun s Q E hst hQ => by
  obtain ⟨hz,hTI,⟨a,b,hTO⟩,h1,h2⟩ := hst
  have hT : s.TypeIs (.ref z) "zip" := ⟨_,hz,rfl⟩
  have hend : min n1 n2 = n1 ∨ (min n1 n2 < n1 ∧ min n1 n2 = n2) := by omega
  unfold pyNext
  refine wpAny_bind (wpAny_attempt (wpAny_callSpecial?_slot (name := Str.ofString "__next__") hT F.slot_zip_next
   (wpAny_call_entry F.slot_zip_next hT F.entry_zip_next (zip_end D1 D2 D hz hTI hTO h1 h2 hend fun h' e tk hk he => ?_) (F.args_zip_next_1 _))))
  obtain ⟨o,ho,hc⟩ := he
  refine wpAny_bind (wpAny_isInstance (T := "StopIteration") (b := true) ⟨o,ho,hc⟩ isSubtype_stop ?_)
  exact wpAny_pure (hQ _ tk fun c o hc e => hk c o (fun x => hc (by simp [x])) (fun x => hc (by simp [x])) (fun x => hc (by simp [x])) (fun x => hc (by simp [x])) e)
 self := fun i s Q E hst hQ => wpAny_pyIter_zip hst.1 hQ
end Zp
end
section
namespace L2
open PySem PySem.Spec PyProof.Rows
section
variable {X : Cx} {pins : List (Addr × Obj)} {σ : St} {H : Hp} {s : Shared} {h' : Heap}
theorem Inv.turneds {t' : Nat} {ch : List Addr} (I : Inv X pins σ H s) (hf : ∀ b ∈ ch,FpOk X pins H b) (k : ∀ b o,b ∉ ch → s.heap.get? b = some o → h'.get? b = some o) : Inv X pins σ H { s with heap := h',toks := t' } := by
 have nit : ∀ b u,H b = some u → b ∉ ch := fun b u e z => by have := (hf b z).1; rw [this] at e; cases e
 refine I.step (g' := s.gens) (d' := s.drawn) (ch := ch) (fun b hb => ?_) (fun b o _ _ hc e _ => k b o hc e) (fun b o _ _ hc e _ => ⟨o.slots,k b o hc e⟩) (fun _ _ _ _ n => n)
  (fun b o hc e => ⟨o,k b o hc e⟩) (fun _ _ e => e) (fun _ _ _ e => e) (fun b ps e => ⟨#[],by rw [e]; simp⟩) (fun m hm => ?_) (fun b u e => ?_) I.bare
 ·obtain ⟨f0,f1,f2,f3,f4,f5⟩ := hf b hb
  exact ⟨f3,f1,f4,f5⟩
 ·obtain ⟨o,es,ep,ho,r⟩ := hm
  exact ⟨o,es,ep,k _ o (fun z => (hf _ z).2.1 rfl) ho,r⟩
 ·refine (I.hok b u e).stay (fun c v hc q => k c v ?_ q) (fun _ q => q) fun _ _ q => q
  rcases hc with z | z
  ·rw [z]; exact nit b u e
  ·exact nit c _ z
theorem Inv.adopt {a : Addr} {o : HO} (I : Inv X pins σ H s) (hn : H a = none) (h1 : X.s₀.heap.objs.size ≤ a) (h2 : a ≠ X.env.locals) (h3 : ∀ x c,X.env.cells.lookup x = some c → c ≠ a) (h4 : ∀ p ∈ X.pn ++ pins,p.1 ≠ a)
  (new : ObjOk X.prog X.w (upd H a o) s.heap a o) : Inv X pins σ (upd H a o) s := by
 refine I.step (h' := s.heap) (g' := s.gens) (t' := s.toks) (d' := s.drawn) (ch := [a]) (fun b hb => ?_) (fun b o _ _ hc e _ => e) (fun b o _ _ hc e _ => ⟨o.slots,e⟩) (fun b o hc e n => ?_)
  (fun b o hc e => ⟨o,e⟩) (fun b xs e => ?_) (fun b o u e => ?_) (fun b ps e => ⟨#[],?_⟩) (fun m hm => hm) (fun b u e => ?_) I.bare
 ·have e : b = a := by simpa using hb
  subst e
  exact ⟨.inr h1,h2,h3,h4⟩
 ·rw [upd_ne (fun z => hc (by simp [z]))]; exact n
 ·rw [upd_ne (ne_of_none e hn)]; exact e
 ·rw [upd_ne (ne_of_none e hn)]; exact e
 ·rw [upd_ne (ne_of_none e hn),e]; simp
 ·by_cases hb : b = a
  ·subst hb; rw [upd_same] at e; cases e; exact new
  ·rw [upd_ne hb] at e
   exact (I.hok b u e).stay (fun _ _ _ q => q) (fun c q => by rw [upd_ne (ne_of_none q hn)]; exact q) fun c xs q => by rw [upd_ne (ne_of_none q hn)]; exact q
theorem Inv.grown {t' : Nat} {ch : List Addr} {a : Addr} {o : HO} (I : Inv X pins σ H s) (hf : ∀ b ∈ ch,FpOk X pins H b) (k : ∀ b o,b ∉ ch → s.heap.get? b = some o → h'.get? b = some o) (hp : s.heap.objs.size ≤ a)
  (new : ObjOk X.prog X.w (upd H a o) h' a o) : Inv X pins σ (upd H a o) { s with heap := h',toks := t' } := by
 have I1 : Inv X pins σ H { s with heap := h',toks := t' } := I.turneds hf k
 obtain ⟨f0,f1,f2,f3,f4,f5⟩ := I.fpOk hp (I.hok.fresh hp)
 exact I1.adopt f0 (Nat.le_trans I.sz hp) f1 f4 f5 new
theorem fp_base {b t : Addr} {o : Obj} (I : Inv X pins σ H s) (f : FpOk X pins H b) (hk : X.K.lookup t = some o) : t ≠ b := by
 intro z
 subst z
 have e := I.ok.mod.kin t o hk
 rcases f.2.2.2.1 with q | q
 ·exact I.ok.noex t o e q
 ·exact absurd (Nat.lt_of_lt_of_le (Heap.lt_size (I.ok.bs t o e).1) q) (Nat.lt_irrefl _)
theorem fp_lst {b t : Addr} {xs : List V} (I : Inv X pins σ H s) (f : FpOk X pins H b) (h : SqL X.K H t xs) : t ≠ b := by
 rcases h with (h | ⟨o,h⟩) | ⟨o,_,_,hk,_⟩
 ·exact ne_of_none h f.1
 ·exact ne_of_none h f.1
 ·exact fp_base I f hk
end
theorem turn_ofT {P : Program} {w : World} {K : PySem.W.Frag} {J : It} {fp wr : List Addr} {it : Addr} {tn : Nat → Heap → Prop} {elts : List Expr} {k : Nat} {pos : Pos} (mem : it ∈ fp)
  (obj : ∀ i h,tn i h → ∀ b ∈ fp,∃ o,h.get? b = some o ∧ ∀ v,o.data ≠ .cell v) (keep : ∀ i h h',tn i h → (∀ b ∈ fp,∀ o,h.get? b = some o → h'.get? b = some o) → tn i h') (hw : ∀ b ∈ wr,b ∈ fp)
  (W : ∀ (X : Cx),X.prog = P → X.w = w → X.K = K → X.calm = true → ∀ (i : Nat) (pins : List (Addr × Obj)) (s : Shared) (σ : St) (H : Hp),Inv X pins σ H s → (∀ b ∈ fp,FpOk X pins H b) → tn i s.heap → (J.go i H ∨ J.stop i H) →
   ∃ (fp' : List Addr) (n : Nat) (Pt : Nat → Array Value → Prop) (S : Nat → Heap → Prop) (Mid : Nat → Addr → Heap → Prop),WalksT P w X.A it fp' wr n Pt S Mid ∧ S i s.heap ∧ (∀ j h,S j h → tn j h) ∧
    (J.go i H → i < n ∧ ∀ vals,Pt i vals → ∃ xs : List V,Vals xs vals.toList ∧ xs.length ≤ sizeLine ∧ ∀ p,H p = none → J.yld i H (.ref p) (upd H p (.tup xs))) ∧ (J.stop i H → i = n))
  (self : ∀ (A : Around) (i : Nat) (s : Shared) (Q : Value → Shared → Prop) (E : Value → Shared → Prop),tn i s.heap → Q (.ref it) s → wpAny (model P w) A (pyIter (.ref it)) Q E s) :
  Turn P w K (.Tuple elts k pos) J fp it tn where
 mem := mem
 obj := obj
 keep := keep
 item := by
  intro X hP hw' hK hc i pins s σ H E I hf st hg
  obtain ⟨fp',n,Pt,S,Mid,WT,st',tnS,g,_⟩ := W X hP hw' hK hc i pins s σ H I hf st (.inl hg)
  obtain ⟨hi,hv⟩ := g hg
  subst hP hw' hK
  refine WT.item i s _ _ hi st' fun T vals h' tk hp hT htup hm hk => ⟨.ref T,rfl,?_⟩
  obtain ⟨xs,rv,hz,hy⟩ := hv vals hp
  have I1 : Inv X pins σ (upd H T (.tup xs)) { s with heap := h',toks := tk } := I.grown (ch := wr) (fun b hb => hf b (hw b hb)) hk hT (show ObjOk X.prog X.w _ h' T (.tup xs) from ⟨hz,vals.toList,rv,by have q : IsTup h' T vals := htup; simpa using q⟩)
  have ltT : ∀ b ∈ fp,b ≠ T := fun b hb => by
   obtain ⟨o,e,_⟩ := obj i _ st b hb
   exact Nat.ne_of_lt (Nat.lt_of_lt_of_le (Heap.lt_size e) hT)
  have hf1 : ∀ b ∈ fp,FpOk X pins (upd H T (.tup xs)) b := fun b hb => by
   obtain ⟨f0,fr⟩ := hf b hb
   exact ⟨by rw [upd_ne (ltT b hb)]; exact f0,fr⟩
  refine WT.go elts k pos i T _ _ _ hm fun h'' st'' hk'' => ?_
  have I2 : Inv X pins σ (upd H T (.tup xs)) { s with heap := h'',toks := tk } := I1.turneds (s := { s with heap := h',toks := tk }) (t' := tk) (ch := wr) (fun b hb => hf1 b (hw b hb)) hk''
  exact ⟨.ref T,_,I2,rfl,hy T (I.hok.fresh hT),tnS _ _ st'',fun b hb => (hf1 b hb).1⟩
 done := by
  intro X hP hw' hK hc i pins s σ H E I hf st hg
  obtain ⟨fp',n,Pt,S,Mid,WT,st',tnS,_,g⟩ := W X hP hw' hK hc i pins s σ H I hf st (.inr hg)
  subst hP hw' hK
  have e := g hg
  subst e
  exact WT.done s _ _ st' fun h' tk hk => ⟨rfl,I.turneds (ch := wr) (fun b hb => hf b (hw b hb)) hk⟩
 self := self
theorem two_line : (2 : Nat) ≤ sizeLine := by rw [sizeLine_eq]; decide
section
variable {X : Cx} {elts : List Expr} {k : Nat} {tpos : Pos}
end
end L2
end
section
namespace L2
open PySem PySem.Spec PyProof.Rows
section
variable {X : Cx} {elts : List Expr} {k : Nat} {tpos : Pos}
theorem bools_of : ∀ {bs : List Bool} {us : List Value},Vals (bs.map V.bl) us → LSm.BoolsAre us bs
 | [],_,.nil => .nil
 | b :: bs,_,.cons r t => by cases r; exact .cons b (bools_of t)
theorem call_all (hc : X.calm = true) : CallR X (.builtin "all") (fun xs H Q => ∃ (l : Addr) (bs : List Bool),xs = [.ref l] ∧ SqL X.K H l (bs.map V.bl) ∧ Q (.bl (bs.all id)) H) := by
 intro pins s σ H xs us Q I r h
 obtain ⟨l,bs,rfl,hq,q⟩ := h
 obtain ⟨u,rfl,ru⟩ := vals1 r
 cases ru
 obtain ⟨its,r1,p1,_⟩ := I.list hq
 have hh := I.ok.hd hc
 have hl := p1.isList
 have hb := bools_of r1
 have hlt : l < s.heap.objs.size := by obtain ⟨_,e,_⟩ := hl; exact Heap.lt_size e
 refine call_all_walk (wpAny_pyIter_list hl ?_)
 refine ⟨s.heap.objs.size,[s.heap.objs.size,l],[s.heap.objs.size],its.toArray.size,_,_,fun i => (bs[i]?).getD true,rfl,Walks.list (A := X.A.in1) hh _ l (Nat.ne_of_lt hlt) its.toArray,
  ⟨⟨_,Heap.get?_push_size _ rfl,rfl,rfl⟩,hl.push _⟩,fun i v s' Q' E' hP hQ => ?_,fun h' tk hk => ?_⟩
 ·obtain ⟨b,e,rfl⟩ := hb.get i v (by simpa using hP)
  simp only [e,Option.getD_some] at hQ
  exact wpAny_truthy_bool hQ
 ·have e : ((List.range its.toArray.size).all fun i => (bs[i]?).getD true) = bs.all id := by
   rw [List.size_toArray,hb.length]; exact LSm.range_all bs
  rw [e]
  exact ⟨.bl _,H,I.kept (LSm.kept_iter hk),rfl,q⟩
end
section
variable {K : PySem.W.Frag} {a : Addr} {xs : List V} {g : TG} {tc : TT} {te : TE} {σ : St} {H1 : Hp} {Q : VK} {D : Addr}
def CWd (n : Nat) (Pv : Nat → St → List V → Hp → Prop) (i m : Nat) (σ : St) (H : Hp) : Prop := m = n - i ∧ i ≤ n ∧ ∃ ys,ys.length ≤ i ∧ Pv i σ ys H
def CPut (n : Nat) (Pv : Nat → St → List V → Hp → Prop) (D : Addr) (i : Nat) (σ3 : St) : VK := fun y H6 => ∃ ys m',H6 D = some (.lst ys) ∧ ys.length < sizeLine ∧ m' < n - i ∧ CWd n Pv (i + 1) m' σ3 (upd H6 D (.lst (ys ++ [y])))
def CSkip (n : Nat) (Pv : Nat → St → List V → Hp → Prop) (i : Nat) (σ3 : St) (H5 : Hp) : Prop := ∃ m',m' < n - i ∧ CWd n Pv (i + 1) m' σ3 H5
theorem cput {n : Nat} {Pv : Nat → St → List V → Hp → Prop} {i : Nat} {σ3 : St} {ys : List V} {y : V} {H6 : Hp} (hn : n ≤ sizeLine) (hi : i < n) (hl : ys.length ≤ i) (e : H6 D = some (.lst ys)) (p : Pv (i + 1) σ3 (ys ++ [y]) (upd H6 D (.lst (ys ++ [y])))) : CPut n Pv D i σ3 y H6 :=
 ⟨ys,n - (i + 1),e,by omega,by omega,rfl,hi,ys ++ [y],by simp; omega,p⟩
theorem cskip {n : Nat} {Pv : Nat → St → List V → Hp → Prop} {i : Nat} {σ3 : St} {ys : List V} {H5 : Hp} (hi : i < n) (hl : ys.length ≤ i) (p : Pv (i + 1) σ3 ys H5) : CSkip n Pv i σ3 H5 :=
 ⟨n - (i + 1),by omega,rfl,hi,ys,by omega,p⟩
theorem comp_by {J : It} (n : Nat) (Pv : Nat → St → List V → Hp → Prop) (h0 : Pv 0 σ [] (upd H1 D (.lst [])))
  (hstop : ∀ σ ys H,Pv n σ ys H → J.stop n H) (hgo : ∀ i σ ys H,i < n → Pv i σ ys H → J.go i H)
  (hs : ∀ i σ ys H x H',i < n → ys.length ≤ i → Pv i σ ys H → J.yld i H x H' → g x σ H' fun σ3 H4 => tc σ3 H4 fun b H5 => if b = true then te σ3 H5 (CPut n Pv D i σ3) else CSkip n Pv i σ3 H5)
  (hd : ∀ σ ys H,Pv n σ ys H → Q (.ref D) H) : CompW J g tc te σ H1 D Q := by
 refine ⟨CWd n Pv,⟨n,by simp,Nat.zero_le _,[],Nat.le_refl _,h0⟩,?_⟩
 rintro i m σ2 H2 ⟨rfl,hi,ys,hl,p⟩
 by_cases hlt : i < n
 ·exact .inr ⟨hgo i σ2 ys H2 hlt p,fun x H3 y => hs i σ2 ys H2 x H3 hlt hl p y⟩
 ·have e : i = n := by omega
  subst e
  exact .inl ⟨hstop σ2 ys H2 p,hd σ2 ys H2 p⟩
theorem comp_list (Pv : Nat → St → List V → Hp → Prop) (h0 : Pv 0 σ [] (upd H1 D (.lst []))) (hl : ∀ i σ ys H,Pv i σ ys H → SqL K H a xs)
  (hs : ∀ i σ ys H x,xs[i]? = some x → i < xs.length → ys.length ≤ i → Pv i σ ys H → g x σ H fun σ3 H4 => tc σ3 H4 fun b H5 => if b = true then te σ3 H5 (CPut xs.length Pv D i σ3) else CSkip xs.length Pv i σ3 H5)
  (hd : ∀ σ ys H,Pv xs.length σ ys H → Q (.ref D) H) : CompW (Itl K a) g tc te σ H1 D Q := by
 refine comp_by xs.length Pv h0 (fun σ ys H p => ⟨xs,hl _ _ _ _ p,Nat.le_refl _⟩) (fun i σ ys H hi p => ⟨xs,xs[i],hl _ _ _ _ p,by simp [hi]⟩) (fun i σ ys H x H' hi hy p y => ?_) hd
 obtain ⟨e,y⟩ := y
 subst e
 exact hs i σ ys _ x (y xs (hl _ _ _ _ p)) hi hy p
theorem comp_range {lo : Int} {n : Nat} (Pv : Nat → St → List V → Hp → Prop) (h0 : Pv 0 σ [] (upd H1 D (.lst [])))
  (hs : ∀ i σ ys H,i < n → ys.length ≤ i → Pv i σ ys H → g (.int (lo + i)) σ H fun σ3 H4 => tc σ3 H4 fun b H5 => if b = true then te σ3 H5 (CPut n Pv D i σ3) else CSkip n Pv i σ3 H5)
  (hd : ∀ σ ys H,Pv n σ ys H → Q (.ref D) H) : CompW (Itr lo n) g tc te σ H1 D Q := by
 refine comp_by n Pv h0 (fun σ ys H p => Nat.le_refl _) (fun i σ ys H hi p => hi) (fun i σ ys H x H' hi hy p y => ?_) hd
 obtain ⟨e,y⟩ := y
 subst e y
 exact hs i σ ys _ hi hy p
end
end L2
end
section
namespace L2
open PySem PySem.Spec PyProof.Rows
def Tp (H : Hp) (a : Addr) (ps : List Int) : Prop := H a = some (.tup (ps.map V.int))
abbrev Tps (H : Hp) (as : List Addr) (pss : List (List Int)) : Prop := Paired (fun a ps => Tp H a ps) as pss
theorem Same.tp {H H' : Hp} {a : Addr} {ps : List Int} (e : Same H H') (h : Tp H a ps) : Tp H' a ps := e _ _ h
theorem Same.new {H : Hp} {a : Addr} {o : HO} (h : H a = none) : Same H (upd H a o) := fun b u e => by rw [upd_ne (ne_of_none e h)]; exact e
theorem Same.then {H H1 : Hp} {a : Addr} {o : HO} (e : Same H H1) (h : H a = none) : Same H (upd H1 a o) := fun b u q => by rw [upd_ne (ne_of_none q h)]; exact e b u q
theorem Tps.length {H : Hp} {as : List Addr} {pss : List (List Int)} (h : Tps H as pss) : as.length = pss.length := Paired.length h
theorem Tps.get {H : Hp} : ∀ {as : List Addr} {pss : List (List Int)} {i : Nat} {a : Addr},Tps H as pss → as[i]? = some a → ∃ ps,pss[i]? = some ps ∧ Tp H a ps
 | _,_,_,_,.nil,e => by simp at e
 | _,_,0,_,.cons r _,e => by simp at e; subst e; exact ⟨_,rfl,r⟩
 | _,_,i + 1,a,.cons _ t,e => by
  obtain ⟨u,h1,h2⟩ := Tps.get (i := i) (a := a) t (by simpa using e)
  exact ⟨u,by simpa using h1,h2⟩
theorem Tps.snoc {H : Hp} {as : List Addr} {pss : List (List Int)} {a : Addr} {ps : List Int} (h : Tps H as pss) (q : Tp H a ps) : Tps H (as ++ [a]) (pss ++ [ps]) := by
 induction h with
 | nil => exact .cons q .nil
 | cons r t ih => exact .cons r ih
theorem Tps.append {H : Hp} {as bs : List Addr} {pss qss : List (List Int)} (h : Tps H as pss) (q : Tps H bs qss) : Tps H (as ++ bs) (pss ++ qss) := by
 induction h with
 | nil => exact q
 | cons r t ih => exact .cons r ih
theorem Tps.take {H : Hp} : ∀ {as : List Addr} {pss : List (List Int)} (n : Nat),Tps H as pss → Tps H (as.take n) (pss.take n)
 | _,_,0,_ => .nil
 | _,_,_ + 1,.nil => .nil
 | _,_,n + 1,.cons r t => .cons r (Tps.take n t)
theorem Tps.drop {H : Hp} : ∀ {as : List Addr} {pss : List (List Int)} (n : Nat),Tps H as pss → Tps H (as.drop n) (pss.drop n)
 | _,_,0,r => r
 | _,_,_ + 1,.nil => .nil
 | _,_,n + 1,.cons _ t => Tps.drop n t
section
variable {X : Cx}
def rInsert : V → List V → Hp → VK → Prop := fun x vs H Q => ∃ l xs i y,x = .ref l ∧ vs = [.int i,y] ∧ H l = some (.lst xs) ∧ 0 ≤ i ∧ i ≤ xs.length ∧ xs.length < sizeLine ∧ Q .non (upd H l (.lst (xs.take i.toNat ++ y :: xs.drop i.toNat)))
theorem mt_insert : MtM X "list.insert" rInsert := by
 intro pins s σ H x vs v us Q I rx rv h
 obtain ⟨l,xs,i,y,rfl,rfl,hH,h0,hi,hz,q⟩ := h
 cases rx
 obtain ⟨u,u',rfl,ru,ru'⟩ := rv.two
 obtain ⟨t,rfl⟩ := ru
 obtain ⟨z,its,n,r,hl,e⟩ := I.lstM hH
 have hzl : sizeLine < 2 ^ 62 := by rw [sizeLine_eq]; decide
 have hf : Builtin.List.listFitsIndex i = true := by
  unfold Builtin.List.listFitsIndex
  simp only [Bool.and_eq_true,decide_eq_true_eq]
  constructor <;> omega
 refine call_meets F.slot_list_insert ⟨_,e,rfl⟩ F.entry_list_insert (F.args_list_insert_3 _ _ _) (PySem.AutoSeq1.list_insert_list_int_val_1 l its.toArray n i t u' (by simp [hf]) (by rw [List.size_toArray]; omega)) ⟨e,?_⟩
 refine ⟨.non,_,I.lset (its' := its.take i.toNat ++ u' :: its.drop i.toNat) (t' := s.toks) hH e ?_ ((r.take _).append (.cons ru' (r.drop _))) ?_,rfl,q⟩
 ·have hk : (if i < 0 then (i + (its.toArray.size : Int)).toNat else min i.toNat its.toArray.size) = i.toNat := by
   rw [if_neg (by omega),List.size_toArray]
   omega
  dsimp only
  rw [hk]
  simp
  exact List.take_of_length_le (by rw [List.length_drop]; exact Nat.le_refl _)
 ·rw [List.length_append,List.length_cons,List.length_take,List.length_drop]
  omega
theorem call_isi_bool : CallR X (.builtin "isinstance") (fun xs H Q => ∃ b,xs = [.bl b,.ty "bool"] ∧ Q (.bl true) H) := by
 intro pins s σ H xs us Q I r h
 obtain ⟨b,rfl,q⟩ := h
 obtain ⟨u,u',rfl,ru,ru'⟩ := vals2 r
 cases ru
 cases ru'
 exact call_isinstance_yes (Tx := "bool") (T := "bool") rfl (by first | rfl | kernel_rfl | (rw [typeOf]; kernel_rfl)) (by rw [isSubtype_type]; kernel_rfl) ⟨.bl true,H,I,rfl,q⟩
end
end L2
end
section
namespace L2
open PySem PySem.Spec PyProof.Rows
theorem clOf_mem_in {cells : List (Str × Addr)} {x : Str} {c : Addr} : ∀ {names : List (Str × NameKind)} {acc : List (Str × Addr)},(∀ y ∈ names,y.2 = .free → ∃ d,cells.lookup y.1 = some d) → (∀ p ∈ acc,False) → (x,c) ∈ clOf cells names acc → cells.lookup x = some c ∧ (x,NameKind.free) ∈ names := by
 have gen : ∀ {names : List (Str × NameKind)} {acc : List (Str × Addr)},(∀ y ∈ names,y.2 = .free → ∃ d,cells.lookup y.1 = some d) → (x,c) ∈ clOf cells names acc → (x,c) ∈ acc ∨ (cells.lookup x = some c ∧ (x,NameKind.free) ∈ names) := by
  intro names
  induction names with
  | nil => intro acc _ h; exact .inl h
  | cons y r ih =>
   intro acc hn h
   obtain ⟨n,k⟩ := y
   unfold clOf at h
   have hn' : ∀ y ∈ r,y.2 = .free → ∃ d,cells.lookup y.1 = some d := fun y hy => hn y (List.mem_cons_of_mem _ hy)
   by_cases hk : (k == NameKind.free) = true
   ·have hk' : k = .free := by cases k <;> first | rfl | cases hk
    obtain ⟨d,hd⟩ := hn (n,k) List.mem_cons_self hk'
    rw [if_pos hk] at h
    rcases ih hn' h with q | ⟨q1,q2⟩
    ·rcases List.mem_cons.mp q with q | q
     ·refine .inr ⟨?_,?_⟩
      ·have hd' : cells.lookup n = some d := hd
       rw [hd'] at q
       cases q
       exact hd'
      ·cases q
       rw [hk']
       exact List.mem_cons_self
     ·exact .inl q
    ·exact .inr ⟨q1,List.mem_cons_of_mem _ q2⟩
   ·rw [if_neg hk] at h
    rcases ih hn' h with q | ⟨q1,q2⟩
    ·exact .inl q
    ·exact .inr ⟨q1,List.mem_cons_of_mem _ q2⟩
 intro names acc hn ha h
 rcases gen hn h with q | q
 ·exact (ha _ q).elim
 ·exact q
theorem cf_mem : ∀ (names : List (Str × NameKind)) (h : Heap) (acc : List (Str × Addr)) (x : Str) (c : Addr),(x,c) ∈ cellsFrom h.objs.size names acc → (x,c) ∈ acc ∨ ((x,NameKind.cell) ∈ names ∧ h.objs.size ≤ c ∧ (pushCells h names).IsCell c none)
 | [],h,acc,x,c,hm => .inl hm
 | (n,k) :: r,h,acc,x,c,hm => by
  rw [cellsFrom.eq_2] at hm
  have ep : pushCells h ((n,k) :: r) = if (k == NameKind.cell) = true then pushCells (h.push { cls := Value.type "cell",data := Data.cell none }) r else pushCells h r := rfl
  by_cases hk : (k == NameKind.cell) = true
  ·have hk' : k = .cell := by cases k <;> first | rfl | cases hk
   rw [if_pos hk] at hm
   rw [ep,if_pos hk]
   have es : (h.push { cls := Value.type "cell",data := Data.cell none }).objs.size = h.objs.size + 1 := Heap.size_push ..
   rw [← es] at hm
   rcases cf_mem r _ _ x c hm with q | ⟨q1,q2,q3⟩
   ·rcases List.mem_cons.mp q with q | q
    ·cases q
     refine .inr ⟨by rw [hk']; exact List.mem_cons_self,Nat.le_refl _,_,pushCells_keeps r _ _ _ (Heap.get?_push_size _ rfl),rfl⟩
    ·exact .inl q
   ·rw [es] at q2
    exact .inr ⟨List.mem_cons_of_mem _ q1,Nat.le_of_succ_le q2,q3⟩
  ·rw [if_neg hk] at hm
   rw [ep,if_neg hk]
   rcases cf_mem r h acc x c hm with q | ⟨q1,q2,q3⟩
   ·exact .inl q
   ·exact .inr ⟨List.mem_cons_of_mem _ q1,q2,q3⟩
theorem cf_inj : ∀ (names : List (Str × NameKind)) (n : Nat) (acc : List (Str × Addr)),(∀ x y c,(x,c) ∈ acc → (y,c) ∈ acc → x = y) → (∀ p ∈ acc,p.2 < n) → ∀ x y c,(x,c) ∈ cellsFrom n names acc → (y,c) ∈ cellsFrom n names acc → x = y
 | [],n,acc,hi,_,x,y,c,h1,h2 => hi x y c h1 h2
 | (m,k) :: r,n,acc,hi,hl,x,y,c,h1,h2 => by
  rw [cellsFrom.eq_2] at h1 h2
  by_cases hk : (k == NameKind.cell) = true
  ·rw [if_pos hk] at h1 h2
   refine cf_inj r (n + 1) ((m,n) :: acc) (fun x y c p q => ?_) (fun p hp => ?_) x y c h1 h2
   ·rcases List.mem_cons.mp p with p | p <;> rcases List.mem_cons.mp q with q | q
    ·cases p; cases q; rfl
    ·cases p
     have : n < n := hl _ q
     omega
    ·cases q
     have : n < n := hl _ p
     omega
    ·exact hi x y c p q
   ·rcases List.mem_cons.mp hp with rfl | hp
    ·exact Nat.lt_succ_self _
    ·exact Nat.lt_succ_of_lt (hl p hp)
  ·rw [if_neg hk] at h1 h2
   exact cf_inj r n acc hi hl x y c h1 h2
theorem newEnv_own {M : Model} {A : Around} {E : Value → Shared → Prop} {s : Shared} {scope : Scope} {globals : Addr} {cl : List (Str × Addr)} {qual : Str} {env : Env} {Q : Env → Shared → Prop}
  (h : ∀ h₁ : Heap,(h₁.Ns s.heap.objs.size fun _ => none) → (∀ b o,s.heap.get? b = some o → h₁.get? b = some o) →
   (∀ x c,(x,c) ∈ cellsFrom (s.heap.objs.size + 1) scope.names cl → (x,c) ∈ cl ∨ ((x,NameKind.cell) ∈ scope.names ∧ s.heap.objs.size + 1 ≤ c ∧ h₁.IsCell c none)) →
   Q (newEnv scope s.heap.objs.size globals (cellsFrom (s.heap.objs.size + 1) scope.names cl) qual none .none (some env) builtinsNs) { s with heap := h₁ }) :
  wpAny M A (newFunctionEnv scope globals cl [] qual none Value.none (some env)) Q E s := by
 unfold newFunctionEnv
 refine wpAny_bind (wpAny_alloc ?_)
 refine wpAny_bind (wpAny_layCells _ (fun name kind cells => rfl) scope.names cl _ _ ?_)
 have es : (s.heap.push { cls := Value.type "dict",data := Data.dict #[] }).objs.size = s.heap.objs.size + 1 := Heap.size_push ..
 have := h (pushCells (s.heap.push { cls := Value.type "dict",data := Data.dict #[] }) scope.names) ((Heap.Ns.new s.heap (.type "dict")).keeps fun b o e => pushCells_keeps _ _ _ _ e) (fun b o e => pushCells_keeps _ _ _ _ (Heap.get?_push_of_some _ e)) (fun x c hm => by
  rw [← es] at hm ⊢
  exact cf_mem scope.names _ cl x c hm)
 show wpAny M A _ _ _ _
 refine wpAny_bind (wpAny_pure ?_)
 refine wpAny_pure ?_
 rw [← es] at this
 exact this
def cxD (X : Cx) (scope : Scope) (N : List Str) (cl : List (Str × Addr)) (C : Addr) (s₀ : Shared) (H₀ : Hp) (ex : List Addr) : Cx := { cxC X scope N cl C s₀ H₀ ex with fn := fun x => decide (scope.names.lookup x = some .cell) }
section
variable {X : Cx} {scope : Scope} {N' : List Str} {caps : List (Option Nat)} {tg iter elt : Expr} {ifs : List Expr} {wi : TI} {g : TG} {tc : TT} {te : TE} {pos : Pos}
theorem pe_compO (hc : X.calm = true) (hk : scope.kind = .function) (hcellL : ∀ y ∈ scope.names,y.2 = .cell → scope.names.lookup y.1 = some .cell) (hfreeL : ∀ y ∈ scope.names,y.2 = .free → scope.names.lookup y.1 = some .free) (hnames : ∀ y ∈ scope.names,y.2 = .local → scope.names.lookup y.1 = some .local)
  (hfr : ∀ y ∈ scope.names,y.2 = .free → X.env.kindOf y.1 = some .cell ∨ X.env.kindOf y.1 = some .free) (hcap : CapOk X.N N' caps scope)
  (hi : PI X tg iter wi) (hg : ∀ cl C s₀ H₀ ex,PG (cxD X scope N' cl C s₀ H₀ ex) tg g) (ht : ∀ cl C s₀ H₀ ex,PTL (cxD X scope N' cl C s₀ H₀ ex) ifs tc) (he : ∀ cl C s₀ H₀ ex,PE (cxD X scope N' cl C s₀ H₀ ex) elt te)
  (hs : ∀ x,foldedSetIterable iter X.env x = pure x := by intro _; rfl) : PE X (.ListComp elt [⟨tg,iter,ifs,0⟩] scope pos) (tLC wi caps g tc te) := by
 intro pins s σ H Q I h
 have hcl : ∀ y ∈ scope.names,y.2 = .free → ∃ c,X.env.cells.lookup y.1 = some c := fun y hy e => I.ok.has y.1 (hfr y hy e)
 rw [eval_ListComp]
 refine wpAny_comprehension_free (use := none) rfl hs (closure_eq hcl) hk hnames ?_
 refine thn (hi pins s σ H _ I h) fun xv s1 h1 => thn h1 fun itv s2 h2 => ?_
 obtain ⟨it,fp,tn,J,H2,e,I2,T,st2,f2,q⟩ := h2
 subst e
 have hf2 : H2 s2.heap.objs.size = none := I2.hok.fresh (Nat.le_refl _)
 obtain ⟨W,⟨m0,w0⟩,turn⟩ := q s2.heap.objs.size hf2
 refine wpAny_newObj_type (newEnv_own fun h₁ hns₁ hold₁ hown₁ => ?_)
 dsimp only at hns₁ hold₁ hown₁ ⊢
 generalize hD : s2.heap.objs.size = D at *
 obtain ⟨s3,e3⟩ : ∃ s3 : Shared,s3 = { s2 with heap := s2.heap.push { cls := .type "list",dict := none,data := .seq ([] : List Value).toArray } } := ⟨_,rfl⟩
 have h3 : s3.heap = s2.heap.push { cls := .type "list",dict := none,data := .seq ([] : List Value).toArray } := by rw [e3]
 rw [← h3] at hns₁ hold₁ hown₁ ⊢
 have hD3 : s3.heap.objs.size = D + 1 := by rw [h3,Heap.size_push,hD]
 have I3 : Inv X pins σ (upd H2 D (.lst [])) s3 := by
  rw [e3,← hD]
  exact I2.lnew (t' := s2.toks) (ys := []) .nil (Nat.zero_le _)
 obtain ⟨Xc,eX⟩ : ∃ Xc,Xc = cxD X scope N' (cellsFrom (s3.heap.objs.size + 1) scope.names (clOf X.env.cells scope.names [])) s3.heap.objs.size s3 (upd H2 D (.lst [])) fp := ⟨_,rfl⟩
 have hg' : PG Xc tg g := by rw [eX]; exact hg _ _ _ _ _
 have ht' : PTL Xc ifs tc := by rw [eX]; exact ht _ _ _ _ _
 have he' : PE Xc elt te := by rw [eX]; exact he _ _ _ _ _
 have xP : Xc.prog = X.prog := by rw [eX]; rfl
 have xw : Xc.w = X.w := by rw [eX]; rfl
 have xK : Xc.K = X.K := by rw [eX]; rfl
 have xA : Xc.A = X.A := by rw [eX]; rfl
 have xc : Xc.calm = true := by rw [eX]; exact hc
 have xe : Xc.env = compEnvC scope (cellsFrom (s3.heap.objs.size + 1) scope.names (clOf X.env.cells scope.names [])) s3.heap.objs.size X.env := by rw [eX]; rfl
 have xE : Xc.xe = fun _ _ => False := by rw [eX]; rfl
 have hcin : ∀ x c,(cellsFrom (s3.heap.objs.size + 1) scope.names (clOf X.env.cells scope.names [])).lookup x = some c → (X.env.cells.lookup x = some c ∧ scope.names.lookup x = some .free) ∨ (scope.names.lookup x = some .cell ∧ s3.heap.objs.size + 1 ≤ c ∧ h₁.IsCell c none) := fun x c e => by
  rcases hown₁ x c (PySem.mem_of_lookup e) with q | ⟨q1,q2,q3⟩
  ·obtain ⟨q4,q5⟩ := clOf_mem_in hcl (fun p hp => absurd hp (by simp)) q
   exact .inl ⟨q4,hfreeL _ q5 rfl⟩
  ·exact .inr ⟨hcellL _ q1 rfl,q2,q3⟩
 have hlow : ∀ p ∈ clOf X.env.cells scope.names [],p.2 < s3.heap.objs.size + 1 := fun p hp => by
  obtain ⟨q4,_⟩ := clOf_mem_in hcl (fun p hp => absurd hp (by simp)) (x := p.1) (c := p.2) hp
  obtain ⟨v,o,ho,_⟩ := I3.cell p.1 p.2 q4
  exact Nat.lt_succ_of_lt (Heap.lt_size ho)
 have hfd : ∀ b ∈ fp,b ≠ D ∧ b < D := fun b hb => by
  obtain ⟨ob,eb,_⟩ := T.obj 0 _ st2 b hb
  have := Heap.lt_size eb
  rw [hD] at this
  exact ⟨Nat.ne_of_lt this,this⟩
 have hfs : ∀ b ∈ frs X.stack,b < D := fun b hb => by
  obtain ⟨_,ob,eb,_⟩ := I2.stack.mem hb
  have := Heap.lt_size eb
  rw [hD] at this
  exact this
 have hold : ∀ b o,s3.heap.get? b = some o → h₁.get? b = some o := hold₁
 have hCf : (upd H2 D (.lst [])) s3.heap.objs.size = none := I3.hok.fresh (Nat.le_refl _)
 have Ic : Inv Xc pins (capSt caps σ) (upd H2 D (.lst [])) { s3 with heap := h₁ } := by
  have okc : Xc.Ok := by
   rw [eX]
   refine ⟨I.ok.mod,hk,I.ok.glob,I.ok.blt,Nat.le_refl _,fun x y c a b => cf_inj scope.names _ _ (fun x y c p q => I.ok.inj x y c (clOf_mem_in hcl (fun p hp => absurd hp (by simp)) p).1 (clOf_mem_in hcl (fun p hp => absurd hp (by simp)) q).1) hlow x y c (PySem.mem_of_lookup a) (PySem.mem_of_lookup b),fun x hx => ?_,(fun x c a e => by
    rcases hcin x c e with ⟨_,q⟩ | ⟨_,q,_⟩
    ·have a' := of_decide_eq_true a
     rw [q] at a'; cases a'
    ·exact Nat.le_of_succ_le q),I.ok.hd,I.ok.frames,.inl rfl,fun b hb => ⟨?_,fun x c e => ?_⟩,fun b o e => ?_,?_,fun b o e z => ?_,fun b hb z => ?_,?_,fun b hb => ?_⟩
   ·have hx' : (relabel scope X.env).names.lookup x = some .cell ∨ (relabel scope X.env).names.lookup x = some .free := hx
    have key : ∃ k',scope.names.lookup x = some k' ∧ (k' = .free ∨ k' = .cell) := by
     rcases hx' with q | q
     ·obtain ⟨k',e1,e2⟩ := un_relabel q
      rcases e2 with e2 | ⟨e2,_⟩
      ·exact ⟨k',e1,.inr e2.symm⟩
      ·exact ⟨k',e1,.inl e2⟩
     ·obtain ⟨k',e1,e2⟩ := un_relabel q
      rcases e2 with e2 | ⟨e2,_⟩
      ·exact ⟨k',e1,.inl e2.symm⟩
      ·exact ⟨k',e1,.inl e2⟩
    obtain ⟨k',e1,e2⟩ := key
    have hm := PySem.mem_of_lookup e1
    rcases e2 with rfl | rfl
    ·obtain ⟨c,hc'⟩ := clOf_mem (cells := X.env.cells) (acc := []) (.inl hm)
     obtain ⟨d,hd⟩ := lookup_some_of_mem hc'
     exact Option.isSome_iff_exists.mp (PySem.W.cellsFrom_some scope.names (s3.heap.objs.size + 1) _ (.inr (by rw [hd]; rfl)))
    ·exact Option.isSome_iff_exists.mp (PySem.W.cellsFrom_some scope.names (s3.heap.objs.size + 1) _ (.inl e1))
   ·show b ≠ s3.heap.objs.size
    exact Nat.ne_of_lt (by rw [hD3]; exact Nat.lt_succ_of_lt (hfd b hb).2)
   ·rcases hcin x c e with ⟨q,_⟩ | ⟨_,q,_⟩
    ·exact (f2 b hb).2.2.2.2.1 x c q
    ·have h1 : b < s3.heap.objs.size + 1 := by rw [hD3]; exact Nat.lt_succ_of_lt (Nat.lt_succ_of_lt (hfd b hb).2)
     exact Nat.ne_of_gt (Nat.lt_of_lt_of_le h1 q)
   ·exact I3.bs b o e
   ·exact Nat.le_trans I.ok.bsz I3.sz
   ·obtain ⟨f,_,_,fx,_,_⟩ := f2 b z
    rcases fx with fx | fx
    ·exact I.ok.noex b o e fx
    ·have := Nat.lt_of_lt_of_le (Heap.lt_size e) I.ok.bsz
     omega
   ·rcases List.mem_cons.mp (I2.stkSub b z) with r | r
    ·exact (f2 b hb).2.1 r
    ·exact (f2 b hb).2.2.1 r
   ·exact I3.stack
   ·exact I3.stkFree b hb
  refine ⟨okc,(by rw [eX]; rfl),I3.bare,?_,?_,fun x c e => ?_,?_,fun x c e => ?_,fun p hp => ?_,?_,?_⟩
  ·rw [eX]
   exact Un.kept hold
  ·rw [xe]
   refine ⟨_,hns₁,fun i x v e1 e2 e3 => ?_⟩
   obtain ⟨c1,c2⟩ := hcap
   unfold capSt at e2
   rw [List.getElem?_map] at e2
   cases e4 : caps[i]? with
   | none => rw [e4] at e2; cases e2
   | some cc =>
    rw [e4] at e2
    cases cc with
    | none => cases e2
    | some j =>
     obtain ⟨y,d1,d2,d3⟩ := c2 i j e4
     have e1' : N'[i]? = some x := by rw [eX] at e1; exact e1
     rw [d1] at e1'
     have exy : y = x := Option.some.inj e1'
     subst exy
     have e5 : σ[j]? = some (some v) := by
      simp only [Option.map_some,Option.some.injEq] at e2
      cases e6 : σ[j]? with
      | none => rw [e6] at e2; cases e2
      | some ov => rw [e6] at e2; simp only [Option.getD_some] at e2; rw [e2]
     have hm := PySem.mem_of_lookup d3
     have vis : Vis X.env.scope y := by
      rcases hfr _ hm rfl with q | q
      ·exact .inr (.inl q)
      ·exact .inr (.inr q)
     obtain ⟨m,_,hl⟩ := I3.loc
     obtain ⟨u,ru,lk⟩ := hl j y v d2 e5 vis
     refine ⟨u,ru,?_⟩
     have lk2 : ∃ c,X.env.cells.lookup y = some c ∧ s3.heap.IsCell c (some u) := by
      rcases lk with ⟨k1,_⟩ | ⟨_,c,k2,k3⟩
      ·rcases hfr _ hm rfl with q | q
       ·rw [k1] at q; cases q
       ·rw [k1] at q; cases q
      ·exact ⟨c,k2,k3⟩
     obtain ⟨c,k2,k3⟩ := lk2
     obtain ⟨d,hd'⟩ := clOf_mem (cells := X.env.cells) (acc := []) (.inl hm)
     obtain ⟨d',hd2⟩ := lookup_some_of_mem hd'
     obtain ⟨d2,hd3⟩ := Option.isSome_iff_exists.mp (PySem.W.cellsFrom_some scope.names (s3.heap.objs.size + 1) (clOf X.env.cells scope.names []) (x := y) (.inr (by rw [hd2]; rfl)))
     have : c = d2 := by
      rcases hcin y d2 hd3 with ⟨q,_⟩ | ⟨q,_⟩
      ·rw [k2] at q
       exact Option.some.inj q
      ·rw [d3] at q; cases q
     subst this
     refine .inr ⟨?_,c,hd3,k3.keeps hold⟩
     have rl := relabel_free (scope := scope) (env := X.env) (x := y) (names := scope.names) (.inl d3)
     rcases rl with q | q
     ·exact .inr q
     ·exact .inl q
  ·rw [xe] at e
   rcases hcin x c e with ⟨q,_⟩ | ⟨_,_,q⟩
   ·obtain ⟨v,k3⟩ := I3.cell x c q
    exact ⟨v,k3.keeps hold⟩
   ·exact ⟨_,q⟩
  ·rw [xe]; exact hCf
  ·rw [xe] at e
   rcases hcin x c e with ⟨q,_⟩ | ⟨_,q,_⟩
   ·exact I3.freeC x c q
   ·exact I3.hok.fresh (Nat.le_of_succ_le q)
  ·have hp' : p ∈ X.pn ++ pins := by rw [eX] at hp; exact hp
   obtain ⟨a1,a2,a3,a4,a5⟩ := I3.pin p hp'
   refine ⟨hold _ _ a1,a2,?_,?_,a5⟩
   ·rw [xe]
    show p.1 ≠ s3.heap.objs.size
    exact Nat.ne_of_lt (Heap.lt_size a1)
   ·rw [eX]
    intro z
    rcases List.mem_cons.mp (I3.stkSub p.1 z) with r | r
    ·exact a3 r
    ·exact a4 r
  ·rw [xP,xw]
   exact I3.hok.kept hold
  ·unfold capSt
   rw [List.length_map,hcap.1,eX]
   rfl
 have leave : ∀ {σ' : St} {H' : Hp} {s4 : Shared} {h' : Heap},Inv Xc pins σ' H' s4 → Heap.SameBut s3.heap.objs.size s4.heap h' → Inv X pins σ H' { s4 with heap := h' } := fun {σ' H' s4 h'} I4 hs' => by
  have hlt : ∀ b o,s2.heap.get? b = some o → b ≠ D ∧ b ≠ s3.heap.objs.size := fun b o e => by
   have hb := Heap.lt_size e
   rw [hD] at hb
   exact ⟨Nat.ne_of_lt hb,Nat.ne_of_lt (by rw [hD3]; exact Nat.lt_succ_of_lt hb)⟩
  have up3 : ∀ b o,s2.heap.get? b = some o → s3.heap.get? b = some o := fun b o e => by rw [h3]; exact Heap.get?_push_of_some _ e
  have base : Un (frs X.stack) fp (upd H2 D (.lst [])) H' s3.heap s4.heap := by
   have := I4.base
   rw [eX] at this
   exact this
  have hCn : H' s3.heap.objs.size = none := by
   have := I4.free
   rw [xe] at this
   exact this
  have os4 : s4.os = s2.os := by
   have := I4.os
   rw [eX] at this
   rw [this]
   show s3.os = s2.os
   rw [e3]
  refine I2.call' (s' := { s4 with heap := h' }) (ch := fp) os4 ⟨fun b o q n hb hx => ?_,fun b o q n hb hx => ?_,fun b o q n hx => ?_,fun b o q hx => ?_,fun b xs q => ?_,fun b o u q => ?_,fun b ps q => ?_⟩ ?_ I4.bare fun b hb => ?_
  ·obtain ⟨n1,n2⟩ := hlt b o q
   exact (hs'.2 b n2).trans (base.keep b o (up3 b o q) (by rw [upd_ne n1]; exact n) hb hx)
  ·obtain ⟨n1,n2⟩ := hlt b o q
   obtain ⟨sl,e⟩ := base.slot b o (up3 b o q) (by rw [upd_ne n1]; exact n) hb hx
   exact ⟨sl,(hs'.2 b n2).trans e⟩
  ·obtain ⟨n1,n2⟩ := hlt b o q
   exact base.free b o (up3 b o q) (by rw [upd_ne n1]; exact n) hx
  ·obtain ⟨n1,n2⟩ := hlt b o q
   obtain ⟨o',e⟩ := base.there b o (up3 b o q) hx
   exact ⟨o',(hs'.2 b n2).trans e⟩
  ·exact base.tups b xs (by rw [upd_ne (ne_of_none q hf2)]; exact q)
  ·exact base.frzs b o u (by rw [upd_ne (ne_of_none q hf2)]; exact q)
  ·exact base.tbls b ps (by rw [upd_ne (ne_of_none q hf2)]; exact q)
  ·intro b u e
   have hk4 := I4.hok b u e
   rw [xP,xw] at hk4
   refine hk4.stay (fun c v hc q => (hs'.2 c ?_).trans q) (fun _ q => q) fun _ _ q => q
   rintro rfl
   rcases hc with z | z
   ·rw [← z,hCn] at e; cases e
   ·rw [hCn] at z; cases z
  ·obtain ⟨f0,f1,f3,f4,f5,f6⟩ := f2 b hb
   exact ⟨f4,f1,f5,f6⟩
 have stat : ∀ {H' : Hp},(∀ b ∈ fp,H' b = none) → ∀ b ∈ fp,FpOk Xc pins H' b := fun {H'} hn b hb => by
  obtain ⟨f0,f1,f3,f4,f5,f6⟩ := f2 b hb
  refine ⟨hn b hb,?_,?_,.inl (by rw [eX]; exact hb),fun x c e => ?_,fun p hp => ?_⟩
  ·rw [xe]
   show b ≠ s3.heap.objs.size
   exact Nat.ne_of_lt (by rw [hD3]; exact Nat.lt_succ_of_lt (hfd b hb).2)
  ·rw [eX]
   intro z
   rcases List.mem_cons.mp (I2.stkSub b z) with r | r
   ·exact f1 r
   ·exact f3 r
  ·rw [xe] at e
   rcases hcin x c e with ⟨q,_⟩ | ⟨_,q,_⟩
   ·exact f5 x c q
   ·have h1 : b < s3.heap.objs.size + 1 := by rw [hD3]; exact Nat.lt_succ_of_lt (Nat.lt_succ_of_lt (hfd b hb).2)
    exact Nat.ne_of_gt (Nat.lt_of_lt_of_le h1 q)
  ·rw [eX] at hp
   exact f6 p hp
 subst eX
 have loop : ∀ n s',(∃ i σ' H',Inv (cxD X scope N' (cellsFrom (s3.heap.objs.size + 1) scope.names (clOf X.env.cells scope.names [])) s3.heap.objs.size s3 (upd H2 D (.lst [])) fp) pins σ' H' s' ∧ tn i s'.heap ∧ (∀ b ∈ fp,H' b = none) ∧ W i n σ' H') →
   codeAny (model X.prog X.w) X.A (.compLoop (.ListComp elt [⟨tg,iter,ifs,0⟩] scope pos) 0 (.ref it) (.ref D) (compEnvC scope (cellsFrom (s3.heap.objs.size + 1) scope.names (clOf X.env.cells scope.names [])) s3.heap.objs.size X.env)) (compPost (model X.prog X.w) X.A X.xe none (EP X pins σ Q) (.ref D) s3.heap.objs.size) s' := by
  intro n0 s0' hI0
  refine codeAny_loop rfl (fun n s' => ∃ i σ' H',Inv (cxD X scope N' (cellsFrom (s3.heap.objs.size + 1) scope.names (clOf X.env.cells scope.names [])) s3.heap.objs.size s3 (upd H2 D (.lst [])) fp) pins σ' H' s' ∧ tn i s'.heap ∧ (∀ b ∈ fp,H' b = none) ∧ W i n σ' H') (fun n s' hI => ?_) n0 hI0
  obtain ⟨i,σ',H',I',st',fr',w'⟩ := hI
  show wpAny _ X.A ((compTurn (.ListComp elt [⟨tg,iter,ifs,0⟩] scope pos) 0 (.ref it) (.ref D) (compEnvC scope (cellsFrom (s3.heap.objs.size + 1) scope.names (clOf X.env.cells scope.names [])) s3.heap.objs.size X.env)).onRaise (fun x => do noteFrame x (compEnvC scope (cellsFrom (s3.heap.objs.size + 1) scope.names (clOf X.env.cells scope.names [])) s3.heap.objs.size X.env); theTreesLotGoes x)) _ _ s'
  refine wpAny_noted ?_
  rw [compTurn_list]
  refine wpAny_bind (wpAny_standAt (wpAny_bind ?_))
  rcases turn i n σ' H' w' with ⟨stop,qn⟩ | ⟨go,step⟩
  ·refine thn (T.done (cxD X scope N' (cellsFrom (s3.heap.objs.size + 1) scope.names (clOf X.env.cells scope.names [])) s3.heap.objs.size s3 (upd H2 D (.lst [])) fp) rfl rfl rfl hc i pins s' σ' H' _ I' (stat fr') st' stop) fun r s4 ⟨hr,I4⟩ => ?_
   subst hr
   refine wpAny_pure ?_
   obtain ⟨m,hn,_⟩ := id I4.loc
   exact ⟨m,hn,fun h' hs' => ⟨.ref D,H',leave I4 hs',rfl,qn⟩⟩
  ·refine thn (T.item (cxD X scope N' (cellsFrom (s3.heap.objs.size + 1) scope.names (clOf X.env.cells scope.names [])) s3.heap.objs.size s3 (upd H2 D (.lst [])) fp) rfl rfl rfl hc i pins s' σ' H' _ I' (stat fr') st' go) fun r s4 ⟨u,hr,h4⟩ => ?_
   subst hr
   refine wpAny_bind (thn h4 fun _ s5 ⟨x,H5,I5,r5,y5,st5,fr5⟩ => ?_)
   have I5' := I5.pinned (stat fr5) (T.obj _ _ st5)
   refine wpAny_bind (wpAny_mono (hg' _ s5 σ' H5 x u _ I5' r5 (step x H5 y5)) (fun _ s6 h6 => ?_) fun _ _ z => z.elim)
   obtain ⟨σ6,H6,I6,q6⟩ := h6
   refine wpAny_bind (wpAny_mono (ht' _ s6 σ6 H6 _ I6 q6) (fun ok s7 h7 => ?_) fun _ _ z => z.elim)
   obtain ⟨H7,I7,q7⟩ := h7
   have again : ∀ {σ8 : St} {H8 : Hp} {s8 : Shared} {m' : Nat},Inv (cxD X scope N' (cellsFrom (s3.heap.objs.size + 1) scope.names (clOf X.env.cells scope.names [])) s3.heap.objs.size s3 (upd H2 D (.lst [])) fp) (pins ++ pinsAt fp s5.heap) σ8 H8 s8 → m' < n → W (i + 1) m' σ8 H8 →
     ∃ m,m < n ∧ ∃ i σ' H',Inv (cxD X scope N' (cellsFrom (s3.heap.objs.size + 1) scope.names (clOf X.env.cells scope.names [])) s3.heap.objs.size s3 (upd H2 D (.lst [])) fp) pins σ' H' s8 ∧ tn i s8.heap ∧ (∀ b ∈ fp,H' b = none) ∧ W i m σ' H' := fun {σ8 H8 s8 m'} I8 hm w8 => by
    refine ⟨m',hm,i + 1,σ8,H8,I8.unpinned,T.keep _ _ _ st5 fun b hb o e => (I8.pin (b,o) (List.mem_append_right _ (List.mem_append_right _ (mem_pinsAt hb e)))).1,fun b hb => ?_,w8⟩
    obtain ⟨o,e,d⟩ := T.obj _ _ st5 b hb
    exact (I8.pin (b,o) (List.mem_append_right _ (List.mem_append_right _ (mem_pinsAt hb e)))).2.1
   cases ok with
   | false =>
    obtain ⟨m',hm,w7⟩ := q7
    exact wpAny_pure ⟨rfl,again I7 hm w7⟩
   | true =>
    refine wpAny_bind (wpAny_bind (wpAny_mono (he' _ s7 σ6 H7 _ I7 q7) (fun v s8 h8 => ?_) fun _ _ z => z.elim))
    obtain ⟨y,H8,I8,r8,ys,m',hD8,hl8,hm8,w8⟩ := h8
    refine wpAny_bind (wpAny_mono (mt_append (X := cxD X scope N' (cellsFrom (s3.heap.objs.size + 1) scope.names (clOf X.env.cells scope.names [])) s3.heap.objs.size s3 (upd H2 D (.lst [])) fp) _ s8 σ6 H8 (.ref D) [y] (.ref D) [v] (fun _ H9 => H9 = upd H8 D (.lst (ys ++ [y]))) I8 rfl (.cons r8 .nil) ⟨D,ys,y,rfl,rfl,hD8,hl8,rfl⟩) (fun _ s9 h9 => ?_) fun _ _ z => z.elim)
    obtain ⟨_,H9,I9,_,e9⟩ := h9
    subst e9
    exact wpAny_pure (wpAny_pure ⟨rfl,again I9 hm8 w8⟩)
 have start : ∃ i σ' H',Inv (cxD X scope N' (cellsFrom (s3.heap.objs.size + 1) scope.names (clOf X.env.cells scope.names [])) s3.heap.objs.size s3 (upd H2 D (.lst [])) fp) pins σ' H' { s3 with heap := h₁ } ∧ tn i ({ s3 with heap := h₁ } : Shared).heap ∧ (∀ b ∈ fp,H' b = none) ∧ W i m0 σ' H' := by
  refine ⟨0,capSt caps σ,upd H2 D (.lst []),Ic,T.keep 0 _ _ st2 fun b hb o e => hold b o (by rw [h3]; exact Heap.get?_push_of_some _ e),fun b hb => ?_,w0⟩
  rw [upd_ne (hfd b hb).1]
  exact (f2 b hb).1
 have es : ({ s2 with heap := h₁ } : Shared) = { s3 with heap := h₁ } := by rw [e3]
 show codeAny (model X.prog X.w) X.A _ _ ({ s2 with heap := h₁ } : Shared)
 rw [es]
 refine codeAny_compStart_list (loop m0 _ start) (T.self _ 0 _ _ _ ?_ (loop m0 _ start))
 exact T.keep 0 _ _ st2 fun b hb o e => hold b o (by rw [h3]; exact Heap.get?_push_of_some _ e)
end
end L2
end
section
namespace L2
open PySem PySem.Spec PyProof.Rows
section
variable {X : Cx}
theorem call_isi_ii : CallR X (.builtin "isinstance") (fun xs H Q => ∃ n,xs = [.int n,.ty "int"] ∧ Q (.bl true) H) := by
 intro pins s σ H xs us Q I r h
 obtain ⟨n,rfl,q⟩ := h
 obtain ⟨u,u',rfl,ru,ru'⟩ := vals2 r
 cases ru'
 exact isinst_ok I ru (.int n) (by first | rfl | kernel_rfl | decide +kernel) fun tk => ⟨.bl true,H,I.tok _,rfl,q⟩
theorem call_isi_ib : CallR X (.builtin "isinstance") (fun xs H Q => ∃ n,xs = [.int n,.ty "bool"] ∧ Q (.bl false) H) := by
 intro pins s σ H xs us Q I r h
 obtain ⟨n,rfl,q⟩ := h
 obtain ⟨u,u',rfl,ru,ru'⟩ := vals2 r
 cases ru'
 exact isinst_ok I ru (.int n) (by first | rfl | kernel_rfl | decide +kernel) fun tk => ⟨.bl false,H,I.tok _,rfl,q⟩
theorem call_isi_ll : CallR X (.builtin "isinstance") (fun xs H Q => ∃ a ys,xs = [.ref a,.ty "list"] ∧ H a = some (.lst ys) ∧ Q (.bl true) H) := by
 intro pins s σ H xs us Q I r h
 obtain ⟨a,ys,rfl,ha,q⟩ := h
 obtain ⟨u,u',rfl,ru,ru'⟩ := vals2 r
 cases ru'
 exact isinst_ok I ru (.lst ha) (by first | rfl | kernel_rfl | decide +kernel) fun tk => ⟨.bl true,H,I.tok _,rfl,q⟩
theorem preSum_take (ns : List Int) : ∀ k,k ≤ ns.length → preSum (fun i => (ns[i]?).getD 0) k = (ns.take k).sum
 | 0,_ => by simp [preSum]
 | k + 1,h => by
  have ih := preSum_take ns k (by omega)
  have e : ns[k]? = some ns[k] := List.getElem?_eq_getElem (by omega)
  show preSum (fun i => (ns[i]?).getD 0) k + (ns[k]?).getD 0 = _
  rw [ih,List.take_add_one,e,List.sum_append]
  simp
theorem ints_get {ns : List Int} {its : List Value} (r : Vals (ns.map V.int) its) {i : Nat} {v : Value} (h : its[i]? = some v) : ∃ n t,ns[i]? = some n ∧ v = .int n t := by
 have hl : its.length = ns.length := by rw [← r.length,List.length_map]
 have hi : i < ns.length := by rw [← hl]; exact (List.getElem?_eq_some_iff.mp h).1
 have e : ns[i]? = some ns[i] := List.getElem?_eq_getElem hi
 obtain ⟨u,hu,rv⟩ := r.get (show (ns.map V.int)[i]? = some (V.int ns[i]) by rw [List.getElem?_map,e]; rfl)
 rw [h] at hu
 obtain rfl := Option.some.inj hu
 obtain ⟨t,rfl⟩ := rv
 exact ⟨_,t,e,rfl⟩
theorem call_sum (hc : X.calm = true) : CallR X (.builtin "sum") (fun xs H Q => ∃ (l : Addr) (ns : List Int),xs = [.ref l] ∧ SqL X.K H l (ns.map V.int) ∧ Q (.int ns.sum) H) := by
 intro pins s σ H xs us Q I r h
 obtain ⟨l,ns,rfl,hq,q⟩ := h
 obtain ⟨u,rfl,ru⟩ := vals1 r
 cases ru
 obtain ⟨its,r1,p1,_⟩ := I.list hq
 have hh := I.ok.hd hc
 have hl := p1.isList
 have hlt : l < s.heap.objs.size := by obtain ⟨_,e,_⟩ := hl; exact Heap.lt_size e
 have hn : its.length = ns.length := by rw [← r1.length,List.length_map]
 refine call_sum_walkAnyS (wpAny_pyIter_list hl ?_)
 refine ⟨s.heap.objs.size,[s.heap.objs.size,l],[s.heap.objs.size],_,its.toArray.size,_,_,fun i => (ns[i]?).getD 0,rfl,(Walks.list (A := X.A.in1) hh _ l (Nat.ne_of_lt hlt) its.toArray).toS,
  ⟨⟨_,Heap.get?_push_size _ rfl,rfl,rfl⟩,hl.push _⟩,fun b hb => ?_,fun i v hP => ?_,fun s' t' hm => ?_⟩
 ·have hb' : b ≤ s.heap.objs.size := by
   simp only [List.mem_cons,List.not_mem_nil,or_false] at hb
   rcases hb with rfl | rfl
   ·exact Nat.le_refl _
   ·exact Nat.le_of_lt hlt
  exact Nat.lt_of_le_of_lt hb' (Heap.lt_size (Heap.get?_push_size _ rfl))
 ·obtain ⟨n,t,e,rfl⟩ := ints_get r1 (show its[i]? = some v by simpa using hP)
  exact ⟨t,by simp only [e,Option.getD_some]⟩
 ·have e : preSum (fun i => (ns[i]?).getD 0) its.toArray.size = ns.sum := by
   rw [List.size_toArray,hn,preSum_take ns _ (Nat.le_refl _),List.take_of_length_le (Nat.le_refl _)]
  rw [e,Moved.eq_with hm]
  exact ⟨.int _,H,I.kept (LSm.kept_iter fun b o hb eo => hm.heap b o hb eo),⟨_,rfl⟩,q⟩
end
end L2
end
section
namespace L2
open PySem PySem.Spec PyProof.Rows
section
variable {X : Cx}
abbrev rCountV : V → List V → Hp → VK → Prop := fun x vs H Q => ∃ (l : Addr) (ys : List V) (y : V),x = .ref l ∧ vs = [y] ∧ H l = some (.lst ys) ∧ ys.all flatV = true ∧ flatV y = true ∧ Q (.int (ys.countP fun z => eqV z y)) H
abbrev rIndexV : V → List V → Hp → VK → Prop := fun x vs H Q => ∃ (l : Addr) (ys : List V) (y : V) (j : Nat),x = .ref l ∧ vs = [y] ∧ H l = some (.lst ys) ∧ ys.all flatV = true ∧ flatV y = true ∧ j < 1000 ∧ ((ys[j]?).map fun z => eqV z y) = some true ∧ (∀ m,m < j → ((ys[m]?).map fun z => eqV z y) = some false) ∧ Q (.int j) H
theorem count_eqU {x : V} {xs : List V} {us : List Value} (h : Vals xs us) (f : xs.all flatV = true) : us.countP (eqU x) = xs.countP fun y => eqV y x := by
 induction h with
 | nil => rfl
 | cons r t ih =>
  rw [List.all_cons,Bool.and_eq_true] at f
  rw [List.countP_cons,List.countP_cons,eqU_of r f.1,ih f.2]
theorem at_eqU {x : V} {xs : List V} {us : List Value} (h : Vals xs us) (f : xs.all flatV = true) : ∀ m : Nat,(us[m]?).map (eqU x) = (xs[m]?).map fun y => eqV y x := by
 induction h with
 | nil => intro m; simp
 | cons r t ih =>
  rw [List.all_cons,Bool.and_eq_true] at f
  intro m
  cases m with
  | zero => simp [eqU_of r f.1]
  | succ m => simpa using ih f.2 m
theorem mt_countV : MtM X "list.count" rCountV := by
 intro pins s σ H x vs v us Q I rx rv h
 obtain ⟨l,ys,y,rfl,rfl,hH,fl,fy,q⟩ := h
 cases rx
 obtain ⟨u,rfl,ru⟩ := rv.one
 obtain ⟨z,its,c,r,hl,e⟩ := I.lstM hH
 refine call_meets F.slot_list_count ⟨_,e,rfl⟩ F.entry_list_count (F.args_list_count_2 _ _) (SeqAt.list_countAt l its.toArray c none #[] u (eqU y)) ⟨e,fun y' hy => ?_,?_⟩
 ·exact mem_eqAt ru fy r fl y' (by simpa using hy)
 ·have ec : its.toArray.toList.countP (eqU y) = ys.countP fun z => eqV z y := count_eqU r fl
  exact ⟨.int (ys.countP fun z => eqV z y),H,I.tok _,⟨_,by rw [← ec]⟩,q⟩
theorem mt_indexV : MtM X "list.index" rIndexV := by
 intro pins s σ H x vs v us Q I rx rv h
 obtain ⟨l,ys,y,j,rfl,rfl,hH,fl,fy,hj,h1,h2,q⟩ := h
 cases rx
 obtain ⟨u,rfl,ru⟩ := rv.one
 obtain ⟨z,its,c,r,hl,e⟩ := I.lstM hH
 have g1 := (at_eqU (x := y) r fl j).trans h1
 have hjs : j < its.toArray.size := by
  rcases Nat.lt_or_ge j its.length with q | q
  ·simpa using q
  ·rw [List.getElem?_eq_none q] at g1; cases g1
 have get : ∀ (m : Nat) (hm : m < its.toArray.size),(its[m]?).map (eqU y) = some (eqU y its.toArray[m]) := fun m hm => by
  rw [List.getElem?_eq_getElem (by simpa using hm)]; rfl
 have hsm : (j : Int) < 2 ^ 63 - 1 := by
  have h1 : (j : Int) < 1000 := by omega
  have h2 : (1000 : Int) < 2 ^ 63 - 1 := by decide
  omega
 refine call_meets F.slot_list_index ⟨_,e,rfl⟩ F.entry_list_index (F.args_list_index_2 _ _) (SeqAt.list_indexAt l its.toArray c none #[] u (eqU y) j hjs hsm ?_ ?_) ⟨e,fun y' hy => ?_,?_⟩
 ·exact Option.some.inj ((get j hjs).symm.trans g1)
 ·intro m hm hmj
  exact Option.some.inj ((get m hm).symm.trans ((at_eqU (x := y) r fl m).trans (h2 m hmj)))
 ·exact mem_eqAt ru fy r fl y' (by simpa using hy)
 ·exact ⟨.int j,H,I.tok _,⟨_,rfl⟩,q⟩
end
end L2
end
section
namespace L2
open PySem PySem.Spec PyProof.Rows
theorem subx_of {K : PySem.W.Frag} {C S : Addr} (q1 : PySem.W.excIn K C bmV "ValueError.__new__" = true) (q2 : PySem.W.excIn K S bmV "ValueError.__new__" = true) (m : PySem.W.mroIn K C (.ref S) = some true) : SubX K C S := by
 intro h X
 obtain ⟨bm,N,nm,qn,bs,hdct,sn,sub,ab,col,dd,k0,k1,k2,k3,k5,mN,_,hbm,hat⟩ := exc_obj X q1
 obtain ⟨bm',N',nm',qn',bs',hdct',sn',sub',ab',col',dd',k0',k1',k2',k3',k5',mN',_,hbm',hat'⟩ := exc_obj X q2
 refine ⟨nm,qn,N,bs,bm,hdct,sn,sub,ab,col,dd,k0,k1,k2,k3,k5,_,nm',qn',N',bs',bm',hdct',sn',sub',ab',col',dd',k0',k1',k2',k3',k5',_,(hat h X).1,(hat' h X).1,hbm' _ (by decide),?_⟩
 have g := (hat h X).1
 unfold PySem.W.mroIn at m
 obtain ⟨cd,a,b⟩ := Option.bind_eq_some_iff.mp m
 unfold PySem.W.clsIn at a
 split at a
 ·rename_i c' d' cd' sl' ho
  cases a
  have z := (X _ _ ho).symm.trans g
  injection z with z
  have zc := congrArg Obj.data z
  injection zc with zc
  subst zc
  split at b
  ·cases b
  ·exact Option.some.inj b
 ·cases a
theorem cls_of_exc {K : PySem.W.Frag} {C : Addr} {bm : List Value} {n : String} (q : PySem.W.excIn K C bm n = true) : (PySem.W.clsIn K C).isSome = true := by
 unfold PySem.W.excIn at q
 unfold PySem.W.clsIn
 split at q
 ·rename_i ho; rw [ho]; rfl
 ·cases q
end L2
end
section
namespace Srt
open PySem PyProof.Rows HT
open Classical in
section
variable {prog : Program} {w : World} {A : Around} {E : Value → Shared → Prop} {s : Shared} {good : Heap → Prop} {us vs : List Value} {ls : List (List Int)}
theorem zipget {α β : Type} : ∀ (l : List α) (m : List β) (i : Nat),(l.zip m)[i]? = (l[i]?).bind fun x => (m[i]?).map fun y => (x,y)
 | [],m,i => by simp
 | x :: l,[],i => by cases h : (x :: l)[i]? <;> simp
 | x :: l,y :: m,0 => rfl
 | x :: l,y :: m,i + 1 => by
  rw [List.zip_cons_cons,List.getElem?_cons_succ,List.getElem?_cons_succ,List.getElem?_cons_succ]
  exact zipget l m i
end
end Srt
end
section
namespace L2
open PySem PySem.Spec PyProof.Rows
def capB (N N' : List Str) (caps : List (Option Nat)) (scope : Scope) : Bool := decide (caps.length = N'.length) && (caps.zip N').all fun p => match p.1 with
 | none => true
 | some j => decide (N[j]? = some p.2) && decide (scope.names.lookup p.2 = some .free)
theorem capOk_of {N N' : List Str} {caps : List (Option Nat)} {scope : Scope} (h : capB N N' caps scope = true) : CapOk N N' caps scope := by
 unfold capB at h
 rw [Bool.and_eq_true,decide_eq_true_eq,List.all_eq_true] at h
 refine ⟨h.1,fun i j e => ?_⟩
 have hi : i < caps.length := (List.getElem?_eq_some_iff.mp e).1
 have e2 : N'[i]? = some N'[i] := List.getElem?_eq_getElem (by rw [← h.1]; exact hi)
 have := h.2 (some j,N'[i]) (List.mem_iff_getElem?.mpr ⟨i,by rw [Srt.zipget,e,e2]; rfl⟩)
 simp only [Bool.and_eq_true,decide_eq_true_eq] at this
 exact ⟨N'[i],e2,this.1,this.2⟩
section
variable {X : Cx} {scope : Scope} {caps : List (Option Nat)} {tg iter elt : Expr} {ifs : List Expr} {wi : TI} {g : TG} {tc : TT} {te : TE} {pos : Pos}
theorem pe_compS (N N' : List Str) (caps : List (Option Nat)) (hi : PI X tg iter wi) (hg : ∀ cl C s₀ H₀ ex,PG (cxC X scope N' cl C s₀ H₀ ex) tg g) (ht : ∀ cl C s₀ H₀ ex,PTL (cxC X scope N' cl C s₀ H₀ ex) ifs tc) (he : ∀ cl C s₀ H₀ ex,PE (cxC X scope N' cl C s₀ H₀ ex) elt te)
  (hc : X.calm = true := by rfl) (hk : scope.kind = .function := by rfl) (hcell : ∀ y ∈ scope.names,y.2 ≠ .cell := by decide +kernel) (hnames : ∀ y ∈ scope.names,y.2 = .local → scope.names.lookup y.1 = some .local := by decide +kernel)
  (hfr : ∀ y ∈ scope.names,y.2 = .free → X.env.kindOf y.1 = some .cell ∨ X.env.kindOf y.1 = some .free) (hN : X.N = N := by rfl) (hcap : capB N N' caps scope = true := by decide +kernel)
  (hs : ∀ x,foldedSetIterable iter X.env x = pure x := by intro _; rfl) : PE X (.ListComp elt [⟨tg,iter,ifs,0⟩] scope pos) (tLC wi caps g tc te) :=
 pe_comp hc hk hcell hnames hfr (capOk_of (by rw [hN]; exact hcap)) hi hg ht he hs
end
theorem nofr {env : Env} {scope : Scope} (h : scope.names.all (fun y => decide (y.2 ≠ .free)) = true) : ∀ y ∈ scope.names,y.2 = .free → env.kindOf y.1 = some .cell ∨ env.kindOf y.1 = some .free := fun y hy e =>
 absurd e (of_decide_eq_true (List.all_eq_true.mp h y hy))
theorem frOf {env : Env} {scope : Scope} (sc : Scope) (h : scope.names.all (fun y => decide (y.2 ≠ .free) || decide (sc.names.lookup y.1 = some .cell) || decide (sc.names.lookup y.1 = some .free)) = true) (hsc : env.scope = sc := by rfl) : ∀ y ∈ scope.names,y.2 = .free → env.kindOf y.1 = some .cell ∨ env.kindOf y.1 = some .free := fun y hy e => by
 subst hsc
 have := List.all_eq_true.mp h y hy
 simp only [Bool.or_eq_true,decide_eq_true_eq] at this
 rcases this with (q | q) | q
 ·exact absurd e q
 ·exact .inl q
 ·exact .inr q
theorem ndN (l : List Str) (h : l.Nodup := by decide +kernel) : l.Nodup := h
theorem yes_ {te : TE} {σ : St} {H : Hp} {P : VK} {S : Hp → Prop} (h : te σ H P) : tYes σ H fun b H5 => if b = true then te σ H5 P else S H5 := by
 show if true = true then te σ H P else S H
 rw [if_pos rfl]
 exact h
theorem gyes {i : Nat} {v : V} {te : TE} {σ : St} {H : Hp} {P : St → VK} {S : St → Hp → Prop} (h : te (σ.set i (some v)) H (P (σ.set i (some v)))) :
  gName i v σ H fun σ3 H4 => tYes σ3 H4 fun b H5 => if b = true then te σ3 H5 (P σ3) else S σ3 H5 := yes_ (S := S (σ.set i (some v))) h
theorem comp_of {J : It} {g : TG} {tc : TT} {te : TE} {σ : St} {H1 : Hp} {Q : VK} {D : Addr} (h : CompW J g tc te σ H1 D Q) : CompW J g tc te σ H1 D Q := h
end L2
namespace L2
open PySem PySem.Spec PyProof.Rows
end L2
end
section
namespace K20
open PySem L2
def top (i : Nat) : Stmt := PySem.Challenge.pw_seamwright_k20_tables_put_together.main.body.getD i (.Pass ⟨0,0,0,0⟩)
abbrev sWhich : Stmt := top 35
section
variable {P : Program} {w : World} {K : PySem.W.Frag} {mg : Str → Option Value} {base : Heap}
theorem b_isinstance : bootBuiltins "isinstance" = some (.builtin "isinstance") := by decide +kernel
def spWhich (fT : Addr) : Sp := fun vs H Q _ => ∃ x,vs = [.ref x] ∧ H x = some (excO x fT) ∧ ∀ H',Same H H' → Q (.str "table") H'
theorem scWhich : FnScope ["e","marks"] ["e"] (defScope sWhich) := ⟨rfl,rfl,rfl,by decide +kernel,rfl,by decide +kernel,by decide +kernel⟩
theorem ok_which {f fT fG fN fW fC fP : Addr} {fd : FuncData} (F : Fun K "_law_which" "_law_which" sWhich f fd) (bi : mg "isinstance" = none) (bv : mg "ValueError" = none)
  (m1 : mg "NoTable" = some (.ref fT)) (m2 : mg "NoGoal" = some (.ref fG)) (m3 : mg "NoNumber" = some (.ref fN)) (m4 : mg "NoWeb" = some (.ref fW)) (m5 : mg "NoChain" = some (.ref fC)) (m6 : mg "NoPiece" = some (.ref fP)) (xc : XCls K fT)
  (y1 : PySem.W.kitOne K (.ref fT) (.ref fT) = some true) (y2 : PySem.W.kitOne K (.ref fT) (.ref fG) = some false) (y3 : PySem.W.kitOne K (.ref fT) (.ref fN) = some false) (y4 : PySem.W.kitOne K (.ref fT) (.ref fW) = some false)
  (y5 : PySem.W.kitOne K (.ref fT) (.ref fC) = some false) (y6 : PySem.W.kitOne K (.ref fT) (.ref fP) = some false) (y7 : PySem.W.kitOne K (.ref fT) (.type "ValueError") = some true) : FnOkN P w K mg base 1 f fd ["e"] (spWhich fT) := by
 refine F.okN scWhich (fun vs H Q E h => ?_) (fun cdv A outer s H vs Q E hr h => ?_)
 ·obtain ⟨x,rfl,_⟩ := h; rfl
 ·obtain ⟨x,rfl,hx,k⟩ := h
  refine ⟨_,pss_cons (ps_set (i := 1) scWhich.nd rfl (Or.inl rfl) (pe_lst
    (pa_cons (pe_callB (call_isi_x (c := .ref fT) (fun u h => h) xc y1) rfl bi b_isinstance (pa_cons (pv 0) (pa_cons (pe_glob (v := .ref fT) rfl m1 rfl) pa_nil)))
    (pa_cons (pe_callB (call_isi_x (c := .ref fG) (fun u h => h) xc y2) rfl bi b_isinstance (pa_cons (pv 0) (pa_cons (pe_glob (v := .ref fG) rfl m2 rfl) pa_nil)))
    (pa_cons (pe_callB (call_isi_x (c := .ref fN) (fun u h => h) xc y3) rfl bi b_isinstance (pa_cons (pv 0) (pa_cons (pe_glob (v := .ref fN) rfl m3 rfl) pa_nil)))
    (pa_cons (pe_callB (call_isi_x (c := .ref fW) (fun u h => h) xc y4) rfl bi b_isinstance (pa_cons (pv 0) (pa_cons (pe_glob (v := .ref fW) rfl m4 rfl) pa_nil))) pa_nil))))))
   (pss_cons (ps_set (i := 1) scWhich.nd rfl (Or.inl rfl) (pe_op op_cat (pv 1) (pe_lst
    (pa_cons (pe_callB (call_isi_x (c := .ref fC) (fun u h => h) xc y5) rfl bi b_isinstance (pa_cons (pv 0) (pa_cons (pe_glob (v := .ref fC) rfl m5 rfl) pa_nil)))
    (pa_cons (pe_callB (call_isi_x (c := .ref fP) (fun u h => h) xc y6) rfl bi b_isinstance (pa_cons (pv 0) (pa_cons (pe_glob (v := .ref fP) rfl m6 rfl) pa_nil))) pa_nil)))))
   (pss_cons (ps_if (PW.pt (pw_or (pt_cmpR op_ne (pe_bm PySem.F.plainAttrs_list PySem.F.slot_list_count PySem.F.type_list_count mt_countV (pv 1) (pa_cons pe_bl pa_nil)) pe_int (nomark _))
     (pw_or1 (pt_not (pt_val (pe_callB (call_isi_x (c := .ty "ValueError") (fun u h => h) xc y7) rfl bi b_isinstance (pa_cons (pv 0) (pa_cons (pe_bltn (v := .ty "ValueError") rfl bv PyProof.Rows.Boot.«ValueError» rfl) pa_nil))))))))
     (pss_one (ps_ret pe_str)) pss_nil)
   (pss_one (ps_ret (pe_ix ix_list (pe_lst (pa_cons pe_str (pa_cons pe_str (pa_cons pe_str (pa_cons pe_str (pa_cons pe_str (pa_cons pe_str pa_nil)))))))
     (pe_bm PySem.F.plainAttrs_list PySem.F.slot_list_index PySem.F.type_list_index mt_indexV (pv 1) (pa_cons pe_bl pa_nil)) (fun _ _ => rfl)))))),?_⟩
  refine ⟨_,rfl,x,rfl,hx,_,rfl,x,rfl,hx,_,rfl,x,rfl,hx,_,rfl,x,rfl,hx,by decide,fun p hp => ?_⟩
  have n1 : p ≠ x := (ne_of_none hx hp).symm
  refine ⟨_,rfl,_,rfl,x,rfl,(by rw [upd_ne n1.symm]; exact hx),_,rfl,x,rfl,(by rw [upd_ne n1.symm]; exact hx),by decide,fun p2 hp2 => ?_⟩
  have n2 : p ≠ p2 := ne_of_none (upd_same (H := H)) hp2
  have n3 : x ≠ p2 := ne_of_none (show upd H p _ x = some _ by rw [upd_ne n1.symm]; exact hx) hp2
  refine ⟨p,p2,_,_,rfl,rfl,(by rw [upd_ne n2]; exact upd_same),upd_same,by decide,fun p3 hp3 => ?_⟩
  have n4 : x ≠ p3 := ne_of_none (show upd (upd H p _) p2 _ x = some _ by rw [upd_ne n3,upd_ne n1.symm]; exact hx) hp3
  have sm : Same H (upd (upd (upd H p (.lst [.bl true,.bl false,.bl false,.bl false])) p2 (.lst [.bl false,.bl false])) p3 (.lst [.bl true,.bl false,.bl false,.bl false,.bl false,.bl false])) := ((Same.new hp).trans (Same.new hp2)).trans (Same.new hp3)
  refine ⟨_,rfl,.inl ⟨rfl,_,SqL.of upd_same⟩,p3,_,.bl true,rfl,rfl,upd_same,by decide,rfl,rfl,false,(by first | rfl | decide),?_⟩
  refine iteF ⟨_,rfl,x,rfl,sm _ _ hx,true,rfl,?_⟩
  refine iteF ?_
  refine ⟨by decide,fun p4 hp4 => ?_⟩
  have n5 : p3 ≠ p4 := ne_of_none upd_same hp4
  refine ⟨_,rfl,.inl ⟨rfl,_,SqL.of (by rw [upd_ne n5]; exact upd_same)⟩,p3,_,.bl true,0,rfl,rfl,(by rw [upd_ne n5]; exact upd_same),by decide,rfl,by decide,by decide,(fun m hm => absurd hm (by omega)),p4,_,0,_,rfl,rfl,SqL.of upd_same,rfl,k _ (sm.trans (Same.new hp4))⟩
end
end K20
end
section
namespace L2
open PySem PySem.Spec PyProof.Rows
section
variable {X : Cx} {scope : Scope} {caps : List (Option Nat)} {tg iter elt : Expr} {ifs : List Expr} {wi : TI} {g : TG} {tc : TT} {te : TE} {pos : Pos}
theorem pe_compSO (N N' : List Str) (caps : List (Option Nat)) (hi : PI X tg iter wi) (hg : ∀ cl C s₀ H₀ ex,PG (cxD X scope N' cl C s₀ H₀ ex) tg g) (ht : ∀ cl C s₀ H₀ ex,PTL (cxD X scope N' cl C s₀ H₀ ex) ifs tc) (he : ∀ cl C s₀ H₀ ex,PE (cxD X scope N' cl C s₀ H₀ ex) elt te)
  (hc : X.calm = true := by rfl) (hk : scope.kind = .function := by rfl) (hcellL : ∀ y ∈ scope.names,y.2 = .cell → scope.names.lookup y.1 = some .cell := by decide +kernel) (hfreeL : ∀ y ∈ scope.names,y.2 = .free → scope.names.lookup y.1 = some .free := by decide +kernel)
  (hnames : ∀ y ∈ scope.names,y.2 = .local → scope.names.lookup y.1 = some .local := by decide +kernel)
  (hfr : ∀ y ∈ scope.names,y.2 = .free → X.env.kindOf y.1 = some .cell ∨ X.env.kindOf y.1 = some .free) (hN : X.N = N := by rfl) (hcap : capB N N' caps scope = true := by decide +kernel)
  (hs : ∀ x,foldedSetIterable iter X.env x = pure x := by intro _; rfl) : PE X (.ListComp elt [⟨tg,iter,ifs,0⟩] scope pos) (tLC wi caps g tc te) :=
 pe_compO hc hk hcellL hfreeL hnames hfr (capOk_of (by rw [hN]; exact hcap)) hi hg ht he hs
end
theorem frRel {env env0 : Env} {scope osc : Scope} (hsc : env.scope = relabel osc env0) (h : scope.names.all (fun y => decide (y.2 ≠ .free) || decide (osc.names.lookup y.1 = some .cell) || decide (osc.names.lookup y.1 = some .free)) = true) : ∀ y ∈ scope.names,y.2 = .free → env.kindOf y.1 = some .cell ∨ env.kindOf y.1 = some .free := by
 intro y hy e
 have := List.all_eq_true.mp h y hy
 simp only [Bool.or_eq_true,decide_eq_true_eq] at this
 have key : osc.names.lookup y.1 = some .free ∨ osc.names.lookup y.1 = some .cell := by
  rcases this with (q | q) | q
  ·exact absurd e q
  ·exact .inr q
  ·exact .inl q
 have := relabel_free (scope := osc) (env := env0) key
 unfold Env.kindOf
 rw [hsc]
 rcases this with q | q
 ·exact .inr q
 ·exact .inl q
end L2
end
section
namespace L2
open PySem PySem.Spec PyProof.Rows
section
variable {X : Cx} {scope : Scope} {N' : List Str} {caps : List (Option Nat)} {tg iter elt : Expr} {ifs : List Expr} {wi : TI} {g : TG} {tc : TT} {te : TE} {pos : Pos}
theorem ps_setC {i : Nat} {x : Str} {pos' spos : Pos} (hc : X.calm = true) (hk : scope.kind = .function) (hcell : ∀ y ∈ scope.names,y.2 ≠ .cell) (hnames : ∀ y ∈ scope.names,y.2 = .local → scope.names.lookup y.1 = some .local)
  (hfr : ∀ y ∈ scope.names,y.2 = .free → X.env.kindOf y.1 = some .cell ∨ X.env.kindOf y.1 = some .free) (hcap : CapOk X.N N' caps scope)
  (hi : PI X tg iter wi) (hg : ∀ cl C s₀ H₀ ex,PG (cxC X scope N' cl C s₀ H₀ ex) tg g) (ht : ∀ cl C s₀ H₀ ex,PTL (cxC X scope N' cl C s₀ H₀ ex) ifs tc) (he : ∀ cl C s₀ H₀ ex,PE (cxC X scope N' cl C s₀ H₀ ex) elt te)
  (hs : ∀ x,foldedSetIterable iter X.env x = pure x) (hN : X.N.Nodup) (hi' : X.N[i]? = some x) (hx : Loc X.env.scope x) (hf : X.fn x = true ∨ X.env.scope.names.lookup x = some .local)
  (hsw : swapsWith (.ListComp elt [⟨tg,iter,ifs,0⟩] scope pos) (some (.Name x pos')) spos.line X.env = pure true) :
  PS X (.Assign [.Name x pos'] (.ListComp elt [⟨tg,iter,ifs,0⟩] scope pos) spos) (tAsg (tLC wi caps g tc te) (gName i)) := by
 intro pins s σ H D I h
 rw [exec_Assign_Name_used _ _ _ _ hsw]
 refine wpAny_bind (wpAny_standAt (wpAny_bind ?_))
 show wpAny _ X.A (do let _ ← comprehension (.ListComp elt [⟨tg,iter,ifs,0⟩] scope pos) scope X.env _ (newList []) (firstAsync [⟨tg,iter,ifs,0⟩]) (firstIter [⟨tg,iter,ifs,0⟩] X.env) (some (assign (.Name x pos') X.env))) _ _ s
 refine wpAny_bind (wpAny_mono (comp_core (use := some (assign (.Name x pos') X.env)) (R := fun _ s' => SP X pins D .next s') hc hk hcell hnames hfr hcap hi hg ht he hs I h fun Dl C H' s4 f L q => ?_) (fun _ s' hq => wpAny_pure (wpAny_pure hq)) fun _ _ e => e)
 show wpAny _ X.A (assign (.Name x pos') X.env (.ref Dl)) _ _ s4
 refine wpAny_assign_Name (store_ok2 (v := .ref Dl) (L.back s4.heap (Heap.SameBut.refl _ _)) hN hi' hx rfl (fun s5 I5 ⟨a,hsa,ha⟩ => ?_) hf)
 have hCa : C ≠ a := by
  rcases ha with e | e
  ·rw [e]; exact L.nl
  ·exact fun z => L.nc x a e z.symm
 obtain ⟨m,hn⟩ := L.ns
 refine ⟨m,hn.sameBut hsa hCa,fun h' hs' => ⟨_,H',?_,q⟩⟩
 refine I5.call' (s' := { s5 with heap := h' }) (ch := [C]) rfl ⟨fun b o q n hb hx => ?_,fun b o q n hb hx => ?_,fun b o q n hx => n,fun b o q hx => ?_,fun b xs q => q,fun b o u q => q,fun b ps q => ⟨#[],by simpa using q⟩⟩ ?_ I5.bare fun b hb => ?_
 ·exact (hs'.2 b (by simpa using hx)).trans q
 ·exact ⟨o.slots,(hs'.2 b (by simpa using hx)).trans q⟩
 ·exact ⟨o,(hs'.2 b (by simpa using hx)).trans q⟩
 ·intro b u e
  refine (I5.hok b u e).stay (fun c v hc q => (hs'.2 c ?_).trans q) (fun _ q => q) fun _ _ q => q
  rintro rfl
  rcases hc with z | z
  ·rw [← z,L.no] at e; cases e
  ·rw [L.no] at z; cases z
 ·have e : b = C := by simpa using hb
  subst e
  exact ⟨.inr L.far,L.nl,L.nc,L.np⟩
end
end L2
end
section
namespace L2
open PySem PySem.Spec PyProof.Rows
section
variable {X : Cx} {scope : Scope} {caps : List (Option Nat)} {tg iter elt : Expr} {ifs : List Expr} {wi : TI} {g : TG} {tc : TT} {te : TE} {pos : Pos}
theorem ps_setS {i : Nat} {x : Str} {pos' spos : Pos} (hnd : X.N.Nodup) (hi' : X.N[i]? = some x) (hx : Loc X.env.scope x) (N N' : List Str) (caps : List (Option Nat)) (hi : PI X tg iter wi) (hg : ∀ cl C s₀ H₀ ex,PG (cxC X scope N' cl C s₀ H₀ ex) tg g) (ht : ∀ cl C s₀ H₀ ex,PTL (cxC X scope N' cl C s₀ H₀ ex) ifs tc) (he : ∀ cl C s₀ H₀ ex,PE (cxC X scope N' cl C s₀ H₀ ex) elt te)
  (hc : X.calm = true := by rfl) (hk : scope.kind = .function := by rfl) (hcell : ∀ y ∈ scope.names,y.2 ≠ .cell := by decide +kernel) (hnames : ∀ y ∈ scope.names,y.2 = .local → scope.names.lookup y.1 = some .local := by decide +kernel)
  (hfr : ∀ y ∈ scope.names,y.2 = .free → X.env.kindOf y.1 = some .cell ∨ X.env.kindOf y.1 = some .free) (hN : X.N = N := by rfl) (hcap : capB N N' caps scope = true := by decide +kernel)
  (hs : ∀ x,foldedSetIterable iter X.env x = pure x := by intro _; rfl) (hf : X.fn x = true ∨ X.env.scope.names.lookup x = some .local := by first | exact .inl rfl | exact .inr rfl | assumption)
  (hsw : swapsWith (.ListComp elt [⟨tg,iter,ifs,0⟩] scope pos) (some (.Name x pos')) spos.line X.env = pure true := by rfl) :
  PS X (.Assign [.Name x pos'] (.ListComp elt [⟨tg,iter,ifs,0⟩] scope pos) spos) (tAsg (tLC wi caps g tc te) (gName i)) :=
 ps_setC hc hk hcell hnames hfr (capOk_of (by rw [hN]; exact hcap)) hi hg ht he hs hnd hi' hx hf hsw
end
end L2
end
section
namespace K20
open PySem L2
abbrev sIsTab : Stmt := top 11
abbrev sWidth : Stmt := top 12
abbrev sMustT : Stmt := top 13
theorem b_len : bootBuiltins "len" = some (.builtin "len") := by decide +kernel
theorem b_all : bootBuiltins "all" = some (.builtin "all") := by decide +kernel
abbrev Rws (H : Hp) (rs : List Addr) (tb : List (List Int)) : Prop := Paired (fun a ns => H a = some (.lst (ns.map V.int))) rs tb
def wid (tb : List (List Int)) : Nat := (tb[0]?.map List.length).getD 0
def isTab (tb : List (List Int)) : Bool := decide (tb.length ≤ 40) && decide (wid tb ≤ 40) && tb.all fun r => decide (r.length = wid tb)
theorem Rws.same {H H2 : Hp} {rs : List Addr} {tb : List (List Int)} (h : Rws H rs tb) (s : Same H H2) : Rws H2 rs tb := Paired.mapP h fun _ _ e => s _ _ e
theorem Rws.len {H : Hp} {rs : List Addr} {tb : List (List Int)} (h : Rws H rs tb) : rs.length = tb.length := by
 induction h with
 | nil => rfl
 | cons _ _ ih => rw [List.length_cons,List.length_cons,ih]
theorem Rws.get {H : Hp} {rs : List Addr} {tb : List (List Int)} (h : Rws H rs tb) : ∀ {j : Nat} {a : Addr},rs[j]? = some a → ∃ ns,tb[j]? = some ns ∧ H a = some (.lst (ns.map V.int)) := by
 induction h with
 | nil => intro j a e; simp at e
 | cons r t ih =>
  intro j a e
  cases j with
  | zero => simp at e; subst e; exact ⟨_,rfl,r⟩
  | succ j => simpa using ih (by simpa using e)
theorem line_big {n : Nat} (h : n ≤ 100000) : n ≤ sizeLine := by rw [sizeLine_eq]; omega
theorem take_snoc {α : Type} {l : List α} {i : Nat} {x : α} (h : l[i]? = some x) : l.take (i + 1) = l.take i ++ [x] := by rw [List.take_add_one,h]; rfl
abbrev rLenS (K : PySem.W.Frag) : List V → Hp → VK → Prop := fun xs H Q => ∃ p ys,xs = [.ref p] ∧ (SqL K H p ys ∨ SqT K H p ys) ∧ Q (.int ys.length) H
theorem of_ref {as : List Addr} {i : Nat} {x : V} (h : (as.map V.ref)[i]? = some x) : ∃ a,as[i]? = some a ∧ x = .ref a := by
 rw [List.getElem?_map] at h
 cases e : as[i]? with
 | none => rw [e] at h; cases h
 | some a => rw [e] at h; cases h; exact ⟨a,rfl,rfl⟩
section
variable {P : Program} {w : World} {K : PySem.W.Frag} {mg : Str → Option Value} {base : Heap}
theorem rval_turn {H2 : Hp} {L D : Addr} {rs : List Addr} {tb : List (List Int)} {Q : VK} {α : Type} {mkV : α → V} {g : List Int → α} {te : TE} {c : List (Option V)}
  (hte : ∀ (o : Addr) (os : List Int) (H : Hp) (R : VK),Same H2 H → H o = some (.lst (os.map V.int)) → os ∈ tb → (∀ H',Same H H' → R (mkV (g os)) H') → te (some (.ref o) :: c) H R)
  (hl : SqL K H2 L (rs.map V.ref)) (ht : Rws H2 rs tb) (hz : tb.length ≤ 1000) (hD : H2 D = none) (k : ∀ H3,Same H2 H3 → H3 D = some (.lst ((tb.map g).map mkV)) → Q (.ref D) H3) :
  CompW (Itl K L) (gName 0) tYes te (none :: c) H2 D Q := by
 have hla := ht.len
 refine comp_list (xs := rs.map V.ref) (fun j σ ys H3 => ∃ (v : Option V),σ = v :: c ∧ Same H2 H3 ∧ H3 D = some (.lst ys) ∧ ys = ((tb.take j).map g).map mkV) ?_ ?_ ?_ ?_
 ·exact ⟨none,rfl,Same.new hD,upd_same,rfl⟩
 ·rintro j σ ys H3 ⟨v,rfl,sm,hD3,rfl⟩
  exact sm.seq hl
 ·rintro j σ ys H3 x hx hj hy ⟨v,rfl,sm,hD3,rfl⟩
  obtain ⟨o,eo,rfl⟩ := of_ref hx
  obtain ⟨os,eos,ho⟩ := ht.get eo
  have hn : (rs.map V.ref).length ≤ sizeLine := by rw [List.length_map]; exact line_big (by lia)
  refine gyes ?_
  refine hte o os H3 _ sm (sm _ _ ho) (List.mem_of_getElem? eos) fun H4 sm4 => cput hn hj hy (sm4 _ _ hD3) ⟨_,rfl,(sm.trans sm4).then hD,upd_same,?_⟩
  rw [take_snoc eos,List.map_append,List.map_append]
  rfl
 ·rintro σ ys H3 ⟨v,rfl,sm,hD3,rfl⟩
  rw [List.length_map,hla,List.take_of_length_le (Nat.le_refl _)] at hD3
  exact k H3 sm hD3
def spWidth (K : PySem.W.Frag) : Sp := fun vs H Q _ => ∃ L rs tb,vs = [.ref L] ∧ SqL K H L (rs.map V.ref) ∧ Rws H rs tb ∧ Q (.int (wid tb)) H
theorem scWidth : FnScope ["table"] ["table"] (defScope sWidth) := ⟨rfl,rfl,rfl,by decide +kernel,rfl,by decide +kernel,by decide +kernel⟩
theorem ok_width {f : Addr} {fd : FuncData} (F : Fun K "width_of" "width_of" sWidth f fd) (bl : mg "len" = none) : FnOk P w K mg base CX0 1 f fd ["table"] (spWidth K) := by
 refine F.ok scWidth (fun vs H Q E h => ?_) (fun cdv A outer s H vs Q E hr h => ?_)
 ·obtain ⟨L,rs,tb,rfl,_⟩ := h; rfl
 ·obtain ⟨L,rs,tb,rfl,hl,ht,k⟩ := h
  refine ⟨_,pss_one (ps_ret (pe_ifExp (pt_cmpR op_gt (pe_callB call_len_seq rfl bl b_len (pa_cons (pv 0) pa_nil)) pe_int (nomark _)) (pe_callB call_len_seq rfl bl b_len (pa_cons (pe_ix ix_list (pv 0) pe_int (fun _ _ => rfl)) pa_nil)) pe_int)),?_⟩
  refine ⟨_,rfl,L,_,rfl,.inl hl,_,_,rfl,rfl,_,rfl,?_⟩
  have hla := ht.len
  refine ite2 (fun h1 => ?_) (fun h1 => ?_)
  ·cases rs with
   | nil => have := of_decide_eq_true h1; simp at this
   | cons a r =>
    obtain ⟨ns,e,ha⟩ := ht.get (j := 0) rfl
    refine ⟨_,rfl,L,_,_,_,rfl,rfl,hl,atI_nat (j := 0) rfl,a,_,rfl,.inl (SqL.of ha),?_⟩
    have : wid tb = ns.length := by unfold wid; rw [e]; rfl
    rw [this] at k
    rw [List.length_map]
    exact k
  ·cases rs with
   | cons a r => have := of_decide_eq_false (Bool.eq_false_iff.mpr h1); simp at this
   | nil =>
    cases tb with
    | nil => exact k
    | cons a b => cases hla
def spIsTab (K : PySem.W.Frag) : Sp := fun vs H Q _ => ∃ L rs tb,vs = [.ref L] ∧ SqL K H L (rs.map V.ref) ∧ Rws H rs tb ∧ tb.length ≤ 1000 ∧ ∀ H',Same H H' → Q (.bl (isTab tb)) H'
theorem scIsTab : FnScope ["table"] ["table"] (defScope sIsTab) := ⟨rfl,rfl,rfl,by decide +kernel,rfl,by decide +kernel,by decide +kernel⟩
abbrev tEqW (K : PySem.W.Frag) : TE := tOp rEq (tCB (rLenS K) (tCons (tVar 0) tNil)) (tCall (spWidth K) [] E0 (tCons (tVar 1) tNil))
theorem ok_isTab {f fw : Addr} {fd fdw : FuncData} (F : Fun K "is_table" "is_table" sIsTab f fd) (bl : mg "len" = none) (ba : mg "all" = none) {tr tc : Tok} (nr : mg "MOST_ROWS" = some (.int 40 tr)) (nc : mg "MOST_COLUMNS" = some (.int 40 tc))
  (Fw : Fun K "width_of" "width_of" sWidth fw fdw) (bw : Binds K fdw ["table"] []) (mw : mg "width_of" = some (.ref fw)) : FnOk P w K mg base CX0 2 f fd ["table"] (spIsTab K) := by
 have Gw : FnOk P w K mg base CX0 1 fw fdw ["table"] (spWidth K) := ok_width Fw bl
 refine F.ok scIsTab (fun vs H Q E h => ?_) (fun cdv A outer s H vs Q E hr h => ?_)
 ·obtain ⟨L,rs,tb,rfl,_⟩ := h; rfl
 ·obtain ⟨L,rs,tb,rfl,hl,ht,hz,k⟩ := h
  refine ⟨_,pss_cons (ps_if (PW.pt (pw_or (pt_cmpR op_gt (pe_callB call_len_seq rfl bl b_len (pa_cons (pv 0) pa_nil)) (pe_glob (v := .int 40) rfl nr ⟨_,rfl⟩) (nomark _))
    (pw_or1 (pt_cmpR op_gt (pe_call Gw hr rfl mw Fw.kp bw .nil pass0 (pa_cons (pv 0) pa_nil)) (pe_glob (v := .int 40) rfl nc ⟨_,rfl⟩) (nomark _))))) (pss_one (ps_ret pe_bl)) pss_nil)
   (pss_one (ps_ret (pe_callB (call_all rfl) rfl ba b_all (pa_cons (pe_compS ["table"] ["row","table"] [none,some 0] (pi_list (pv 0)) (fun cl C s₀ H₀ ex => pg_name (i := 0) (ndN ["row","table"]) rfl (Or.inl rfl)) (fun cl C s₀ H₀ ex => ptl_nil)
    (fun cl C s₀ H₀ ex => pe_cmpR op_eq (pe_callB call_len_seq rfl bl b_len (pa_cons (pv 0) pa_nil)) (pe_call Gw hr rfl mw Fw.kp bw .nil pass0 (pa_cons (pv 1) pa_nil)) (nomark _)) (te := tEqW K) (hfr := frOf (defScope sIsTab) (by decide +kernel))) pa_nil)))),?_⟩
  have hla := ht.len
  refine ⟨_,rfl,L,_,rfl,.inl hl,_,_,rfl,rfl,_,rfl,?_⟩
  rw [List.length_map,hla]
  by_cases c1 : 40 < tb.length
  ·rw [decide_eq_true (show (40 : Int) < (tb.length : Int) by omega)]
   refine iteT (iteT ?_)
   have : isTab tb = false := by unfold isTab; rw [decide_eq_false (by omega)]; rfl
   rw [this] at k
   exact k H (Same.refl H)
  rw [decide_eq_false (show ¬ (40 : Int) < (tb.length : Int) by omega)]
  refine iteF ⟨_,rfl,L,rs,tb,rfl,hl,ht,_,_,rfl,rfl,_,rfl,?_⟩
  by_cases c2 : 40 < wid tb
  ·rw [decide_eq_true (show (40 : Int) < (wid tb : Int) by omega)]
   refine iteT ?_
   have : isTab tb = false := by unfold isTab; rw [decide_eq_false (show ¬ wid tb ≤ 40 by omega),Bool.and_false]; rfl
   rw [this] at k
   exact k H (Same.refl H)
  rw [decide_eq_false (show ¬ (40 : Int) < (wid tb : Int) by omega)]
  refine iteF ⟨_,rfl,L,rfl,⟨_,hl⟩,fun D hD => ?_⟩
  refine comp_of (rval_turn (mkV := V.bl) (g := fun r => decide (r.length = wid tb)) (fun o os H' R sm ho _ hR => ?_) hl ht hz hD fun H3 sm3 hD3 => ?_)
  ·refine ⟨_,rfl,o,_,rfl,.inl (SqL.of ho),_,rfl,L,rs,tb,rfl,sm.seq hl,ht.same sm,rfl,?_⟩
   rw [List.length_map]
   have := hR H' (Same.refl H')
   rw [show decide (V.int (os.length : Int) = V.int (wid tb : Int)) = decide (os.length = wid tb) from by rw [Bool.eq_iff_iff]; simp; omega]
   exact this
  ·refine ⟨D,_,rfl,SqL.of hD3,?_⟩
   have e : isTab tb = (tb.map fun r => decide (r.length = wid tb)).all id := by
    unfold isTab
    rw [decide_eq_true (show tb.length ≤ 40 by omega),decide_eq_true (show wid tb ≤ 40 by omega),List.all_map]; rfl
   rw [e] at k
   exact k H3 sm3
end
end K20
end
section
namespace K20
open PySem L2
abbrev sProduct : Stmt := top 14
abbrev sRowsBy : Stmt := top 15
abbrev sRowBy : Stmt := top 16
abbrev sSumBy : Stmt := top 17
abbrev sTurned : Stmt := top 18
abbrev sCols : Stmt := top 19
abbrev sColsTo : Stmt := top 20
abbrev sCol : Stmt := top 21
section
variable {P : Program} {w : World} {K : PySem.W.Frag} {mg : Str → Option Value} {base : Heap}
def spMustT (K : PySem.W.Frag) (fT : Addr) : Sp := fun vs H Q E => ∃ L rs tb,vs = [.ref L] ∧ SqL K H L (rs.map V.ref) ∧ Rws H rs tb ∧ tb.length ≤ 1000 ∧ ∀ H',Same H H' → (isTab tb = true → Q .non H') ∧ (isTab tb = false → ∀ x,H' x = none → E (.ref x) (some fT) H')
theorem scMustT : FnScope ["table"] ["table"] (defScope sMustT) := ⟨rfl,rfl,rfl,by decide +kernel,rfl,by decide +kernel,by decide +kernel⟩
theorem ok_mustT {f ft fT : Addr} {fd fdt : FuncData} (F : Fun K "must_be_table" "must_be_table" sMustT f fd) (mT : mg "NoTable" = some (.ref fT)) (qT : PySem.W.excIn K fT bmV "ValueError.__new__" = true)
  (Ft : Fun K "is_table" "is_table" sIsTab ft fdt) (bt : Binds K fdt ["table"] []) (mt : mg "is_table" = some (.ref ft)) (Gt : FnOk P w K mg base CX0 2 ft fdt ["table"] (spIsTab K)) : FnOk P w K mg base (CX1 P w) 3 f fd ["table"] (spMustT K fT) := by
 refine F.ok1 scMustT (fun vs H Q E h => ?_) (fun cdv A outer s H vs Q E hr h => ?_)
 ·obtain ⟨L,rs,tb,rfl,_⟩ := h; rfl
 ·obtain ⟨L,rs,tb,rfl,hl,ht,hz,k⟩ := h
  refine ⟨_,pss_one (ps_if (pt_not (pt_val (pe_call Gt hr rfl mt Ft.kp bt .nil pass0 (pa_cons (pv 0) pa_nil))))
   (pss_one (ps_raise (C := fT) (EX := E) rfl rfl mT qT (fun pins σ H' s' x I hx h0 hs hE => xc_out I hx h0 hs (fun a e => nomatch e) hE))) pss_nil),?_⟩
  refine ⟨_,rfl,L,rs,tb,rfl,hl,ht,hz,fun H1 sm1 => ⟨_,rfl,?_⟩⟩
  obtain ⟨k1,k2⟩ := k H1 sm1
  cases c : isTab tb with
  | true => exact iteF (k1 c)
  | false => exact iteT fun x hx => k2 c x hx
end
end K20
end
section
namespace K20
open PySem L2
theorem Rws.upd {H : Hp} {ds : List Addr} {tb : List (List Int)} {D : Addr} {o : HO} (h : Rws H ds tb) : (∀ d ∈ ds,d ≠ D) → Rws (upd H D o) ds tb := by
 induction h with
 | nil => intro _; exact .nil
 | cons r t ih => intro n; exact .cons (by rw [upd_ne (n _ (List.mem_cons_self))]; exact r) (ih fun d hd => n d (List.mem_cons_of_mem _ hd))
theorem Rws.snoc {H : Hp} {ds : List Addr} {tb : List (List Int)} {d : Addr} {ns : List Int} (h : Rws H ds tb) (e : H d = some (.lst (ns.map V.int))) : Rws H (ds ++ [d]) (tb ++ [ns]) := by
 induction h with
 | nil => exact .cons e .nil
 | cons r t ih => exact .cons r ih
theorem Rws.there {H : Hp} {ds : List Addr} {tb : List (List Int)} (h : Rws H ds tb) : ∀ d ∈ ds,H d ≠ none := by
 induction h with
 | nil => intro d hd; cases hd
 | cons r t ih =>
  intro d hd
  rcases List.mem_cons.mp hd with rfl | hd
  ·rw [r]; simp
  ·exact ih d hd
section
variable {P : Program} {w : World} {K : PySem.W.Frag} {mg : Str → Option Value} {base : Heap}
theorem new_row {H2 H3 H4 : Hp} {D d : Addr} {ds : List Addr} {l : List (List Int)} {ns : List Int} (sm : Same H2 H3) (hr : Rws H3 ds l) (hnd : ds.Nodup) (hn : ∀ e ∈ ds,H2 e = none ∧ e ≠ D) (sm4 : Same H3 H4) (hd : H3 d = none) (hD3 : H3 D ≠ none) (e4 : H4 d = some (.lst (ns.map V.int))) {o : HO} :
  Rws (L2.upd H4 D o) (ds ++ [d]) (l ++ [ns]) ∧ (ds ++ [d]).Nodup ∧ ∀ e ∈ ds ++ [d],H2 e = none ∧ e ≠ D := by
 have hdn : H2 d = none := by
  cases q : H2 d with
  | none => rfl
  | some o => rw [sm _ _ q] at hd; cases hd
 have hdD : d ≠ D := fun z => hD3 (z ▸ hd)
 have all : ∀ e ∈ ds ++ [d],H2 e = none ∧ e ≠ D := fun e he => by
  rcases List.mem_append.mp he with h | h
  ·exact hn e h
  ·obtain rfl : e = d := by simpa using h
   exact ⟨hdn,hdD⟩
 refine ⟨((hr.same sm4).snoc e4).upd fun e he => (all e he).2,?_,all⟩
 rw [List.nodup_append]
 refine ⟨hnd,by simp,fun a ha b hb => ?_⟩
 obtain rfl : b = d := by simpa using hb
 intro z
 exact hr.there a ha (z ▸ hd)
theorem rnew_turn {H2 : Hp} {L D : Addr} {rs : List Addr} {tb : List (List Int)} {Q : VK} {g : List Int → List Int} {te : TE} {c : List (Option V)}
  (hte : ∀ (o : Addr) (os : List Int) (H : Hp) (R : VK),Same H2 H → H o = some (.lst (os.map V.int)) → os ∈ tb → (∀ d H',Same H H' → H d = none → H' d = some (.lst ((g os).map V.int)) → R (.ref d) H') → te (some (.ref o) :: c) H R)
  (hl : SqL K H2 L (rs.map V.ref)) (ht : Rws H2 rs tb) (hz : tb.length ≤ 1000) (hD : H2 D = none)
  (k : ∀ H3 ds,Same H2 H3 → H3 D = some (.lst (ds.map V.ref)) → Rws H3 ds (tb.map g) → ds.Nodup → (∀ d ∈ ds,H2 d = none ∧ d ≠ D) → Q (.ref D) H3) :
  CompW (Itl K L) (gName 0) tYes te (none :: c) H2 D Q := by
 have hla := ht.len
 refine comp_list (xs := rs.map V.ref) (fun j σ ys H3 => ∃ (v : Option V) (ds : List Addr),σ = v :: c ∧ Same H2 H3 ∧ H3 D = some (.lst ys) ∧ ys = ds.map V.ref ∧ Rws H3 ds ((tb.take j).map g) ∧ ds.Nodup ∧ ∀ d ∈ ds,H2 d = none ∧ d ≠ D) ?_ ?_ ?_ ?_
 ·exact ⟨none,[],rfl,Same.new hD,upd_same,rfl,.nil,.nil,fun d hd => by cases hd⟩
 ·rintro j σ ys H3 ⟨v,ds,rfl,sm,_⟩
  exact sm.seq hl
 ·rintro j σ ys H3 x hx hj hy ⟨v,ds,rfl,sm,hD3,rfl,hr,hnd,hn⟩
  obtain ⟨o,eo,rfl⟩ := of_ref hx
  obtain ⟨os,eos,ho⟩ := ht.get eo
  have hn' : (rs.map V.ref).length ≤ sizeLine := by rw [List.length_map]; exact line_big (by omega)
  refine gyes ?_
  refine hte o os H3 _ sm (sm _ _ ho) (List.mem_of_getElem? eos) fun d H4 sm4 hd e4 => ?_
  obtain ⟨r1,r2,r3⟩ := new_row (D := D) (o := .lst (ds.map V.ref ++ [.ref d])) sm hr hnd hn sm4 hd (by rw [hD3]; simp) e4
  refine cput hn' hj hy (sm4 _ _ hD3) ⟨_,ds ++ [d],rfl,(sm.trans sm4).then hD,upd_same,by simp,?_,r2,r3⟩
  rw [take_snoc eos,List.map_append]
  exact r1
 ·rintro σ ys H3 ⟨v,ds,rfl,sm,hD3,rfl,hr,hnd,hn⟩
  rw [List.length_map,hla,List.take_of_length_le (Nat.le_refl _)] at hr
  exact k H3 ds sm hD3 hr hnd hn
theorem knew_turn {H2 : Hp} {D : Addr} {n : Nat} {Q : VK} {g : Nat → List Int} {te : TE} {c : List (Option V)}
  (hte : ∀ (j : Nat) (H : Hp) (R : VK),j < n → Same H2 H → (∀ d H',Same H H' → H d = none → H' d = some (.lst ((g j).map V.int)) → R (.ref d) H') → te (some (.int j) :: c) H R)
  (hz : n ≤ 1000) (hD : H2 D = none)
  (k : ∀ H3 ds,Same H2 H3 → H3 D = some (.lst (ds.map V.ref)) → Rws H3 ds ((List.range n).map g) → ds.Nodup → (∀ d ∈ ds,H2 d = none ∧ d ≠ D) → Q (.ref D) H3) :
  CompW (Itr 0 n) (gName 0) tYes te (none :: c) H2 D Q := by
 refine comp_range (fun j σ ys H3 => ∃ (v : Option V) (ds : List Addr),σ = v :: c ∧ Same H2 H3 ∧ H3 D = some (.lst ys) ∧ ys = ds.map V.ref ∧ Rws H3 ds (((List.range n).take j).map g) ∧ ds.Nodup ∧ ∀ d ∈ ds,H2 d = none ∧ d ≠ D) ?_ ?_ ?_
 ·exact ⟨none,[],rfl,Same.new hD,upd_same,rfl,.nil,.nil,fun d hd => by cases hd⟩
 ·rintro j σ ys H3 hj hy ⟨v,ds,rfl,sm,hD3,rfl,hr,hnd,hn⟩
  have e : (List.range n)[j]? = some j := List.getElem?_range hj
  refine gyes ?_
  rw [show (0 : Int) + ((j : Nat) : Int) = ((j : Nat) : Int) by omega]
  refine hte j H3 _ hj sm fun d H4 sm4 hd e4 => ?_
  obtain ⟨r1,r2,r3⟩ := new_row (D := D) (o := .lst (ds.map V.ref ++ [.ref d])) sm hr hnd hn sm4 hd (by rw [hD3]; simp) e4
  refine cput (line_big (by omega)) hj hy (sm4 _ _ hD3) ⟨_,ds ++ [d],rfl,(sm.trans sm4).then hD,upd_same,by simp,?_,r2,r3⟩
  rw [take_snoc e,List.map_append]
  exact r1
 ·rintro σ ys H3 ⟨v,ds,rfl,sm,hD3,rfl,hr,hnd,hn⟩
  rw [List.take_of_length_le (by simp)] at hr
  exact k H3 ds sm hD3 hr hnd hn
def colAt (tb : List (List Int)) (k : Nat) : List Int := tb.map fun r => r.getD k 0
def spCol (K : PySem.W.Frag) : Sp := fun vs H Q _ => ∃ L rs tb,∃ k : Nat,vs = [.ref L,.int k] ∧ SqL K H L (rs.map V.ref) ∧ Rws H rs tb ∧ tb.length ≤ 1000 ∧ (∀ r ∈ tb,k < r.length) ∧ ∀ D H',Same H H' → H D = none → H' D = some (.lst ((colAt tb k).map V.int)) → Q (.ref D) H'
theorem scCol : FnScope ["table","k"] ["table","k"] (defScope sCol) := ⟨rfl,rfl,rfl,by decide +kernel,rfl,by decide +kernel,by decide +kernel⟩
theorem ok_col {f : Addr} {fd : FuncData} (F : Fun K "column_of" "column_of" sCol f fd) : FnOk P w K mg base CX0 1 f fd ["table","k"] (spCol K) := by
 refine F.ok scCol (fun vs H Q E h => ?_) (fun cdv A outer s H vs Q E hr h => ?_)
 ·obtain ⟨L,rs,tb,i,rfl,_⟩ := h; rfl
 ·obtain ⟨L,rs,tb,i,rfl,hl,ht,hz,hi,k⟩ := h
  refine ⟨_,pss_one (ps_ret (pe_compS ["table","k"] ["row","k"] [none,some 1] (pi_list (pv 0)) (fun cl C s₀ H₀ ex => pg_name (i := 0) (ndN ["row","k"]) rfl (Or.inl rfl)) (fun cl C s₀ H₀ ex => ptl_nil)
   (fun cl C s₀ H₀ ex => pe_ix ix_list (pv 0) (pv 1) (fun _ _ => rfl)) (te := tOp (rIxL K) (tVar 0) (tVar 1)) (hfr := frOf (defScope sCol) (by decide +kernel)))),?_⟩
  refine ⟨_,rfl,L,rfl,⟨_,hl⟩,fun D hD => ?_⟩
  refine comp_of (rval_turn (mkV := V.int) (g := fun r => r.getD i 0) (fun o os H' R sm ho hm hR => ?_) hl ht hz hD fun H3 sm3 hD3 => k D H3 sm3 hD hD3)
  have hlt := hi os hm
  refine ⟨_,rfl,_,rfl,o,_,_,_,rfl,rfl,SqL.of ho,atI_nat (j := i) (v := V.int (os.getD i 0)) ?_,hR H' (Same.refl H')⟩
  rw [List.getElem?_map,List.getElem?_eq_getElem hlt,List.getD_eq_getElem?_getD,List.getElem?_eq_getElem hlt]
  rfl
end
end K20
end
section
namespace K20
open PySem L2
def turn (tb : List (List Int)) : List (List Int) := (List.range (wid tb)).map (colAt tb)
theorem tab_rows {tb : List (List Int)} (h : isTab tb = true) : tb.length ≤ 40 ∧ wid tb ≤ 40 ∧ ∀ r ∈ tb,r.length = wid tb := by
 unfold isTab at h
 simp only [Bool.and_eq_true,decide_eq_true_eq,List.all_eq_true] at h
 exact ⟨h.1.1,h.1.2,h.2⟩
section
variable {P : Program} {w : World} {K : PySem.W.Frag} {mg : Str → Option Value} {base : Heap}
def NewTab (H : Hp) (Q : VK) (tb : List (List Int)) : Prop := ∀ D H' ds,Same H H' → H D = none → H' D = some (.lst (ds.map V.ref)) → Rws H' ds tb → ds.Nodup → (∀ d ∈ ds,H d = none ∧ d ≠ D) → Q (.ref D) H'
def spColsTo (K : PySem.W.Frag) : Sp := fun vs H Q _ => ∃ L rs tb,∃ n : Nat,vs = [.ref L,.int n] ∧ SqL K H L (rs.map V.ref) ∧ Rws H rs tb ∧ tb.length ≤ 1000 ∧ n ≤ 1000 ∧ (∀ r ∈ tb,n ≤ r.length) ∧ NewTab H Q ((List.range n).map (colAt tb))
theorem scColsTo : FnScope ["table","width"] ["table","width"] (defScope sColsTo) := ⟨rfl,rfl,rfl,by decide +kernel,rfl,by decide +kernel,by decide +kernel⟩
theorem ok_colsTo {f fc : Addr} {fd fdc : FuncData} (F : Fun K "columns_to" "columns_to" sColsTo f fd) (br : mg "range" = none) (Fc : Fun K "column_of" "column_of" sCol fc fdc) (bc : Binds K fdc ["table","k"] []) (mc : mg "column_of" = some (.ref fc)) : FnOk P w K mg base CX0 2 f fd ["table","width"] (spColsTo K) := by
 have Gc : FnOk P w K mg base CX0 1 fc fdc ["table","k"] (spCol K) := ok_col Fc
 refine F.ok scColsTo (fun vs H Q E h => ?_) (fun cdv A outer s H vs Q E hr h => ?_)
 ·obtain ⟨L,rs,tb,n,rfl,_⟩ := h; rfl
 ·obtain ⟨L,rs,tb,n,rfl,hl,ht,hz,hn,hT,k⟩ := h
  refine ⟨_,pss_one (ps_ret (pe_compS ["table","width"] ["k","table"] [none,some 0] (pi_range1 rfl br (pa_cons (pv 1) pa_nil)) (fun cl C s₀ H₀ ex => pg_name (i := 0) (ndN ["k","table"]) rfl (Or.inl rfl)) (fun cl C s₀ H₀ ex => ptl_nil)
   (fun cl C s₀ H₀ ex => pe_call Gc hr rfl mc Fc.kp bc .nil pass0 (pa_cons (pv 1) (pa_cons (pv 0) pa_nil))) (te := tCall (spCol K) [] E0 (tCons (tVar 1) (tCons (tVar 0) tNil))) (hfr := frOf (defScope sColsTo) (by decide +kernel)))),?_⟩
  refine ⟨_,rfl,_,rfl,by omega,by omega,fun D hD => ?_⟩
  refine knew_turn (n := n) (g := colAt tb) (fun j H' R hj sm hR => ⟨_,rfl,_,rfl,L,rs,tb,j,rfl,sm.seq hl,ht.same sm,by omega,fun r hr => Nat.lt_of_lt_of_le hj (hT r hr),fun d H4 sm4 hd e4 => hR d H4 sm4 hd e4⟩) (by omega) hD fun H3 ds sm3 hD3 hr3 hnd hn => k D H3 ds sm3 hD hD3 hr3 hnd hn
def spCols (K : PySem.W.Frag) : Sp := fun vs H Q _ => ∃ L rs tb,vs = [.ref L] ∧ SqL K H L (rs.map V.ref) ∧ Rws H rs tb ∧ isTab tb = true ∧ NewTab H Q (turn tb)
theorem scCols : FnScope ["table"] ["table"] (defScope sCols) := ⟨rfl,rfl,rfl,by decide +kernel,rfl,by decide +kernel,by decide +kernel⟩
theorem ok_cols {f fc fw : Addr} {fd fdc fdw : FuncData} (F : Fun K "columns_of" "columns_of" sCols f fd) (bl : mg "len" = none) (Fc : Fun K "columns_to" "columns_to" sColsTo fc fdc) (bc : Binds K fdc ["table","width"] []) (mc : mg "columns_to" = some (.ref fc)) (Gc : FnOk P w K mg base CX0 2 fc fdc ["table","width"] (spColsTo K))
  (Fw : Fun K "width_of" "width_of" sWidth fw fdw) (bw : Binds K fdw ["table"] []) (mw : mg "width_of" = some (.ref fw)) : FnOk P w K mg base CX0 3 f fd ["table"] (spCols K) := by
 have Gw : FnOk P w K mg base CX0 1 fw fdw ["table"] (spWidth K) := ok_width Fw bl
 refine F.ok scCols (fun vs H Q E h => ?_) (fun cdv A outer s H vs Q E hr h => ?_)
 ·obtain ⟨L,rs,tb,rfl,_⟩ := h; rfl
 ·obtain ⟨L,rs,tb,rfl,hl,ht,hT,k⟩ := h
  obtain ⟨t1,t2,t3⟩ := tab_rows hT
  have hr1 : Room 1 _ := hr.mono (by decide)
  refine ⟨_,pss_one (ps_ret (pe_call Gc hr rfl mc Fc.kp bc .nil pass0 (pa_cons (pv 0) (pa_cons (pe_call Gw hr1 rfl mw Fw.kp bw .nil pass0 (pa_cons (pv 0) pa_nil)) pa_nil)))),?_⟩
  exact ⟨_,rfl,_,rfl,L,rs,tb,rfl,hl,ht,L,rs,tb,wid tb,rfl,hl,ht,by omega,by omega,fun r hr => by rw [t3 r hr]; exact Nat.le_refl _,k⟩
def spTurned (K : PySem.W.Frag) (fT : Addr) : Sp := fun vs H Q E => ∃ L rs tb,vs = [.ref L] ∧ SqL K H L (rs.map V.ref) ∧ Rws H rs tb ∧ tb.length ≤ 1000 ∧ (isTab tb = true → ∀ H1,Same H H1 → NewTab H1 Q (turn tb)) ∧ (isTab tb = false → ∀ H1,Same H H1 → ∀ x,H1 x = none → E (.ref x) (some fT) H1)
theorem scTurned : FnScope ["table"] ["table"] (defScope sTurned) := ⟨rfl,rfl,rfl,by decide +kernel,rfl,by decide +kernel,by decide +kernel⟩
theorem ok_turned {f fm fc fT : Addr} {fd fdm fdc : FuncData} (F : Fun K "turned_over" "turned_over" sTurned f fd) (Fm : Fun K "must_be_table" "must_be_table" sMustT fm fdm) (bm : Binds K fdm ["table"] []) (mm : mg "must_be_table" = some (.ref fm)) (Gm : FnOk P w K mg base (CX1 P w) 3 fm fdm ["table"] (spMustT K fT))
  (Fc : Fun K "columns_of" "columns_of" sCols fc fdc) (bc : Binds K fdc ["table"] []) (mc : mg "columns_of" = some (.ref fc)) (Gc : FnOk P w K mg base CX0 3 fc fdc ["table"] (spCols K)) : FnOk P w K mg base (CX1 P w) 4 f fd ["table"] (spTurned K fT) := by
 refine F.ok1 scTurned (fun vs H Q E h => ?_) (fun cdv A outer s H vs Q E hr h => ?_)
 ·obtain ⟨L,rs,tb,rfl,_⟩ := h; rfl
 ·obtain ⟨L,rs,tb,rfl,hl,ht,hz,k1,k2⟩ := h
  have hr2 : Room 2 _ := hr.mono (by decide)
  refine ⟨_,pss_cons (ps_expr (pe_call Gm hr rfl mm Fm.kp bm .nil (pass1 (E := E)) (pa_cons (pv 0) pa_nil))) (pss_one (ps_ret (pe_call Gc hr rfl mc Fc.kp bc .nil pass0 (pa_cons (pv 0) pa_nil)))),?_⟩
  refine ⟨_,rfl,L,rs,tb,rfl,hl,ht,hz,fun H1 sm1 => ⟨fun c => ?_,fun c x hx => k2 c H1 sm1 x hx⟩⟩
  exact ⟨_,rfl,L,rs,tb,rfl,sm1.seq hl,ht.same sm1,c,k1 c H1 sm1⟩
end
end K20
end
section
namespace L2
open PySem PySem.Spec PyProof.Rows
def ItzL (K : PySem.W.Frag) (t1 t2 : Addr) : It :=
 ⟨fun i H => ∃ xs ys,SqL K H t1 xs ∧ SqL K H t2 ys ∧ i < min xs.length ys.length,
  fun i H v H' => ∃ p x y,v = .ref p ∧ H p = none ∧ H' = upd H p (.tup [x,y]) ∧ (∀ xs,SqL K H t1 xs → xs[i]? = some x) ∧ ∀ ys,SqL K H t2 ys → ys[i]? = some y,
  fun i H => ∃ xs ys,SqL K H t1 xs ∧ SqL K H t2 ys ∧ i = min xs.length ys.length⟩
theorem turn_zipL {P : Program} {w : World} {K : PySem.W.Frag} {elts : List Expr} {k : Nat} {pos : Pos} (t1 t2 z TI TO i1 i2 : Addr) (hd : TI ≠ z ∧ TO ≠ z ∧ TI ≠ TO ∧ TI ≠ i1 ∧ TI ≠ i2 ∧ z ≠ i1 ∧ z ≠ i2 ∧ TO ≠ i1 ∧ TO ≠ i2 ∧ i1 ≠ i2) :
  Turn P w K (.Tuple elts k pos) (ItzL K t1 t2) [z,TI,TO,i1,i2] z (fun i h => IsZip h z TI TO .none ∧ IsPair h TI (.ref i1) (.ref i2) ∧ (∃ a b,IsPair h TO a b) ∧ h.IsListIter i1 t1 i ∧ h.IsListIter i2 t2 i) := by
 obtain ⟨d1,d2,d3,d4,d5,d6,d7,d8,d9,d10⟩ := hd
 refine turn_ofT (wr := [z,TO,i1,i2]) (by simp) (fun i h st b hb => ?_) (fun i h h' st kk => ?_) (fun b hb => ?_) (fun X hP hw hK hc i pins s σ H I hf st hgs => ?_) fun A i s Q E st h => wpAny_pyIter_zip st.1 h
 ·obtain ⟨a1,a2,⟨a,b',a3⟩,⟨o4,a4,_,e4⟩,⟨o5,a5,_,e5⟩⟩ := st
  simp at hb
  rcases hb with rfl | rfl | rfl | rfl | rfl
  ·exact ⟨_,a1,fun v z => by cases z⟩
  ·exact ⟨_,a2,fun v z => by cases z⟩
  ·exact ⟨_,a3,fun v z => by cases z⟩
  ·exact ⟨_,a4,fun v z => by rw [e4] at z; cases z⟩
  ·exact ⟨_,a5,fun v z => by rw [e5] at z; cases z⟩
 ·obtain ⟨a1,a2,⟨a,b',a3⟩,a4,a5⟩ := st
  exact ⟨kk z (by simp) _ a1,kk TI (by simp) _ a2,⟨a,b',kk TO (by simp) _ a3⟩,a4.at fun o e => kk i1 (by simp) o e,a5.at fun o e => kk i2 (by simp) o e⟩
 ·simp at hb ⊢
  rcases hb with rfl | rfl | rfl | rfl <;> simp
 ·subst hP hw hK
  have hd : ∃ xs ys,SqL X.K H t1 xs ∧ SqL X.K H t2 ys := by
   rcases hgs with ⟨xs,ys,a,b,_⟩ | ⟨xs,ys,a,b,_⟩
   ·exact ⟨xs,ys,a,b⟩
   ·exact ⟨xs,ys,a,b⟩
  obtain ⟨xs,ys,q1,q2⟩ := hd
  obtain ⟨us,r1,p1,_⟩ := I.list q1
  obtain ⟨ws,r2,p2,_⟩ := I.list q2
  have hl1 := r1.length
  have hl2 := r2.length
  have hh := I.ok.hd hc
  obtain ⟨a1,a2,a3,a4,a5⟩ := st
  have f := fun b hb => fp_lst I (hf b hb) q1
  have f' := fun b hb => fp_lst I (hf b hb) q2
  have AP : Zp.Apart z TI TO i1 i2 [i1,t1] [i2,t2] := by
   refine ⟨?_,?_,?_,?_,by simp,by simp,?_,?_,d1,d2,d3,d4,d5⟩
   ·simp; exact ⟨d6,(f z (by simp)).symm⟩
   ·simp; exact ⟨d7,(f' z (by simp)).symm⟩
   ·simp; exact ⟨d8,(f TO (by simp)).symm⟩
   ·simp; exact ⟨d9,(f' TO (by simp)).symm⟩
   ·simp; exact ⟨d10,(f' i1 (by simp)).symm⟩
   ·simp; exact ⟨d10.symm,(f i2 (by simp)).symm⟩
  have WZ := Zp.walks_zip (prog := X.prog) (w := X.w) (A := X.A) (Draws.list (A := X.A.in1) hh i1 t1 (f i1 (by simp)) us.toArray) (Draws.list (A := X.A.in1) hh i2 t2 (f' i2 (by simp)) ws.toArray) AP
  refine ⟨_,_,_,_,_,WZ,⟨a1,a2,a3,⟨a4,p1.isList⟩,⟨a5,p2.isList⟩⟩,fun j h st => ⟨st.1,st.2.1,st.2.2.1,st.2.2.2.1.1,st.2.2.2.2.1⟩,fun g => ?_,fun g => ?_⟩
  ·obtain ⟨xs',ys',q1',q2',hi⟩ := g
   have e1 := I.list_inj q1' q1
   have e2 := I.list_inj q2' q2
   subst e1 e2
   refine ⟨by simpa [← hl1,← hl2] using hi,fun vals hp => ?_⟩
   obtain ⟨x,y,px,py,rfl⟩ := hp
   have px' : us[i]? = some x := by simpa using px
   have py' : ws[i]? = some y := by simpa using py
   have lx : i < xs'.length := by lia
   have ly : i < ys'.length := by lia
   have gx : xs'[i]? = some xs'[i] := by simp [lx]
   have gy : ys'[i]? = some ys'[i] := by simp [ly]
   obtain ⟨u,e3,ru⟩ := r1.get gx
   obtain ⟨u',e4,ru'⟩ := r2.get gy
   rw [px'] at e3; cases e3
   rw [py'] at e4; cases e4
   refine ⟨[xs'[i],ys'[i]],.cons ru (.cons ru' .nil),two_line,fun p hp => ⟨p,_,_,rfl,hp,rfl,fun zs hz => ?_,fun zs hz => ?_⟩⟩
   ·rw [I.list_inj hz q1]; exact gx
   ·rw [I.list_inj hz q2]; exact gy
  ·obtain ⟨xs',ys',q1',q2',hi⟩ := g
   have e1 := I.list_inj q1' q1
   have e2 := I.list_inj q2' q2
   subst e1 e2
   simpa [← hl1,← hl2] using hi
theorem zipL_new (l1 l2 : Addr) (xs ys : Array Value) :
  Meets (Builtin.«zip.__new__» ⟨[.type "zip",.ref l1,.ref l2],[]⟩) (fun _ R s => s.heap.IsList l1 xs ∧ s.heap.IsList l2 ys ∧
   ∀ h',IsZip h' (s.heap.objs.size + 4) (s.heap.objs.size + 2) (s.heap.objs.size + 3) .none → IsPair h' (s.heap.objs.size + 2) (.ref s.heap.objs.size) (.ref (s.heap.objs.size + 1)) →
   IsPair h' (s.heap.objs.size + 3) .none .none → h'.IsListIter s.heap.objs.size l1 0 → h'.IsListIter (s.heap.objs.size + 1) l2 0 →
   (∀ c o,s.heap.get? c = some o → h'.get? c = some o) → R (.ok (.ret (.ref (s.heap.objs.size + 4)))) { s with heap := h' }) :=
 .of_wp fun prog w A R s h => by
  obtain ⟨hp,g,d,tk,os⟩ := s; obtain ⟨hl1,hl2,h⟩ := h
  have hsub := sub_zip
  have hL1 : Heap.IsList (Shared.heap ⟨hp,g,d,tk,os⟩) l1 xs := hl1
  have hL2 : Heap.IsList (Shared.heap ⟨hp.push { cls := .type "list_iterator",data := .fields #[.ref l1,.int 0 0] },g,d,tk,os⟩) l2 ys := Heap.IsList.push hl2 _
  wp_walk using wpAny_pyIter_list hL1,wpAny_pyIter_list hL2
  refine ⟨_,rfl,?_⟩
  dsimp only at h ⊢
  have z1 : ∀ (h : Heap) (o : Obj),(h.push o).objs.size = h.objs.size + 1 := fun h o => Heap.size_push ..
  simp only [z1,Nat.add_assoc,Nat.reduceAdd]
  refine h _ ?_ ?_ ?_ ?_ ?_ fun c o x => Heap.get?_push_of_some _ (Heap.get?_push_of_some _ (Heap.get?_push_of_some _ (Heap.get?_push_of_some _ (Heap.get?_push_of_some _ x))))
  ·exact Heap.get?_push_at (by simp only [z1]) rfl
  ·exact Heap.get?_push_of_some _ (Heap.get?_push_of_some _ (Heap.get?_push_at (by simp only [z1]) rfl))
  ·exact Heap.get?_push_of_some _ (Heap.get?_push_at (by simp only [z1]) rfl)
  ·exact ⟨_,Heap.get?_push_of_some _ (Heap.get?_push_of_some _ (Heap.get?_push_of_some _ (Heap.get?_push_of_some _ (Heap.get?_push_size _ rfl)))),rfl,rfl⟩
  ·exact ⟨_,Heap.get?_push_of_some _ (Heap.get?_push_of_some _ (Heap.get?_push_of_some _ (Heap.get?_push_at (by simp only [z1]) rfl))),rfl,rfl⟩
section
variable {X : Cx} {elts : List Expr} {k : Nat} {tpos : Pos}
def iZipL (K : PySem.W.Frag) (ta : TA) : TI := fun σ H R => ta σ H fun vs H1 => ∃ t1 t2,vs = [.ref t1,.ref t2] ∧ (∃ xs,SqL K H1 t1 xs) ∧ (∃ ys,SqL K H1 t2 ys) ∧ R (ItzL K t1 t2) H1
theorem pi_zipL {a b : Expr} {ta : TA} {p pos : Pos} (hg : Gl X "zip") (hm : X.mg "zip" = none) (hv : bootBuiltins "zip" = some (.type "zip")) (ha : PA X [a,b] ta) (hs : starEach [a,b] X.env = [(false,eval a X.env),(false,eval b X.env)] := by rfl) (hs2 : starEach [b] X.env = [(false,eval b X.env)] := by rfl) :
  PI X (.Tuple elts k tpos) (.Call (.Name "zip" p) [a,b] [] pos) (iZipL X.K ta) := by
 intro pins s σ H R I h
 refine Call_ (ld_blt I hg hm hv (PyProof.Rows.callWith_type1 (thn (ha pos pins s σ H _ I h) fun us s1 ⟨vs,H1,I1,r1,q1⟩ => ?_) (by rw [hs,hs2]) (by rw [hs2]; rfl)))
 obtain ⟨t1,t2,e,⟨xs,q1⟩,⟨ys,q2⟩,q⟩ := q1
 subst e
 obtain ⟨u,u',rfl,ru,ru'⟩ := vals2 r1
 cases ru
 cases ru'
 obtain ⟨is1,_,p1,_⟩ := I1.list q1
 obtain ⟨is2,_,p2,_⟩ := I1.list q2
 refine callType_new F.called_zip (by decide) (F.typeCall_zip_2 _ _) (F.newCall_zip_2 _ _) (fun obj => F.args_object_init_3 obj _ _) F.entry_zip_new (zipL_new t1 t2 is1.toArray is2.toArray) ⟨p1.isList,p2.isList,fun h' a1 a2 a3 a4 a5 kk => ?_⟩
 refine ⟨⟨_,a1,rfl⟩,wpAny_pyIter_zip a1 ?_⟩
 have I2 : Inv X pins σ H1 { s1 with heap := h' } := I1.kept (t' := s1.toks) kk
 refine ⟨s1.heap.objs.size + 4,[s1.heap.objs.size + 4,s1.heap.objs.size + 2,s1.heap.objs.size + 3,s1.heap.objs.size,s1.heap.objs.size + 1],_,_,H1,rfl,I2,turn_zipL t1 t2 _ _ _ _ _ (by refine ⟨?_,?_,?_,?_,?_,?_,?_,?_,?_,?_⟩ <;> (intro z; have z' : (_ : Nat) = _ := z; lia)),⟨a1,a2,⟨_,_,a3⟩,a4,a5⟩,fun b hb => ?_,q⟩
 have hb' : s1.heap.objs.size ≤ b := by
  simp only [List.mem_cons,List.not_mem_nil,or_false] at hb
  rcases hb with rfl | rfl | rfl | rfl | rfl
  ·exact Nat.le_add_right _ _
  ·exact Nat.le_add_right _ _
  ·exact Nat.le_add_right _ _
  ·exact Nat.le_refl _
  ·exact Nat.le_add_right _ _
 exact I1.fpOk hb' (I1.hok.fresh hb')
end
section
variable {K : PySem.W.Frag} {a : Addr} {xs : List V} {g : TG} {tc : TT} {te : TE} {σ : St} {H1 : Hp} {Q : VK} {D : Addr}
theorem comp_zipL {t1 t2 : Addr} {ys : List V} (Pv : Nat → St → List V → Hp → Prop) (h0 : Pv 0 σ [] (upd H1 D (.lst []))) (hl : ∀ i σ zs H,Pv i σ zs H → SqL K H t1 xs ∧ SqL K H t2 ys)
  (hs : ∀ i σ zs H p x y,xs[i]? = some x → ys[i]? = some y → i < min xs.length ys.length → zs.length ≤ i → Pv i σ zs H → H p = none → g (.ref p) σ (upd H p (.tup [x,y])) fun σ3 H4 => tc σ3 H4 fun b H5 => if b = true then te σ3 H5 (CPut (min xs.length ys.length) Pv D i σ3) else CSkip (min xs.length ys.length) Pv i σ3 H5)
  (hd : ∀ σ zs H,Pv (min xs.length ys.length) σ zs H → Q (.ref D) H) : CompW (ItzL K t1 t2) g tc te σ H1 D Q := by
 refine comp_by (min xs.length ys.length) Pv h0 (fun σ zs H p => ⟨xs,ys,(hl _ _ _ _ p).1,(hl _ _ _ _ p).2,rfl⟩) (fun i σ zs H hi p => ⟨xs,ys,(hl _ _ _ _ p).1,(hl _ _ _ _ p).2,hi⟩) (fun i σ zs H v H' hi hy p y => ?_) hd
 obtain ⟨pp,x,y',rfl,hp,rfl,y1,y2⟩ := y
 exact hs i σ zs H pp x y' (y1 xs (hl _ _ _ _ p).1) (y2 ys (hl _ _ _ _ p).2) hi hy p hp
end
end L2
end
section
namespace K20
open PySem L2
abbrev sAsked : Stmt := top 38
def Sml (ns : List Int) : Prop := ∀ n ∈ ns,-(2 ^ 64) < n ∧ n < 2 ^ 64
def dot (r c : List Int) : Int := (List.zipWith (· * ·) r c).sum
def mulT (one other : List (List Int)) : List (List Int) := one.map fun r => (turn other).map (dot r)
theorem of_nth {ns : List Int} {i : Nat} {x : V} (h : (ns.map V.int)[i]? = some x) : ∃ n,ns[i]? = some n ∧ x = .int n := by
 rw [List.getElem?_map] at h
 cases e : ns[i]? with
 | none => rw [e] at h; cases h
 | some a => rw [e] at h; cases h; exact ⟨a,rfl,rfl⟩
theorem b_zip : bootBuiltins "zip" = some (.type "zip") := by decide +kernel
theorem b_sum : bootBuiltins "sum" = some (.builtin "sum") := by decide +kernel
section
variable {P : Program} {w : World} {K : PySem.W.Frag} {mg : Str → Option Value} {base : Heap}
def spSumBy : Sp := fun vs H Q _ => ∃ r c rn cn,vs = [.ref r,.ref c] ∧ H r = some (.lst (rn.map V.int)) ∧ H c = some (.lst (cn.map V.int)) ∧ rn.length ≤ 40 ∧ cn.length ≤ 40 ∧ Sml rn ∧ ∀ H',Same H H' → Q (.int (dot rn cn)) H'
theorem scSumBy : FnScope ["row","column"] ["row","column"] (defScope sSumBy) := ⟨rfl,rfl,rfl,by decide +kernel,rfl,by decide +kernel,by decide +kernel⟩
theorem ok_sumBy {f : Addr} {fd : FuncData} (F : Fun K "sum_by" "sum_by" sSumBy f fd) (bz : mg "zip" = none) (bs : mg "sum" = none) : FnOk P w K mg base CX0 1 f fd ["row","column"] spSumBy := by
 refine F.ok scSumBy (fun vs H Q E h => ?_) (fun cdv A outer s H vs Q E hr h => ?_)
 ·obtain ⟨r,c,rn,cn,rfl,_⟩ := h; rfl
 ·obtain ⟨r,c,rn,cn,rfl,h1,h2,n1,n2,sm,k⟩ := h
  refine ⟨_,pss_one (ps_ret (pe_callB (call_sum rfl) rfl bs b_sum (pa_cons (pe_compS ["row","column"] ["number","other"] [none,none] (pi_zipL rfl bz b_zip (pa_cons (pv 0) (pa_cons (pv 1) pa_nil)))
   (fun cl C s₀ H₀ ex => pg_tup rfl (pgs_cons (pg_name (i := 0) (ndN ["number","other"]) rfl (Or.inl rfl)) (pgs_cons (pg_name (i := 1) (ndN ["number","other"]) rfl (Or.inl rfl)) pgs_nil))) (fun cl C s₀ H₀ ex => ptl_nil)
   (fun cl C s₀ H₀ ex => pe_op op_mul (pv 0) (pv 1)) (te := tOp (rI CMul fun i j => .int (i * j)) (tVar 0) (tVar 1)) (hfr := nofr (by decide +kernel)) (g := gTup K 2 (gCons (gName 0) (gCons (gName 1) gNil)))) pa_nil))),?_⟩
  refine ⟨_,rfl,_,rfl,r,c,rfl,⟨_,SqL.of h1⟩,⟨_,SqL.of h2⟩,fun D hD => ?_⟩
  refine comp_of (comp_zipL (K := K) (xs := rn.map V.int) (ys := cn.map V.int) (fun i σ zs H3 => ∃ v1 v2,σ = [v1,v2] ∧ Same H H3 ∧ H3 D = some (.lst zs) ∧ zs = ((List.zipWith (· * ·) rn cn).take i).map V.int)
   ⟨none,none,rfl,Same.new hD,upd_same,rfl⟩ (fun i σ zs H3 ⟨_,_,_,sm,_⟩ => ⟨SqL.of (sm _ _ h1),SqL.of (sm _ _ h2)⟩) ?_ ?_)
  ·rintro i σ zs H3 p' y1 y2 e1 e2 hi hz ⟨v1,v2,rfl,sm3,hD3,rfl⟩ hp'
   obtain ⟨q1,g1,rfl⟩ := of_nth e1
   obtain ⟨q2,g2,rfl⟩ := of_nth e2
   refine ⟨p',_,rfl,SqT.of upd_same,rfl,_,_,rfl,_,_,rfl,rfl,yes_ ?_⟩
   refine ⟨_,rfl,_,rfl,_,_,rfl,rfl,.inl (sm q1 (List.mem_of_getElem? g1)),cput (Nat.le_trans (Nat.min_le_right _ _) (by rw [List.length_map]; exact line_big (by omega))) hi hz (by rw [upd_ne (ne_of_none hD3 hp')]; exact hD3) ⟨_,_,rfl,?_,upd_same,?_⟩⟩
   ·exact (sm3.then (sm3.free hp')).then hD
   ·have e3 : (List.zipWith (· * ·) rn cn)[i]? = some (q1 * q2) := by rw [List.getElem?_zipWith,g1,g2]
    rw [take_snoc e3,List.map_append]; rfl
  ·rintro σ zs H3 ⟨v1,v2,rfl,sm3,hD3,rfl⟩
   refine ⟨D,List.zipWith (· * ·) rn cn,rfl,SqL.of ?_,k H3 sm3⟩
   rw [hD3,List.take_of_length_le (by simp)]
def spRowBy (K : PySem.W.Frag) : Sp := fun vs H Q _ => ∃ r C rn cs cb,vs = [.ref r,.ref C] ∧ H r = some (.lst (rn.map V.int)) ∧ H C = some (.lst (cs.map V.ref)) ∧ Rws H cs cb ∧ rn.length ≤ 40 ∧ cb.length ≤ 40 ∧ (∀ c ∈ cb,c.length ≤ 40) ∧ Sml rn ∧
 ∀ D H',Same H H' → H D = none → H' D = some (.lst ((cb.map (dot rn)).map V.int)) → Q (.ref D) H'
theorem scRowBy : FnScope ["row","columns"] ["row","columns"] (defScope sRowBy) := ⟨rfl,rfl,rfl,by decide +kernel,rfl,by decide +kernel,by decide +kernel⟩
theorem ok_rowBy {f fs : Addr} {fd fds : FuncData} (F : Fun K "row_by" "row_by" sRowBy f fd) (Fs : Fun K "sum_by" "sum_by" sSumBy fs fds) (bs : Binds K fds ["row","column"] []) (ms : mg "sum_by" = some (.ref fs)) (Gs : FnOk P w K mg base CX0 1 fs fds ["row","column"] spSumBy) :
  FnOk P w K mg base CX0 2 f fd ["row","columns"] (spRowBy K) := by
 refine F.ok scRowBy (fun vs H Q E h => ?_) (fun cdv A outer s H vs Q E hr h => ?_)
 ·obtain ⟨r,C,rn,cs,cb,rfl,_⟩ := h; rfl
 ·obtain ⟨r,C,rn,cs,cb,rfl,hr',hC,hcs,n1,n2,n3,n4,k⟩ := h
  refine ⟨_,pss_one (ps_ret (pe_compS ["row","columns"] ["column","row"] [none,some 0] (pi_list (pv 1)) (fun cl C s₀ H₀ ex => pg_name (i := 0) (ndN ["column","row"]) rfl (Or.inl rfl)) (fun cl C s₀ H₀ ex => ptl_nil)
   (fun cl C s₀ H₀ ex => pe_call Gs hr rfl ms Fs.kp bs .nil pass0 (pa_cons (pv 1) (pa_cons (pv 0) pa_nil))) (te := tCall spSumBy [] E0 (tCons (tVar 1) (tCons (tVar 0) tNil))) (hfr := frOf (defScope sRowBy) (by decide +kernel)))),?_⟩
  refine ⟨_,rfl,C,rfl,⟨_,SqL.of hC⟩,fun D hD => ?_⟩
  refine comp_of (rval_turn (mkV := V.int) (g := dot rn) (fun o os H' R sm ho hm hR => ⟨_,rfl,_,rfl,r,o,rn,os,rfl,sm _ _ hr',ho,n1,n3 os hm,n4,fun H4 sm4 => hR H4 sm4⟩) (SqL.of hC) hcs (by omega) hD fun H3 sm3 hD3 => k D H3 sm3 hD hD3)
def spRowsBy (K : PySem.W.Frag) : Sp := fun vs H Q _ => ∃ L C rs tb cs cb,vs = [.ref L,.ref C] ∧ H L = some (.lst (rs.map V.ref)) ∧ H C = some (.lst (cs.map V.ref)) ∧ Rws H rs tb ∧ Rws H cs cb ∧ tb.length ≤ 1000 ∧ (∀ r ∈ tb,r.length ≤ 40 ∧ Sml r) ∧ cb.length ≤ 40 ∧ (∀ c ∈ cb,c.length ≤ 40) ∧ NewTab H Q (tb.map fun r => cb.map (dot r))
theorem scRowsBy : FnScope ["table","columns"] ["table","columns"] (defScope sRowsBy) := ⟨rfl,rfl,rfl,by decide +kernel,rfl,by decide +kernel,by decide +kernel⟩
theorem ok_rowsBy {f fr : Addr} {fd fdr : FuncData} (F : Fun K "rows_by" "rows_by" sRowsBy f fd) (Fr : Fun K "row_by" "row_by" sRowBy fr fdr) (br : Binds K fdr ["row","columns"] []) (mr : mg "row_by" = some (.ref fr)) (Gr : FnOk P w K mg base CX0 2 fr fdr ["row","columns"] (spRowBy K)) :
  FnOk P w K mg base CX0 3 f fd ["table","columns"] (spRowsBy K) := by
 refine F.ok scRowsBy (fun vs H Q E h => ?_) (fun cdv A outer s H vs Q E hr h => ?_)
 ·obtain ⟨L,C,rs,tb,cs,cb,rfl,_⟩ := h; rfl
 ·obtain ⟨L,CC,rs,tb,cs,cb,rfl,hL,hCC,ht,hcs,z1,z2,n2,n3,k⟩ := h
  refine ⟨_,pss_one (ps_ret (pe_compS ["table","columns"] ["row","columns"] [none,some 1] (pi_list (pv 0)) (fun cl C s₀ H₀ ex => pg_name (i := 0) (ndN ["row","columns"]) rfl (Or.inl rfl)) (fun cl C s₀ H₀ ex => ptl_nil)
    (fun cl C s₀ H₀ ex => pe_call Gr hr rfl mr Fr.kp br .nil pass0 (pa_cons (pv 0) (pa_cons (pv 1) pa_nil))) (te := tCall (spRowBy K) [] E0 (tCons (tVar 0) (tCons (tVar 1) tNil))) (hfr := frOf (defScope sRowsBy) (by decide +kernel)))),?_⟩
  refine ⟨_,rfl,L,rfl,⟨_,SqL.of hL⟩,fun D hD => ?_⟩
  refine comp_of (rnew_turn (g := fun r => cb.map (dot r)) (fun o os H' R sm ho hm hR => ⟨_,rfl,_,rfl,o,CC,os,cs,cb,rfl,ho,sm _ _ hCC,hcs.same sm,(z2 os hm).1,n2,n3,(z2 os hm).2,fun d H4 sm4 hd e4 => hR d H4 sm4 hd e4⟩)
    (SqL.of hL) ht (by omega) hD fun H4 ds sm4 hD4 hr4 hnd4 hn4 => ?_)
  exact k D H4 ds sm4 hD hD4 hr4 hnd4 hn4
def spProduct (K : PySem.W.Frag) (fT : Addr) : Sp := fun vs H Q E => ∃ L M rs ms tb ub,vs = [.ref L,.ref M] ∧ H L = some (.lst (rs.map V.ref)) ∧ H M = some (.lst (ms.map V.ref)) ∧ Rws H rs tb ∧ Rws H ms ub ∧ tb.length ≤ 1000 ∧ ub.length ≤ 1000 ∧ (∀ r ∈ tb,Sml r) ∧
 (isTab tb = true → isTab ub = true → wid tb = ub.length → ∀ H1,Same H H1 → NewTab H1 Q (mulT tb ub)) ∧ (¬ (isTab tb = true ∧ isTab ub = true ∧ wid tb = ub.length) → ∀ H1,Same H H1 → ∀ x,H1 x = none → E (.ref x) (some fT) H1)
theorem scProduct : FnScope ["one","other"] ["one","other"] (defScope sProduct) := ⟨rfl,rfl,rfl,by decide +kernel,rfl,by decide +kernel,by decide +kernel⟩
theorem turn_len {tb : List (List Int)} : (turn tb).length = wid tb := by unfold turn; simp
theorem turn_rows {tb : List (List Int)} : ∀ c ∈ turn tb,c.length = tb.length := by
 intro c hc
 unfold turn at hc
 obtain ⟨k,_,rfl⟩ := List.mem_map.mp hc
 unfold colAt
 simp
theorem ok_product {f fm fc fw fr fT : Addr} {fd fdm fdc fdw fdr : FuncData} (F : Fun K "product" "product" sProduct f fd) (bl : mg "len" = none) (mT : mg "NoTable" = some (.ref fT)) (qT : PySem.W.excIn K fT bmV "ValueError.__new__" = true)
  (Fm : Fun K "must_be_table" "must_be_table" sMustT fm fdm) (bm : Binds K fdm ["table"] []) (mm : mg "must_be_table" = some (.ref fm)) (Gm : FnOk P w K mg base (CX1 P w) 3 fm fdm ["table"] (spMustT K fT))
  (Fc : Fun K "columns_of" "columns_of" sCols fc fdc) (bc : Binds K fdc ["table"] []) (mc : mg "columns_of" = some (.ref fc)) (Gc : FnOk P w K mg base CX0 3 fc fdc ["table"] (spCols K))
  (Fw : Fun K "width_of" "width_of" sWidth fw fdw) (bw : Binds K fdw ["table"] []) (mw : mg "width_of" = some (.ref fw))
  (Fr : Fun K "rows_by" "rows_by" sRowsBy fr fdr) (br : Binds K fdr ["table","columns"] []) (mr : mg "rows_by" = some (.ref fr)) (Gr : FnOk P w K mg base CX0 3 fr fdr ["table","columns"] (spRowsBy K)) : FnOk P w K mg base (CX1 P w) 4 f fd ["one","other"] (spProduct K fT) := by
 have Gw : FnOk P w K mg base CX0 1 fw fdw ["table"] (spWidth K) := ok_width Fw bl
 refine F.ok1 scProduct (fun vs H Q E h => ?_) (fun cdv A outer s H vs Q E hr h => ?_)
 ·obtain ⟨L,M,rs,ms,tb,ub,rfl,_⟩ := h; rfl
 ·obtain ⟨L,M,rs,ms,tb,ub,rfl,hL,hM,ht,hu,z1,z2,zs,k1,k2⟩ := h
  have hr1 : Room 1 _ := hr.mono (by decide)
  refine ⟨_,pss_cons (ps_expr (pe_call Gm hr rfl mm Fm.kp bm .nil (pass1 (E := E)) (pa_cons (pv 0) pa_nil)))
   (pss_cons (ps_expr (pe_call Gm hr rfl mm Fm.kp bm .nil (pass1 (E := E)) (pa_cons (pv 1) pa_nil)))
   (pss_cons (ps_if (pt_cmpR op_ne (pe_call Gw hr1 rfl mw Fw.kp bw .nil pass0 (pa_cons (pv 0) pa_nil)) (pe_callB call_len_seq rfl bl b_len (pa_cons (pv 1) pa_nil)) (nomark _))
    (pss_one (ps_raise (C := fT) (EX := E) rfl rfl mT qT (fun pins σ H' s' x I hx h0 hs hE => xc_out I hx h0 hs (fun a e => nomatch e) hE))) pss_nil)
   (pss_one (ps_ret (pe_call Gr hr rfl mr Fr.kp br .nil pass0 (pa_cons (pv 0) (pa_cons (pe_call Gc hr rfl mc Fc.kp bc .nil pass0 (pa_cons (pv 1) pa_nil)) pa_nil))))))),?_⟩
  refine ⟨_,rfl,L,rs,tb,rfl,SqL.of hL,ht,z1,fun H1 sm1 => ⟨fun c1 => ?_,fun c x hx => k2 (fun z => by rw [z.1] at c; cases c) H1 sm1 x hx⟩⟩
  refine ⟨_,rfl,M,ms,ub,rfl,SqL.of (sm1 _ _ hM),hu.same sm1,z2,fun H2 sm2 => ⟨fun c2 => ?_,fun c x hx => k2 (fun z => by rw [z.2.1] at c; cases c) H2 (sm1.trans sm2) x hx⟩⟩
  have s2 := sm1.trans sm2
  refine ⟨_,rfl,L,rs,tb,rfl,SqL.of (s2 _ _ hL),ht.same s2,_,rfl,M,_,rfl,.inl (SqL.of (s2 _ _ hM)),rfl,_,rfl,?_⟩
  rw [List.length_map,hu.len]
  by_cases c3 : wid tb = ub.length
  ·rw [show (!decide (V.int (wid tb : Int) = V.int (ub.length : Int))) = false from by simp [c3]]
   obtain ⟨t1,t2,t3⟩ := tab_rows c1
   obtain ⟨u1,u2,u3⟩ := tab_rows c2
   refine iteF ⟨_,rfl,_,rfl,M,ms,ub,rfl,SqL.of (s2 _ _ hM),hu.same s2,c2,fun CC H3 cs sm3 hC0 hCC hcs hnd hn => ?_⟩
   have s3 := s2.trans sm3
   exact ⟨L,CC,rs,tb,cs,turn ub,rfl,s3 _ _ hL,hCC,ht.same s3,hcs,by omega,fun r hr => ⟨by rw [t3 r hr]; exact t2,zs r hr⟩,by rw [turn_len]; exact u2,fun c hc => by rw [turn_rows c hc]; exact u1,k1 c1 c2 c3 H3 s3⟩
  ·rw [show (!decide (V.int (wid tb : Int) = V.int (ub.length : Int))) = true from by simp; omega]
   exact iteT fun x hx => k2 (fun z => c3 z.2.2) H2 s2 x hx
def spAsked (K : PySem.W.Frag) : Sp := fun vs H Q _ => ∃ (way : Int) (L M : Addr) (rs ms : List Addr) (tb ub : List (List Int)),vs = [.int way,.ref L,.ref M] ∧ H L = some (.lst (rs.map V.ref)) ∧ H M = some (.lst (ms.map V.ref)) ∧ Rws H rs tb ∧ Rws H ms ub ∧ tb.length ≤ 1000 ∧ ub.length ≤ 1000 ∧ (∀ r ∈ tb,Sml r) ∧
 (way = 0 → isTab tb = true → isTab ub = true → wid tb = ub.length → ∀ H1,Same H H1 → NewTab H1 Q (mulT tb ub)) ∧ (way = 0 → ¬ (isTab tb = true ∧ isTab ub = true ∧ wid tb = ub.length) → ∀ H1,Same H H1 → Q (.str "table") H1) ∧
 (way ≠ 0 → isTab tb = true → ∀ H1,Same H H1 → NewTab H1 Q (turn tb)) ∧ (way ≠ 0 → isTab tb = false → ∀ H1,Same H H1 → Q (.str "table") H1)
theorem scAsked : FnScope ["way","one","other","told","e"] ["way","one","other"] (defScope sAsked) := ⟨rfl,rfl,rfl,by decide +kernel,rfl,by decide +kernel,by decide +kernel⟩
theorem ok_asked {f fp ft fw fT fS : Addr} {fd fdp fdt fdw : FuncData} (F : Fun K "_law_asked" "_law_asked" sAsked f fd) (mS : mg "SeamError" = some (.ref fS)) (hS : SubX K fT fS)
  (Fp : Fun K "product" "product" sProduct fp fdp) (bp : Binds K fdp ["one","other"] []) (mp : mg "product" = some (.ref fp)) (Gp : FnOk P w K mg base (CX1 P w) 4 fp fdp ["one","other"] (spProduct K fT))
  (Ft : Fun K "turned_over" "turned_over" sTurned ft fdt) (bt : Binds K fdt ["table"] []) (mt : mg "turned_over" = some (.ref ft)) (Gt : FnOk P w K mg base (CX1 P w) 4 ft fdt ["table"] (spTurned K fT))
  (Fw : Fun K "_law_which" "_law_which" sWhich fw fdw) (bw : Binds K fdw ["e"] []) (mw : mg "_law_which" = some (.ref fw)) (Gw : FnOkN P w K mg base 1 fw fdw ["e"] (spWhich fT)) : FnOk P w K mg base CX0 5 f fd ["way","one","other"] (spAsked K) := by
 refine F.ok scAsked (fun vs H Q E h => ?_) (fun cdv A outer s H vs Q E hr h => ?_)
 ·obtain ⟨way,L,M,rs,ms,tb,ub,rfl,_⟩ := h; rfl
 ·obtain ⟨way,L,M,rs,ms,tb,ub,rfl,hL,hM,ht,hu,z1,z2,zs,a1,a2,a3,a4⟩ := h
  have hr1 : Room 1 _ := hr.mono (by decide)
  refine ⟨_,pss_cons (ps_set (i := 3) scAsked.nd rfl (Or.inl rfl) pe_non)
   (pss_cons (ps_try (ie := 4) (S := fS) rfl scAsked.nd rfl rfl rfl rfl rfl mS
    (fun pins EB => pss_one (ps_set (i := 3) scAsked.nd rfl (Or.inl rfl) (pe_ifExp (pt_cmpR op_eq (pv 0) pe_int (nomark _)) (pe_call Gp hr rfl mp Fp.kp bp .nil (passT rfl) (pa_cons (pv 1) (pa_cons (pv 2) pa_nil))) (pe_call Gt hr rfl mt Ft.kp bt .nil (passT rfl) (pa_cons (pv 1) pa_nil)))))
    (fun pins x => pss_one (ps_set (i := 3) scAsked.nd rfl (Or.inl rfl) (pe_callN (E := E0) Gw (hr1.mark _) rfl mw Fw.kp bw .nil (pa_cons (pv 4) pa_nil)))))
   (pss_one (ps_ret (pv 3)))),?_⟩
  have HB : ∀ (D : Ends) (H1 : Hp) (x : Addr),H1 x = none → (∀ a b c H2,Same H1 H2 → D.nx [a,b,c,some (.str "table"),none] H2) → EBof K 5 4 fS (tAsg (tCall (spWhich fT) [] E0 (tCons (tVar 4) tNil)) (gName 3)) D (.ref x) (some fT) H1 := by
   intro D H1 x hx kk
   refine ⟨x,fT,rfl,rfl,hS,fun σ' hl => ?_⟩
   match σ',hl with
   | [a,b,c,d,e],_ => exact ⟨_,rfl,x,rfl,upd_same,fun H2 sm2 => kk a b c H2 ((Same.new hx).trans sm2)⟩
  refine ⟨_,rfl,rfl,_,rfl,?_⟩
  by_cases c : way = 0
  ·rw [decide_eq_true (show V.int way = V.int 0 by rw [c])]
   refine iteT ⟨_,rfl,_,rfl,L,M,rs,ms,tb,ub,rfl,hL,hM,ht,hu,z1,z2,zs,fun c1 c2 c3 H1 sm1 D H2 ds sm2 hD hD2 hr2 hnd hn => ?_,fun c1 H1 sm1 x hx => HB _ H1 x hx fun a b c' H2 sm2 => ?_⟩
   ·exact ⟨_,rfl,a1 c c1 c2 c3 H1 sm1 D H2 ds sm2 hD hD2 hr2 hnd hn⟩
   ·exact ⟨_,rfl,a2 c c1 H2 (sm1.trans sm2)⟩
  ·rw [decide_eq_false (show ¬ V.int way = V.int 0 from fun z => c (by injection z))]
   refine iteF ⟨_,rfl,L,rs,tb,rfl,SqL.of hL,ht,z1,fun c1 H1 sm1 D H2 ds sm2 hD hD2 hr2 hnd hn => ?_,fun c1 H1 sm1 x hx => HB _ H1 x hx fun a b c' H2 sm2 => ?_⟩
   ·exact ⟨_,rfl,a3 c c1 H1 sm1 D H2 ds sm2 hD hD2 hr2 hnd hn⟩
   ·exact ⟨_,rfl,a4 c c1 H2 (sm1.trans sm2)⟩
end
end K20
end
section
namespace K20
open PySem L2
abbrev sCell : Stmt := top 23
abbrev sBox : Stmt := top 24
abbrev sTake : Stmt := top 25
structure Bt (mg : Str → Option Value) : Prop where
 len : mg "len" = none
 all : mg "all" = none
 zip : mg "zip" = none
 sum : mg "sum" = none
 range : mg "range" = none
 list : mg "list" = none
 int : mg "int" = none
 bool : mg "bool" = none
 isinstance : mg "isinstance" = none
 max : mg "max" = none
def BoxOk (x y : Int) : Prop := 0 ≤ x ∧ (y = 0 ∨ (y = 1 ∧ x < 4294967296))
def BoxAt (H : Hp) (p : Addr) : Prop := ∃ x y,H p = some (.lst [.int x,.int y]) ∧ BoxOk x y
def SameB (p : Addr) (H H' : Hp) : Prop := ∀ b o,b ≠ p → H b = some o → H' b = some o
theorem SameB.trans {p : Addr} {H H1 H2 : Hp} (a : SameB p H H1) (b : SameB p H1 H2) : SameB p H H2 := fun c o hc e => b c o hc (a c o hc e)
theorem SameB.of {p : Addr} {H H1 : Hp} (a : Same H H1) : SameB p H H1 := fun c o _ e => a c o e
theorem SameB.free {p : Addr} {H H' : Hp} (e : SameB p H H') (hb : BoxAt H p) (hb' : BoxAt H' p) {l : Addr} (h : H' l = none) : H l = none := by
 cases q : H l with
 | none => rfl
 | some o =>
  obtain ⟨x,y,e1,_⟩ := hb'
  have hl : l ≠ p := fun z => by rw [z,e1] at h; cases h
  rw [e l o hl q] at h
  cases h
theorem BoxAt.same {H H' : Hp} {p : Addr} (b : BoxAt H p) (e : Same H H') : BoxAt H' p := let ⟨x,y,h,o⟩ := b; ⟨x,y,e _ _ h,o⟩
theorem BoxAt.ne {H : Hp} {p l : Addr} {as : List Addr} (b : BoxAt H p) (h : H l = some (.lst (as.map V.ref))) : l ≠ p := by
 obtain ⟨x,y,e,_⟩ := b
 refine ne_of h e fun z => ?_
 injection z with z
 cases as with
 | nil => cases z
 | cons a r => rw [List.map_cons] at z; cases z
theorem BoxAt.net {H : Hp} {p t : Addr} {xs : List V} (b : BoxAt H p) (h : H t = some (.tup xs)) : t ≠ p := by
 obtain ⟨x,y,e,_⟩ := b
 exact ne_of h e (by intro z; cases z)
theorem SameB.tp {p : Addr} {H H' : Hp} {a : Addr} {ps : List Int} (e : SameB p H H') (b : BoxAt H p) (h : Tp H a ps) : Tp H' a ps := e _ _ (b.net h) h
theorem SameB.then {p : Addr} {H H1 : Hp} {a : Addr} {o : HO} (e : SameB p H H1) (h : H a = none) : SameB p H (L2.upd H1 a o) := fun b u hb q => by rw [upd_ne (ne_of_none q h)]; exact e b u hb q
theorem BoxAt.upd {H : Hp} {p l : Addr} {o : HO} (b : BoxAt H p) (h : l ≠ p) : BoxAt (L2.upd H l o) p := let ⟨x,y,e,k⟩ := b; ⟨x,y,by rw [upd_ne h.symm]; exact e,k⟩
theorem BoxAt.new {H : Hp} {p l : Addr} {o : HO} (b : BoxAt H p) (h : H l = none) : BoxAt (L2.upd H l o) p := b.same (Same.new h)
section
variable {P : Program} {w : World} {K : PySem.W.Frag} {mg : Str → Option Value} {base : Heap}
def spCell (K : PySem.W.Frag) : Sp := fun vs H Q _ => ∃ (l : Addr) (ns : List Int) (j : Nat),vs = [.ref l,.int j] ∧ SqL K H l (ns.map V.int) ∧ ∀ n,Q (.int n) H
theorem scCell : FnScope ["script","k"] ["script","k"] (defScope sCell) := ⟨rfl,rfl,rfl,by decide +kernel,rfl,by decide +kernel,by decide +kernel⟩
theorem ok_cell {f : Addr} {fd : FuncData} (F : Fun K "_law_cell_at" "_law_cell_at" sCell f fd) (B : Bt mg) : FnOk P w K mg base CX0 1 f fd ["script","k"] (spCell K) := by
 refine F.ok scCell (fun vs H Q E h => ?_) (fun cdv A outer s H vs Q E hr h => ?_)
 ·obtain ⟨l,ns,j,rfl,_⟩ := h; rfl
 ·obtain ⟨l,ns,j,rfl,hl,k⟩ := h
  refine ⟨_,pss_cons (ps_if (pt_cmpR op_lt (pv 1) (pe_callB call_len_seq rfl B.len b_len (pa_cons (pv 0) pa_nil)) (nomark _)) (pss_one (ps_ret (pe_ix ix_list (pv 0) (pv 1) (fun _ _ => rfl)))) pss_nil) (pss_one (ps_ret pe_int)),?_⟩
  refine ⟨_,rfl,_,rfl,l,_,rfl,.inl hl,_,_,rfl,rfl,_,rfl,?_⟩
  refine ite2 (fun h1 => ?_) (fun h1 => ?_)
  ·have hj : j < ns.length := by have := of_decide_eq_true h1; simp at this; omega
   exact ⟨_,rfl,_,rfl,l,_,_,_,rfl,rfl,hl,atI_nat (j := j) (v := .int ns[j]) (by rw [List.getElem?_map,List.getElem?_eq_getElem hj]; rfl),k _⟩
  ·exact k 0
def spBox : Sp := fun vs H Q _ => ∃ n,vs = [.int n] ∧ ∀ p x y,H p = none → BoxOk x y → Q (.ref p) (upd H p (.lst [.int x,.int y]))
theorem scBox : FnScope ["cell"] ["cell"] (defScope sBox) := ⟨rfl,rfl,rfl,by decide +kernel,rfl,by decide +kernel,by decide +kernel⟩
theorem ok_box {f : Addr} {fd : FuncData} (F : Fun K "_law_box" "_law_box" sBox f fd) : FnOk P w K mg base CX0 1 f fd ["cell"] spBox := by
 refine F.ok scBox (fun vs H Q E h => ?_) (fun cdv A outer s H vs Q E hr h => ?_)
 ·obtain ⟨n,rfl,_⟩ := h; rfl
 ·obtain ⟨n,rfl,k⟩ := h
  refine ⟨_,pss_cons (ps_if (pt_cmpR op_ge (pv 0) (pe_op op_pow pe_int pe_int) (nomark _)) (pss_one (ps_ret (pe_lst (pa_cons (pe_op op_sub (pv 0) (pe_op op_pow pe_int pe_int)) (pa_cons pe_int pa_nil))))) pss_nil)
   (pss_one (ps_ret (pe_lst (pa_cons (pe_op op_mod (pe_op op_add (pe_op op_mul (pe_op op_mod (pv 0) (pe_op op_pow pe_int pe_int)) pe_int) pe_int) pe_int) (pa_cons pe_int pa_nil))))),?_⟩
  have hc : CPow 10 18 := ⟨by decide,by decide,by decide⟩
  have e18 : (10 : Int) ^ (18 : Int).toNat = 1000000000000000000 := by decide
  refine ⟨_,rfl,_,_,rfl,rfl,hc,_,_,rfl,rfl,_,rfl,?_⟩
  refine ite2 (fun h1 => ?_) (fun h1 => ?_)
  ·refine ⟨_,rfl,_,_,rfl,rfl,hc,_,_,rfl,rfl,line_big (by simp),fun p hp => k p _ 0 hp ⟨?_,.inl rfl⟩⟩
   have := of_decide_eq_true h1
   lia
  ·refine ⟨_,rfl,_,_,rfl,rfl,hc,_,_,rfl,rfl,(by show (0 : Int) < 10 ^ (18 : Int).toNat; rw [e18]; decide),_,_,rfl,rfl,.inr ⟨by decide,by decide⟩,_,_,rfl,rfl,_,_,rfl,rfl,(by show (0 : Int) < 2147483629; decide),line_big (by simp),fun p hp => k p _ 1 hp ⟨?_,.inr ⟨rfl,?_⟩⟩⟩
   ·exact Int.emod_nonneg _ (by decide)
   ·have := Int.emod_lt_of_pos (n % 10 ^ (18 : Int).toNat * 69621 + 7001) (show (0 : Int) < 2147483629 by decide)
    lia
def spTake : Sp := fun vs H Q _ => ∃ p m,vs = [.ref p,.int m] ∧ BoxAt H p ∧ 0 < m ∧ m < 1073741824 ∧ ∀ r H',0 ≤ r → r < m → SameB p H H' → BoxAt H' p → Q (.int r) H'
theorem scTake : FnScope ["box","most","found","mixed"] ["box","most"] (defScope sTake) := ⟨rfl,rfl,rfl,by decide +kernel,rfl,by decide +kernel,by decide +kernel⟩
theorem ok_take {f : Addr} {fd : FuncData} (F : Fun K "_law_take" "_law_take" sTake f fd) : FnOk P w K mg base CX0 1 f fd ["box","most"] spTake := by
 refine F.ok scTake (fun vs H Q E h => ?_) (fun cdv A outer s H vs Q E hr h => ?_)
 ·obtain ⟨p,m,rfl,_⟩ := h; rfl
 ·obtain ⟨p,m,rfl,⟨x,y,hp,h0,hxy⟩,hm0,hm,k⟩ := h
  refine ⟨_,pss_cons (ps_if (pt_cmpR op_eq (pe_ix ix_list (pv 0) pe_int (fun _ _ => rfl)) pe_int (nomark _))
    (pss_cons (ps_set (i := 2) scTake.nd rfl (Or.inl rfl) (pe_op op_mod (pe_ix ix_list (pv 0) pe_int (fun _ _ => rfl)) (pv 1)))
    (pss_cons (ps_asg (pe_op op_fdiv (pe_ix ix_list (pv 0) pe_int (fun _ _ => rfl)) (pv 1)) (pg_sub (pv 0) pe_int set_list))
    (pss_one (ps_ret (pv 2))))) pss_nil)
   (pss_cons (ps_set (i := 3) scTake.nd rfl (Or.inl rfl) (pe_op op_mod (pe_op op_add (pe_op op_add (pe_op op_mul (pe_ix ix_list (pv 0) pe_int (fun _ _ => rfl)) (pe_ix ix_list (pv 0) pe_int (fun _ _ => rfl))) (pe_op op_mul pe_int (pe_ix ix_list (pv 0) pe_int (fun _ _ => rfl)))) pe_int) pe_int))
   (pss_cons (ps_asg (pe_op op_mod (pe_op op_add (pe_op op_add (pe_op op_mul (pv 3) (pv 3)) (pe_op op_mul pe_int (pv 3))) pe_int) pe_int) (pg_sub (pv 0) pe_int set_list))
   (pss_one (ps_ret (pe_op op_mod (pe_op op_fdiv (pe_ix ix_list (pv 0) pe_int (fun _ _ => rfl)) pe_int) (pv 1)))))),?_⟩
  have a0 : atI ([.int x,.int y] : List V) 0 = some (.int x) := atI_nat (j := 0) rfl
  have a1 : atI ([.int x,.int y] : List V) 1 = some (.int y) := atI_nat (j := 1) rfl
  refine ⟨_,rfl,p,_,_,_,rfl,rfl,SqL.of hp,a1,rfl,_,rfl,?_⟩
  refine ite2 (fun h1 => ?_) (fun h1 => ?_)
  ·refine ⟨_,rfl,p,_,_,_,rfl,rfl,SqL.of hp,a0,_,rfl,_,_,rfl,rfl,hm0,?_⟩
   refine ⟨_,rfl,p,_,_,_,rfl,rfl,SqL.of hp,a0,_,rfl,_,_,rfl,rfl,⟨hm0,hm⟩,_,rfl,p,_,_,0,rfl,rfl,hp,rfl,?_⟩
   refine ⟨_,rfl,k (x % m) _ (Int.emod_nonneg _ (by lia)) (Int.emod_lt_of_pos _ hm0) (fun b o hb e => by rw [upd_ne hb]; exact e) ⟨x / m,y,upd_same,Int.ediv_nonneg h0 (by lia),?_⟩⟩
   rcases hxy with q | ⟨q,hx⟩
   ·exact .inl q
   ·refine .inr ⟨q,Int.lt_of_le_of_lt (Int.ediv_le_self _ h0) hx⟩
  ·have hy : y = 1 ∧ x < 4294967296 := by
    rcases hxy with q | q
    ·exact absurd (by subst q; rfl) h1
    ·exact q
   obtain ⟨rfl,hx⟩ := hy
   have hb : CMul x x := .inl ⟨by lia,by lia⟩
   refine ⟨_,rfl,p,_,_,_,rfl,rfl,SqL.of hp,a0,_,rfl,p,_,_,_,rfl,rfl,SqL.of hp,a0,_,_,rfl,rfl,hb,_,rfl,p,_,_,_,rfl,rfl,SqL.of hp,a0,_,_,rfl,rfl,.inl ⟨by decide,by decide⟩,_,_,rfl,rfl,_,_,rfl,rfl,_,_,rfl,rfl,(by show (0 : Int) < 2147483647; decide),?_⟩
   have m0 := Int.emod_nonneg (x * x + 39373 * x + 12345) (show (2147483647 : Int) ≠ 0 by decide)
   have m1 := Int.emod_lt_of_pos (x * x + 39373 * x + 12345) (show (0 : Int) < 2147483647 by decide)
   obtain ⟨z,ez⟩ : ∃ z,z = (x * x + 39373 * x + 12345) % 2147483647 := ⟨_,rfl⟩
   rw [← ez] at m0 m1
   show tSeq _ _ _ ([some (.ref p),some (.int m),none,some (.int ((x * x + 39373 * x + 12345) % 2147483647))] : St) H
   rw [← ez]
   refine ⟨_,rfl,_,rfl,_,_,rfl,rfl,.inl ⟨by lia,by lia⟩,_,rfl,_,_,rfl,rfl,.inl ⟨by decide,by decide⟩,_,_,rfl,rfl,_,_,rfl,rfl,_,_,rfl,rfl,(by show (0 : Int) < 2147483587; decide),_,rfl,p,_,_,0,rfl,rfl,hp,rfl,?_⟩
   have g0 := Int.emod_nonneg (z * z + 16807 * z + 7) (show (2147483587 : Int) ≠ 0 by decide)
   have g1 := Int.emod_lt_of_pos (z * z + 16807 * z + 7) (show (0 : Int) < 2147483587 by decide)
   obtain ⟨u,eu⟩ : ∃ u,u = (z * z + 16807 * z + 7) % 2147483587 := ⟨_,rfl⟩
   rw [← eu] at g0 g1
   have hpu : upd H p (.lst [.int ((z * z + 16807 * z + 7) % 2147483587),.int 1]) p = some (.lst [.int u,.int 1]) := by rw [eu]; exact upd_same
   refine ⟨_,rfl,p,_,_,_,rfl,rfl,SqL.of hpu,atI_nat (j := 0) rfl,_,_,rfl,rfl,⟨by decide,by decide⟩,_,rfl,_,_,rfl,rfl,hm0,?_⟩
   exact k _ _ (Int.emod_nonneg _ (by lia)) (Int.emod_lt_of_pos _ hm0) (fun b o hb e => by rw [upd_ne hb]; exact e) ⟨u,1,hpu,g0,.inr ⟨rfl,by lia⟩⟩
end
end K20
end
section
namespace K20
open PySem L2
abbrev sRow : Stmt := top 26
abbrev sTable : Stmt := top 27
section
variable {P : Program} {w : World} {K : PySem.W.Frag} {mg : Str → Option Value} {base : Heap}
def Bnd (m : Int) (ns : List Int) : Prop := ∀ n ∈ ns,-m ≤ n ∧ n ≤ m
def spRow : Sp := fun vs H Q _ => ∃ (p : Addr) (c : Nat) (wd : Int),vs = [.ref p,.int c,.int wd] ∧ BoxAt H p ∧ c ≤ 1000 ∧ 0 < wd ∧ wd < 1073741824 ∧ ∀ D H' ns,SameB p H H' → BoxAt H' p → H D = none → H' D = some (.lst (ns.map V.int)) → ns.length = c → Bnd wd ns → Q (.ref D) H'
theorem scRow : FnScope ["box","columns","wide"] ["box","columns","wide"] (defScope sRow) := ⟨rfl,rfl,rfl,by decide +kernel,rfl,by decide +kernel,by decide +kernel⟩
theorem ok_row {f ft : Addr} {fd fdt : FuncData} (F : Fun K "_law_row" "_law_row" sRow f fd) (B : Bt mg) (Ft : Fun K "_law_take" "_law_take" sTake ft fdt) (bt : Binds K fdt ["box","most"] []) (mt : mg "_law_take" = some (.ref ft)) : FnOk P w K mg base CX0 2 f fd ["box","columns","wide"] spRow := by
 have Gt : FnOk P w K mg base CX0 1 ft fdt ["box","most"] spTake := ok_take Ft
 refine F.ok scRow (fun vs H Q E h => ?_) (fun cdv A outer s H vs Q E hr h => ?_)
 ·obtain ⟨p,c,wd,rfl,_⟩ := h; rfl
 ·obtain ⟨p,c,wd,rfl,hb,hc,w0,w1,k⟩ := h
  refine ⟨_,pss_one (ps_ret (pe_compS ["box","columns","wide"] ["place","box","wide"] [none,some 0,some 2] (pi_range1 rfl B.range (pa_cons (pv 1) pa_nil)) (fun cl C s₀ H₀ ex => pg_name (i := 0) (ndN ["place","box","wide"]) rfl (Or.inl rfl)) (fun cl C s₀ H₀ ex => ptl_nil)
   (fun cl C s₀ H₀ ex => pe_op op_sub (pe_call Gt hr rfl mt Ft.kp bt .nil pass0 (pa_cons (pv 1) (pa_cons (pv 2) pa_nil))) (pe_op op_fdiv (pv 2) pe_int)) (te := tOp (rI0 fun i j => .int (i - j)) (tCall spTake [] E0 (tCons (tVar 1) (tCons (tVar 2) tNil))) (tOp (rI CDiv fun i j => .int (i / j)) (tVar 2) (tC (.int 2)))) (hfr := frOf (defScope sRow) (by decide +kernel)))),?_⟩
  refine ⟨_,rfl,_,rfl,by omega,by omega,fun D hD => ?_⟩
  have hDp : D ≠ p := fun z => by obtain ⟨x,y,e,_⟩ := hb; rw [← z,hD] at e; cases e
  refine comp_of (comp_range (fun j σ ys H3 => ∃ (v : Option V) (ns : List Int),σ = [v,some (.ref p),some (.int wd)] ∧ SameB p H H3 ∧ BoxAt H3 p ∧ H3 D = some (.lst ys) ∧ ys = ns.map V.int ∧ ns.length = j ∧ Bnd wd ns) ?_ ?_ ?_)
  ·exact ⟨none,[],rfl,.of (Same.new hD),hb.new hD,upd_same,rfl,rfl,fun n hn => by cases hn⟩
  ·rintro j σ ys H3 hj hy ⟨v,ns,rfl,sb,hb3,hD3,rfl,hl,bd⟩
   refine gyes ?_
   refine ⟨_,rfl,_,rfl,p,wd,rfl,hb3,w0,w1,fun r H4 r0 r1 sb4 hb4 => ⟨_,rfl,_,_,rfl,rfl,⟨by decide,by decide⟩,_,_,rfl,rfl,?_⟩⟩
   refine cput (line_big (by omega)) hj hy (sb4 _ _ hDp hD3) ⟨_,ns ++ [r - wd / 2],rfl,(sb.trans sb4).then hD,hb4.upd hDp,upd_same,by simp,by simp [hl],fun n hn => ?_⟩
   rcases List.mem_append.mp hn with h | h
   ·exact bd n h
   ·obtain rfl : n = r - wd / 2 := by simpa using h
    omega
  ·rintro σ ys H3 ⟨v,ns,rfl,sb,hb3,hD3,rfl,hl,bd⟩
   exact k D H3 ns sb hb3 hD hD3 hl bd
end
end K20
end
section
namespace K20
open PySem L2
theorem Rws.sameB {p : Addr} {H H' : Hp} {ds : List Addr} {tb : List (List Int)} (h : Rws H ds tb) (s : SameB p H H') : (∀ d ∈ ds,d ≠ p) → Rws H' ds tb := by
 induction h with
 | nil => intro _; exact .nil
 | cons r t ih => intro n; exact .cons (s _ _ (n _ (List.mem_cons_self)) r) (ih fun d hd => n d (List.mem_cons_of_mem _ hd))
theorem Rws.set {H : Hp} {ds : List Addr} {tb : List (List Int)} {d : Addr} {ns : List Int} (h : Rws H ds tb) (e : H d = some (.lst (ns.map V.int))) : ∀ i : Nat,Rws H (ds.set i d) (tb.set i ns) := by
 induction h with
 | nil => intro i; exact .nil
 | cons r t ih =>
  intro i
  cases i with
  | zero => exact .cons e t
  | succ i => exact .cons r (ih i)
section
variable {P : Program} {w : World} {K : PySem.W.Frag} {mg : Str → Option Value} {base : Heap}
theorem knewB_turn {p D : Addr} {H2 : Hp} {n : Nat} {Q : VK} {Pr : List Int → Prop} {te : TE} {c : List (Option V)} (hb : BoxAt H2 p)
  (hte : ∀ (j : Nat) (H : Hp) (R : VK),SameB p H2 H → BoxAt H p → (∀ d H' ns,SameB p H H' → BoxAt H' p → H d = none → H' d = some (.lst (ns.map V.int)) → Pr ns → R (.ref d) H') → te (some (.int j) :: c) H R)
  (hz : n ≤ 1000) (hD : H2 D = none)
  (k : ∀ H3 ds tb,SameB p H2 H3 → BoxAt H3 p → H3 D = some (.lst (ds.map V.ref)) → Rws H3 ds tb → tb.length = n → (∀ r ∈ tb,Pr r) → (∀ d ∈ ds,H2 d = none ∧ d ≠ D) → Q (.ref D) H3) :
  CompW (Itr 0 n) (gName 0) tYes te (none :: c) H2 D Q := by
 have nep : ∀ d,H2 d = none → d ≠ p := fun d e z => by obtain ⟨x,y,e',_⟩ := hb; rw [← z,e] at e'; cases e'
 have hDp := nep D hD
 refine comp_range (fun j σ ys H3 => ∃ (v : Option V) (ds : List Addr) (tb : List (List Int)),σ = v :: c ∧ SameB p H2 H3 ∧ BoxAt H3 p ∧ H3 D = some (.lst ys) ∧ ys = ds.map V.ref ∧ Rws H3 ds tb ∧ tb.length = j ∧ (∀ r ∈ tb,Pr r) ∧ ∀ d ∈ ds,H2 d = none ∧ d ≠ D) ?_ ?_ ?_
 ·exact ⟨none,[],[],rfl,.of (Same.new hD),hb.new hD,upd_same,rfl,.nil,rfl,(fun d hd => by cases hd),fun d hd => by cases hd⟩
 ·rintro j σ ys H3 hj hy ⟨v,ds,tb,rfl,sb,hb3,hD3,rfl,hr,hl,hp,hn⟩
  refine gyes ?_
  rw [show (0 : Int) + ((j : Nat) : Int) = ((j : Nat) : Int) by omega]
  refine hte j H3 _ sb hb3 fun d H4 ns sb4 hb4 hd e4 pr => ?_
  have hd2 : H2 d = none := sb.free hb hb3 hd
  have hdD : d ≠ D := fun z => by rw [z,hD3] at hd; cases hd
  have all : ∀ e ∈ ds ++ [d],H2 e = none ∧ e ≠ D := fun e he => by
   rcases List.mem_append.mp he with h | h
   ·exact hn e h
   ·obtain rfl : e = d := by simpa using h
    exact ⟨hd2,hdD⟩
  refine cput (line_big (by omega)) hj hy (sb4 _ _ hDp hD3) ⟨_,ds ++ [d],tb ++ [ns],rfl,(sb.trans sb4).then hD,hb4.upd hDp,upd_same,by simp,?_,by simp [hl],fun r hr' => ?_,all⟩
  ·exact ((hr.sameB sb4 fun e he => nep e (hn e he).1).snoc e4).upd fun e he => (all e he).2
  ·rcases List.mem_append.mp hr' with h | h
   ·exact hp r h
   ·obtain rfl : r = ns := by simpa using h
    exact pr
 ·rintro σ ys H3 ⟨v,ds,tb,rfl,sb,hb3,hD3,rfl,hr,hl,hp,hn⟩
  exact k H3 ds tb sb hb3 hD3 hr hl hp hn
abbrev tOft : TE := tOp (rI CMul fun i j => .int (i * j)) (tVar 1) (tVar 0)
theorem oft_turn {R D : Addr} {H2 : Hp} {ns : List Int} {o : Int} {Q : VK} (ho : -(2 ^ 64) < o ∧ o < 2 ^ 64) (hR : H2 R = some (.lst (ns.map V.int))) (hz : ns.length ≤ 1000) (hD : H2 D = none)
  (k : ∀ H3,Same H2 H3 → H3 D = some (.lst ((ns.map (o * ·)).map V.int)) → Q (.ref D) H3) : CompW (Itl K R) (gName 0) tYes tOft [none,some (.int o)] H2 D Q := by
 refine comp_list (xs := ns.map V.int) (fun j σ ys H3 => ∃ (v : Option V),σ = [v,some (.int o)] ∧ Same H2 H3 ∧ H3 D = some (.lst ys) ∧ ys = ((ns.take j).map (o * ·)).map V.int) ?_ ?_ ?_ ?_
 ·exact ⟨none,rfl,Same.new hD,upd_same,rfl⟩
 ·rintro j σ ys H3 ⟨v,rfl,sm,_⟩
  exact SqL.of (sm _ _ hR)
 ·rintro j σ ys H3 x hx hj hy ⟨v,rfl,sm,hD3,rfl⟩
  obtain ⟨q,g,rfl⟩ := of_nth hx
  refine gyes ?_
  refine ⟨_,rfl,_,rfl,_,_,rfl,rfl,.inl ho,cput (by rw [List.length_map]; exact line_big (by omega)) hj hy hD3 ⟨_,rfl,sm.then hD,upd_same,?_⟩⟩
  rw [take_snoc g,List.map_append,List.map_append]
  rfl
 ·rintro σ ys H3 ⟨v,rfl,sm,hD3,rfl⟩
  rw [List.length_map,List.take_of_length_le (Nat.le_refl _)] at hD3
  exact k H3 sm hD3
end
end K20
end
section
namespace K20
open PySem L2
def TabB (H0 : Hp) (p F : Addr) (c n : Nat) (m : Int) (H' : Hp) : Prop := ∃ ds tb,SameB p H0 H' ∧ BoxAt H' p ∧ H' F = some (.lst (ds.map V.ref)) ∧ Rws H' ds tb ∧ tb.length = n ∧ (∀ r ∈ tb,r.length = c ∧ Bnd m r) ∧ (∀ d ∈ ds,H0 d = none ∧ d ≠ F) ∧ H0 F = none
theorem box_ne {H : Hp} {p d : Addr} (hb : BoxAt H p) (e : H d = none) : d ≠ p := fun z => by obtain ⟨x,y,e',_⟩ := hb; rw [← z,e] at e'; cases e'
theorem TabB.draw {H0 H' H'' : Hp} {p F : Addr} {c n : Nat} {m : Int} (hb : BoxAt H0 p) (h : TabB H0 p F c n m H') (s : SameB p H' H'') (b : BoxAt H'' p) : TabB H0 p F c n m H'' := by
 obtain ⟨ds,tb,sb,_,hF,hr,hl,hp,hn,h0⟩ := h
 exact ⟨ds,tb,sb.trans s,b,s _ _ (box_ne hb h0) hF,hr.sameB s fun d hd => box_ne hb (hn d hd).1,hl,hp,hn,h0⟩
theorem Bnd.mono {m m' : Int} {ns : List Int} (h : Bnd m ns) (hm : m ≤ m') : Bnd m' ns := fun n hn => by have := h n hn; omega
theorem Bnd.times {m k o : Int} {ns : List Int} (h : Bnd m ns) (hm : 0 ≤ m) (h1 : -k ≤ o) (h2 : o ≤ k) : Bnd (k * m) (ns.map (o * ·)) := fun n hn => by
 obtain ⟨q,hq,rfl⟩ := List.mem_map.mp hn
 obtain ⟨b1,b2⟩ := h q hq
 have hk : 0 ≤ k := by omega
 have e1 : o.natAbs ≤ k.natAbs := by omega
 have e2 : q.natAbs ≤ m.natAbs := by omega
 have e3 : (o * q).natAbs ≤ (k * m).natAbs := by rw [Int.natAbs_mul,Int.natAbs_mul]; exact Nat.mul_le_mul e1 e2
 have e4 : 0 ≤ k * m := Int.mul_nonneg hk hm
 show -(k * m) ≤ o * q ∧ o * q ≤ k * m
 generalize o * q = a at *
 generalize k * m = b at *
 omega
theorem TabB.put {H0 H' H3 : Hp} {p F D : Addr} {c n : Nat} {m m' : Int} {ds : List Addr} {tb : List (List Int)} {i : Nat} {ns : List Int} (hb : BoxAt H0 p) (sb : SameB p H0 H') (hb' : BoxAt H' p) (hF : H' F = some (.lst (ds.map V.ref))) (hr : Rws H' ds tb) (hl : tb.length = n) (hp : ∀ r ∈ tb,r.length = c ∧ Bnd m r)
  (hn : ∀ d ∈ ds,H0 d = none ∧ d ≠ F) (h0 : H0 F = none) (hD : H' D = none) (sm : Same H' H3) (e : H3 D = some (.lst (ns.map V.int))) (hlen : ns.length = c) (hbd : Bnd m' ns) (hm : m ≤ m') : TabB H0 p F c n m' (L2.upd H3 F (.lst ((ds.map V.ref).set i (.ref D)))) := by
 have hFp := box_ne hb h0
 have hDF : D ≠ F := fun z => by rw [z,hF] at hD; cases hD
 have hD0 : H0 D = none := sb.free hb hb' hD
 have mem : ∀ d ∈ ds.set i D,H0 d = none ∧ d ≠ F := fun d hd => by
  rcases List.mem_or_eq_of_mem_set hd with h | h
  ·exact hn d h
  ·rw [h]; exact ⟨hD0,hDF⟩
 refine ⟨ds.set i D,tb.set i ns,fun b o hbp ho => ?_,(hb'.same sm).upd hFp,?_,((hr.same sm).set e i).upd fun d hd => (mem d hd).2,by simp [hl],fun r hr' => ?_,mem,h0⟩
 ·rw [upd_ne (fun z => by rw [z,h0] at ho; cases ho)]
  exact sm _ _ (sb b o hbp ho)
 ·rw [upd_same,List.map_set]
 ·rcases List.mem_or_eq_of_mem_set hr' with h | h
  ·exact ⟨(hp r h).1,(hp r h).2.mono hm⟩
  ·rw [h]; exact ⟨hlen,hbd⟩
end K20
end
section
namespace K20
open PySem L2
theorem ixN_in {n : Nat} {k : Int} (h0 : 0 ≤ k) (h1 : k < n) : ixN n k = some k.toNat := by unfold ixN; rw [if_pos h0,if_pos h1]
theorem atI_in {α : Type} {xs : List α} {k : Int} {v : α} (h0 : 0 ≤ k) (h1 : k < xs.length) (e : xs[k.toNat]? = some v) : atI xs k = some v := by unfold atI; rw [ixN_in h0 h1]; exact e
section
variable {P : Program} {w : World} {K : PySem.W.Frag} {mg : Str → Option Value} {base : Heap}
def spTable : Sp := fun vs H Q _ => ∃ (p : Addr),vs = [.ref p,.int 4] ∧ BoxAt H p ∧ ∀ F H' c n,c ≤ 4 → n ≤ 4 → TabB H p F c n 1000 H' → Q (.ref F) H'
theorem scTable : FnScope ["box","most","rows","columns","wide","found","one","other","often"] ["box","most"] (defScope sTable) := ⟨rfl,rfl,rfl,by decide +kernel,rfl,by decide +kernel,by decide +kernel⟩
theorem ok_table {f ft fr : Addr} {fd fdt fdr : FuncData} (F : Fun K "_law_table" "_law_table" sTable f fd) (B : Bt mg) (Ft : Fun K "_law_take" "_law_take" sTake ft fdt) (bt : Binds K fdt ["box","most"] []) (mt : mg "_law_take" = some (.ref ft))
  (Fr : Fun K "_law_row" "_law_row" sRow fr fdr) (br : Binds K fdr ["box","columns","wide"] []) (mr : mg "_law_row" = some (.ref fr)) : FnOk P w K mg base CX0 3 f fd ["box","most"] spTable := by
 have Gt : FnOk P w K mg base CX0 1 ft fdt ["box","most"] spTake := ok_take Ft
 have Gr : FnOk P w K mg base CX0 2 fr fdr ["box","columns","wide"] spRow := ok_row Fr B Ft bt mt
 refine F.ok scTable (fun vs H Q E h => ?_) (fun cdv A outer s H vs Q E hr h => ?_)
 ·obtain ⟨p,rfl,_⟩ := h; rfl
 ·obtain ⟨p,rfl,hb,k⟩ := h
  have hr1 : Room 1 _ := hr.mono (by decide)
  have TAIL : ∃ tt,PSs (cxOf CX0 P w K mg base ["box","most","rows","columns","wide","found","one","other","often"] "_law_table" (defScope sTable) f cdv A outer s H E).nox (List.drop 5 (defBody sTable)) tt ∧ ∀ (Fd : Addr) (n c : Nat) (x4 v6 v7 v8 : Option V) (H' : Hp),n ≤ 4 → c ≤ 4 → TabB H p Fd c n 122 H' →
    tt { nx := fun _ H' => Q .non H',rt := Q } [some (.ref p),some (.int 4),some (.int n),some (.int c),x4,some (.ref Fd),v6,v7,v8] H' := by
   refine ⟨_,(pss_cons (ps_if (PW.pt (pw_and (pt_cmpR op_gt (pv 2) pe_int (nomark _)) (pw_and1 (pt_cmpR op_eq (pe_call Gt hr1 rfl mt Ft.kp bt .nil pass0 (pa_cons (pv 0) (pa_cons pe_int pa_nil))) pe_int (nomark _)))))
    (pss_cons (ps_set (i := 6) scTable.nd rfl (Or.inl rfl) (pe_call Gt hr1 rfl mt Ft.kp bt .nil pass0 (pa_cons (pv 0) (pa_cons (pv 2) pa_nil))))
    (pss_cons (ps_set (i := 8) scTable.nd rfl (Or.inr rfl) (pe_op op_add pe_int (pe_call Gt hr1 rfl mt Ft.kp bt .nil pass0 (pa_cons (pv 0) (pa_cons pe_int pa_nil)))))
    (pss_one (ps_asg (pe_compS ["box","most","rows","columns","wide","found","one","other","often"] ["number","often"] [none,some 8] (pi_list (pe_ix ix_list (pv 5) (pv 6) (fun _ _ => rfl))) (fun cl C s₀ H₀ ex => pg_name (i := 0) (ndN ["number","often"]) rfl (Or.inl rfl)) (fun cl C s₀ H₀ ex => ptl_nil)
     (fun cl C s₀ H₀ ex => pe_op op_mul (pv 1) (pv 0)) (te := tOft) (hfr := frOf (defScope sTable) (by decide +kernel))) (pg_sub (pv 5) (pv 6) set_list))))) pss_nil)
    (pss_one (ps_ret (pv 5)))),?_⟩
   intro Fd n c x4 v6 v7 v8 H' hn hc T
   have hb' : BoxAt H' p := by obtain ⟨_,_,_,b,_⟩ := T; exact b
   refine ⟨_,rfl,_,_,rfl,rfl,_,rfl,?_⟩
   by_cases c1 : 0 < n
   ·rw [decide_eq_true (show (0 : Int) < (n : Int) by omega)]
    refine iteT ⟨_,rfl,p,_,rfl,hb',by decide,by decide,fun u H1 u0 u1 sb1 hb1 => ⟨rfl,_,rfl,?_⟩⟩
    have T1 := T.draw hb sb1 hb1
    refine ite2 (fun _ => ?_) (fun _ => ?_)
    ·refine ⟨_,rfl,_,rfl,p,_,rfl,hb1,by omega,by omega,fun i H2 i0 i1 sb2 hb2 => ?_⟩
     refine ⟨_,rfl,p,_,rfl,hb2,by decide,by decide,fun o H3 o0 o1 sb3 hb3 => ⟨_,_,rfl,rfl,?_⟩⟩
     obtain ⟨ds,tb,sb,hbb,hF,hrw,hl,hp,hnn,h0⟩ := (T1.draw hb sb2 hb2).draw hb sb3 hb3
     have hdl := hrw.len
     have hi : i.toNat < ds.length := by omega
     obtain ⟨ns,en,hns⟩ := hrw.get (List.getElem?_eq_getElem hi)
     have hm := List.mem_of_getElem? en
     refine ⟨_,rfl,_,rfl,Fd,_,_,_,rfl,rfl,SqL.of hF,atI_in (v := .ref ds[i.toNat]) i0 (by rw [List.length_map]; omega) (by rw [List.getElem?_map,List.getElem?_eq_getElem hi]; rfl),_,rfl,⟨_,SqL.of hns⟩,fun D hD => ?_⟩
     refine comp_of (oft_turn (o := 1 + o) ⟨by omega,by omega⟩ hns (by rw [(hp ns hm).1]; omega) hD fun H4 sm4 hD4 => ?_)
     refine ⟨_,rfl,_,rfl,Fd,_,_,i.toNat,rfl,rfl,sm4 _ _ hF,ixN_in i0 (by rw [List.length_map]; omega),?_⟩
     refine ⟨_,rfl,k Fd _ c n hc hn ?_⟩
     exact TabB.put hb sb hbb hF hrw hl hp hnn h0 hD sm4 hD4 (by rw [List.length_map]; exact (hp ns hm).1) (((hp ns hm).2.times (k := 6) (by omega) (by omega) (by omega)).mono (by omega)) (by omega)
    ·obtain ⟨ds,tb,sb,hbb,hF,hrw,hl,hp,hnn,h0⟩ := T1
     exact ⟨_,rfl,k Fd _ c n hc hn ⟨ds,tb,sb,hbb,hF,hrw,hl,fun r hr' => ⟨(hp r hr').1,(hp r hr').2.mono (by omega)⟩,hnn,h0⟩⟩
   ·rw [decide_eq_false (show ¬ (0 : Int) < (n : Int) by omega)]
    refine iteF (iteF ?_)
    obtain ⟨ds,tb,sb,hbb,hF,hrw,hl,hp,hnn,h0⟩ := T
    exact ⟨_,rfl,k Fd _ c n hc hn ⟨ds,tb,sb,hbb,hF,hrw,hl,fun r hr' => ⟨(hp r hr').1,(hp r hr').2.mono (by omega)⟩,hnn,h0⟩⟩
  obtain ⟨tt,ht,kt⟩ := TAIL
  refine ⟨_,pss_cons (ps_set (i := 2) scTable.nd rfl (Or.inl rfl) (pe_call Gt hr1 rfl mt Ft.kp bt .nil pass0 (pa_cons (pv 0) (pa_cons (pe_op op_add (pv 1) pe_int) pa_nil))))
   (pss_cons (ps_set (i := 3) scTable.nd rfl (Or.inr rfl) (pe_call Gt hr1 rfl mt Ft.kp bt .nil pass0 (pa_cons (pv 0) (pa_cons (pe_op op_add (pv 1) pe_int) pa_nil))))
   (pss_cons (ps_set (i := 4) scTable.nd rfl (Or.inr rfl) (pe_ix ix_list (pe_lst (pa_cons pe_int (pa_cons pe_int (pa_cons pe_int (pa_cons pe_int pa_nil))))) (pe_call Gt hr1 rfl mt Ft.kp bt .nil pass0 (pa_cons (pv 0) (pa_cons pe_int pa_nil))) (fun _ _ => rfl)))
   (pss_cons (ps_setS (i := 5) scTable.nd rfl (Or.inl rfl) ["box","most","rows","columns","wide","found","one","other","often"] ["row","box","columns","wide"] [none,some 0,some 3,some 4] (pi_range1 rfl B.range (pa_cons (pv 2) pa_nil)) (fun cl C s₀ H₀ ex => pg_name (i := 0) (ndN ["row","box","columns","wide"]) rfl (Or.inl rfl)) (fun cl C s₀ H₀ ex => ptl_nil)
    (fun cl C s₀ H₀ ex => pe_call Gr hr rfl mr Fr.kp br .nil pass0 (pa_cons (pv 1) (pa_cons (pv 2) (pa_cons (pv 3) pa_nil)))) (te := tCall spRow [] E0 (tCons (tVar 1) (tCons (tVar 2) (tCons (tVar 3) tNil)))) (hfr := frOf (defScope sTable) (by decide +kernel)))
   (pss_cons (ps_if (PW.pt (pw_and (pt_cmpR op_gt (pv 2) pe_int (nomark _)) (pw_and1 (pt_cmpR op_eq (pe_call Gt hr1 rfl mt Ft.kp bt .nil pass0 (pa_cons (pv 0) (pa_cons pe_int pa_nil))) pe_int (nomark _)))))
    (pss_cons (ps_set (i := 6) scTable.nd rfl (Or.inl rfl) (pe_call Gt hr1 rfl mt Ft.kp bt .nil pass0 (pa_cons (pv 0) (pa_cons (pv 2) pa_nil))))
    (pss_cons (ps_set (i := 7) scTable.nd rfl (Or.inl rfl) (pe_call Gt hr1 rfl mt Ft.kp bt .nil pass0 (pa_cons (pv 0) (pa_cons (pv 2) pa_nil))))
    (pss_cons (ps_set (i := 8) scTable.nd rfl (Or.inr rfl) (pe_op op_sub (pe_call Gt hr1 rfl mt Ft.kp bt .nil pass0 (pa_cons (pv 0) (pa_cons pe_int pa_nil))) pe_int))
    (pss_one (ps_asg (pe_compS ["box","most","rows","columns","wide","found","one","other","often"] ["number","often"] [none,some 8] (pi_list (pe_ix ix_list (pv 5) (pv 7) (fun _ _ => rfl))) (fun cl C s₀ H₀ ex => pg_name (i := 0) (ndN ["number","often"]) rfl (Or.inl rfl)) (fun cl C s₀ H₀ ex => ptl_nil)
     (fun cl C s₀ H₀ ex => pe_op op_mul (pv 1) (pv 0)) (te := tOft) (hfr := frOf (defScope sTable) (by decide +kernel))) (pg_sub (pv 5) (pv 6) set_list)))))) pss_nil)
   ht)))),?_⟩
  refine ⟨_,rfl,_,rfl,_,_,rfl,rfl,p,_,rfl,hb,by decide,by decide,fun n H1 n0 n1 sb1 hb1 => ?_⟩
  refine ⟨_,rfl,_,rfl,_,_,rfl,rfl,p,_,rfl,hb1,by decide,by decide,fun c H2 c0 c1 sb2 hb2 => ?_⟩
  refine ⟨by decide,fun q hq => ⟨_,rfl,p,_,rfl,hb2.new hq,by decide,by decide,fun v H3 v0 v1 sb3 hb3 => ?_⟩⟩
  obtain ⟨n,rfl⟩ : ∃ m : Nat,n = (m : Int) := ⟨n.toNat,by omega⟩
  obtain ⟨c,rfl⟩ : ∃ m : Nat,c = (m : Int) := ⟨c.toNat,by omega⟩
  obtain ⟨wv,ew,w0,w1⟩ : ∃ wv : Int,atI [V.int 3,.int 5,.int 13,.int 61] v = some (.int wv) ∧ 0 < wv ∧ wv ≤ 61 := by
   have : v = 0 ∨ v = 1 ∨ v = 2 ∨ v = 3 := by omega
   rcases this with rfl | rfl | rfl | rfl
   ·exact ⟨3,rfl,by decide,by decide⟩
   ·exact ⟨5,rfl,by decide,by decide⟩
   ·exact ⟨13,rfl,by decide,by decide⟩
   ·exact ⟨61,rfl,by decide,by decide⟩
  refine ⟨q,_,_,_,rfl,rfl,SqL.of (sb3 _ _ (box_ne hb2 hq) upd_same),ew,?_⟩
  have S3 : SameB p H H3 := ((sb1.trans sb2).trans (.of (Same.new hq))).trans sb3
  refine ⟨_,rfl,_,rfl,by omega,by omega,fun Fd hF => ?_⟩
  refine comp_of (knewB_turn (p := p) (n := n) (Pr := fun ns => ns.length = c ∧ Bnd 61 ns) hb3 (fun j H' R sb hb' hR => ⟨_,rfl,_,rfl,_,rfl,p,c,wv,rfl,hb',by omega,w0,by omega,fun d H4 ns sb4 hb4 hd e4 hl bd => hR d H4 ns sb4 hb4 hd e4 ⟨hl,bd.mono w1⟩⟩) (by omega) hF fun H4 ds tb sb4 hb4 hF4 hr4 hl4 hp4 hn4 => ?_)
  have T4 : TabB H p Fd c n 61 H4 := ⟨ds,tb,S3.trans sb4,hb4,hF4,hr4,hl4,hp4,fun d hd => ⟨S3.free hb hb3 (hn4 d hd).1,(hn4 d hd).2⟩,S3.free hb hb3 hF⟩
  have up : ∀ H',TabB H p Fd c n 61 H' → TabB H p Fd c n 122 H' := fun H' ⟨ds,tb,a1,a2,a3,a4,a5,a6,a7,a8⟩ => ⟨ds,tb,a1,a2,a3,a4,a5,fun r hr' => ⟨(a6 r hr').1,(a6 r hr').2.mono (by omega)⟩,a7,a8⟩
  refine ⟨_,rfl,_,_,rfl,rfl,_,rfl,?_⟩
  by_cases c1' : 1 < n
  ·rw [decide_eq_true (show (1 : Int) < (n : Int) by omega)]
   refine iteT ⟨_,rfl,p,_,rfl,hb4,by decide,by decide,fun u H5 u0 u1 sb5 hb5 => ⟨rfl,_,rfl,?_⟩⟩
   have T5 := T4.draw hb sb5 hb5
   refine ite2 (fun _ => ?_) (fun _ => ?_)
   ·refine ⟨_,rfl,_,rfl,p,_,rfl,hb5,by omega,by omega,fun i H6 i0 i1 sb6 hb6 => ?_⟩
    refine ⟨_,rfl,_,rfl,p,_,rfl,hb6,by omega,by omega,fun o H7 o0 o1 sb7 hb7 => ?_⟩
    refine ⟨_,rfl,p,_,rfl,hb7,by decide,by decide,fun t H8 t0 t1 sb8 hb8 => ⟨_,_,rfl,rfl,?_⟩⟩
    obtain ⟨ds,tb,sb,hbb,hF',hrw,hl,hp,hnn,h0⟩ := ((T5.draw hb sb6 hb6).draw hb sb7 hb7).draw hb sb8 hb8
    have hdl := hrw.len
    have hi : o.toNat < ds.length := by omega
    obtain ⟨ns,en,hns⟩ := hrw.get (List.getElem?_eq_getElem hi)
    have hm := List.mem_of_getElem? en
    refine ⟨_,rfl,_,rfl,Fd,_,_,_,rfl,rfl,SqL.of hF',atI_in (v := .ref ds[o.toNat]) o0 (by rw [List.length_map]; omega) (by rw [List.getElem?_map,List.getElem?_eq_getElem hi]; rfl),_,rfl,⟨_,SqL.of hns⟩,fun D hD => ?_⟩
    refine comp_of (oft_turn (o := t - 2) ⟨by omega,by omega⟩ hns (by rw [(hp ns hm).1]; omega) hD fun H9 sm9 hD9 => ?_)
    refine ⟨_,rfl,_,rfl,Fd,_,_,i.toNat,rfl,rfl,sm9 _ _ hF',ixN_in i0 (by rw [List.length_map]; omega),?_⟩
    exact kt Fd n c _ _ _ _ _ (by omega) (by omega) (TabB.put hb sb hbb hF' hrw hl hp hnn h0 hD sm9 hD9 (by rw [List.length_map]; exact (hp ns hm).1) (((hp ns hm).2.times (k := 2) (by omega) (by omega) (by omega)).mono (by omega)) (by omega))
   ·exact kt Fd n c _ _ _ _ _ (by omega) (by omega) (up _ T5)
  ·rw [decide_eq_false (show ¬ (1 : Int) < (n : Int) by omega)]
   exact iteF (iteF (kt Fd n c _ _ _ _ _ (by omega) (by omega) (up _ T4)))
end
end K20
end
section
namespace L2
open PySem PySem.Spec PyProof.Rows
section
variable {X : Cx}
theorem shaped_li (ns : List Int) : SeqAt.shaped (.list (ns.map PyData.int)) = true := by
 simp [SeqAt.shaped,PyData.canLay0,PySem.W.ke_canLayAll0,PyData.depth,PySem.W.ke_depthAll]
end
end L2
end
section
namespace L2
open PySem PySem.Spec PyProof.Rows
mutual
inductive DV (K : PySem.W.Frag) (H : Hp) : V → PyData → Prop where
 | bl (b : Bool) : DV K H (.bl b) (.bool b)
 | int (i : Int) : DV K H (.int i) (.int i)
 | str (z : Str) : DV K H (.str z) (.str z)
 | lst {l : Addr} {xs : List V} {ds : List PyData} (h : SqL K H l xs) (t : DVs K H xs ds) : DV K H (.ref l) (.list ds)
inductive DVs (K : PySem.W.Frag) (H : Hp) : List V → List PyData → Prop where
 | nil : DVs K H [] []
 | cons {x : V} {d : PyData} {xs : List V} {ds : List PyData} (h : DV K H x d) (t : DVs K H xs ds) : DVs K H (x :: xs) (d :: ds)
end
section
variable {X : Cx} {pins : List (Addr × Obj)} {σ : St} {H : Hp} {s : Shared}
mutual
theorem DV.reads (I : Inv X pins σ H s) : ∀ {x : V} {d : PyData} {u : Value},DV X.K H x d → RelV x u → ∃ ads,Reads s.heap u d ads
 | _,_,_,.bl b,r => by cases r; exact ⟨_,.bool b⟩
 | _,_,_,.int i,r => by obtain ⟨t,rfl⟩ := r; exact ⟨_,.int i t⟩
 | _,_,_,.str z,r => by obtain ⟨t,rfl⟩ := r; exact ⟨_,.str z t⟩
 | _,_,_,.lst h t,r => by
  cases r
  obtain ⟨its,rv,p,_⟩ := I.list h
  obtain ⟨o,ho,hc,n,hd⟩ := p.isList
  obtain ⟨ads,q⟩ := DVs.reads I t rv
  exact ⟨_,.list ho hc hd (by simpa using q)⟩
theorem DVs.reads (I : Inv X pins σ H s) : ∀ {xs : List V} {ds : List PyData} {us : List Value},DVs X.K H xs ds → Vals xs us → ∃ ads,ReadsAll s.heap us ds ads
 | _,_,_,.nil,.nil => ⟨_,.nil⟩
 | _,_,_,.cons h t,.cons r rs => by
  obtain ⟨a,q⟩ := DV.reads I h r
  obtain ⟨b,q'⟩ := DVs.reads I t rs
  exact ⟨_,.cons q q'⟩
end
end
def rEqD (neg : Bool) (K : PySem.W.Frag) : R2 := fun x y H Q => ∃ d e,DV K H x d ∧ DV K H y e ∧ SeqAt.shaped d = true ∧ SeqAt.shaped e = true ∧ SeqAt.noMix d e = true ∧ Q (.bl (if neg then !same d e else same d e)) H
section
variable {X : Cx}
theorem op_eqD (hu : X.A.units + 64 < cLine) : OpR X (compareOp .Eq) (rEqD false X.K) := by
 intro pins s σ H x y v u Q I rx ry h
 obtain ⟨d,e,h1,h2,s1,s2,nm,q⟩ := h
 obtain ⟨a1,r1⟩ := h1.reads I rx
 obtain ⟨a2,r2⟩ := h2.reads I ry
 exact eq_dataH_same r1 r2 s1 s2 hu nm ⟨.bl _,H,I,rfl,q⟩
theorem op_neD (hu : X.A.units + 64 < cLine) : OpR X (compareOp .NotEq) (rEqD true X.K) := by
 intro pins s σ H x y v u Q I rx ry h
 obtain ⟨d,e,h1,h2,s1,s2,nm,q⟩ := h
 obtain ⟨a1,r1⟩ := h1.reads I rx
 obtain ⟨a2,r2⟩ := h2.reads I ry
 exact ne_dataH_same r1 r2 s1 s2 hu nm ⟨.bl _,H,I,rfl,q⟩
end
abbrev liD (ns : List Int) : PyData := .list (ns.map PyData.int)
abbrev tbD (tb : List (List Int)) : PyData := .list (tb.map liD)
abbrev ttD (ts : List (List (List Int))) : PyData := .list (ts.map tbD)
theorem same_liD (ns ms : List Int) : same (liD ns) (liD ms) = decide (ns = ms) := by simp only [same]; exact PySem.W.ke_sameAll ns ms
theorem same_tbA : ∀ a b : List (List Int),sameAll (a.map liD) (b.map liD) = decide (a = b)
 | [],[] => by simp [sameAll]
 | [],_ :: _ => by simp [sameAll]
 | _ :: _,[] => by simp [sameAll]
 | a :: r,b :: t => by
  simp only [List.map_cons,sameAll,same_liD]
  rw [same_tbA r t]
  by_cases h : a = b <;> by_cases h' : r = t <;> simp [h,h']
theorem same_tbD (a b : List (List Int)) : same (tbD a) (tbD b) = decide (a = b) := by simp only [same]; exact same_tbA a b
theorem same_ttA : ∀ a b : List (List (List Int)),sameAll (a.map tbD) (b.map tbD) = decide (a = b)
 | [],[] => by simp [sameAll]
 | [],_ :: _ => by simp [sameAll]
 | _ :: _,[] => by simp [sameAll]
 | a :: r,b :: t => by
  simp only [List.map_cons,sameAll,same_tbD]
  rw [same_ttA r t]
  by_cases h : a = b <;> by_cases h' : r = t <;> simp [h,h']
theorem same_ttD (a b : List (List (List Int))) : same (ttD a) (ttD b) = decide (a = b) := by simp only [same]; exact same_ttA a b
theorem lay_li (ns : List Int) : PyData.canLayAll0 (ns.map PyData.int) = true := by simp [PySem.W.ke_canLayAll0]
theorem lay_tb : ∀ tb : List (List Int),PyData.canLayAll0 (tb.map liD) = true
 | [] => rfl
 | a :: r => by rw [List.map_cons,PyData.canLayAll0,lay_tb r,liD,PyData.canLay0,lay_li]; rfl
theorem lay_tt : ∀ ts : List (List (List Int)),PyData.canLayAll0 (ts.map tbD) = true
 | [] => rfl
 | a :: r => by rw [List.map_cons,PyData.canLayAll0,lay_tt r,tbD,PyData.canLay0,lay_tb]; rfl
theorem dep_tb : ∀ tb : List (List Int),PyData.depthAll (tb.map liD) ≤ 2
 | [] => Nat.zero_le _
 | a :: r => by
  have e : PyData.depth (liD a) ≤ 2 := by simp [PyData.depth,PySem.W.ke_depthAll]
  rw [List.map_cons,PyData.depthAll]
  exact Nat.max_le.mpr ⟨e,dep_tb r⟩
theorem dep_tt : ∀ ts : List (List (List Int)),PyData.depthAll (ts.map tbD) ≤ 3
 | [] => Nat.zero_le _
 | a :: r => by
  have e : PyData.depth (tbD a) ≤ 3 := by
   have := dep_tb a
   rw [tbD,PyData.depth]; omega
  rw [List.map_cons,PyData.depthAll]
  exact Nat.max_le.mpr ⟨e,dep_tt r⟩
theorem shaped_tb (tb : List (List Int)) : SeqAt.shaped (tbD tb) = true := by
 have := dep_tb tb
 have e : PyData.depth (tbD tb) ≤ 64 := by rw [tbD,PyData.depth]; omega
 unfold SeqAt.shaped
 rw [decide_eq_true e,tbD,PyData.canLay0,lay_tb]
 rfl
theorem shaped_tt (ts : List (List (List Int))) : SeqAt.shaped (ttD ts) = true := by
 have := dep_tt ts
 have e : PyData.depth (ttD ts) ≤ 64 := by rw [ttD,PyData.depth]; omega
 unfold SeqAt.shaped
 rw [decide_eq_true e,ttD,PyData.canLay0,lay_tt]
 rfl
theorem mix_li (a b : List Int) : SeqAt.noMix (liD a) (liD b) = true := SeqAt.noMix_of_shape (.list .int) rfl _ _ (by simp [Shape.has]) (by simp [Shape.has])
theorem mix_tb (a b : List (List Int)) : SeqAt.noMix (tbD a) (tbD b) = true := SeqAt.noMix_of_shape (.list (.list .int)) rfl _ _ (by simp [Shape.has]) (by simp [Shape.has])
theorem mix_tt (a b : List (List (List Int))) : SeqAt.noMix (ttD a) (ttD b) = true := SeqAt.noMix_of_shape (.list (.list (.list .int))) rfl _ _ (by simp [Shape.has]) (by simp [Shape.has])
theorem dvs_ints {K : PySem.W.Frag} {H : Hp} : ∀ ns : List Int,DVs K H (ns.map V.int) (ns.map PyData.int)
 | [] => .nil
 | n :: r => .cons (.int n) (dvs_ints r)
theorem dv_ints {K : PySem.W.Frag} {H : Hp} {l : Addr} {ns : List Int} (h : SqL K H l (ns.map V.int)) : DV K H (.ref l) (liD ns) := .lst h (dvs_ints ns)
end L2
end
section
namespace K20
open PySem L2
abbrev sLWide : Stmt := top 28
abbrev sLGood : Stmt := top 37
abbrev sLWhole : Stmt := top 32
abbrev sRowLike : Stmt := top 33
abbrev sTabLike : Stmt := top 34
theorem b_int : bootBuiltins "int" = some (.type "int") := by decide +kernel
theorem b_bool : bootBuiltins "bool" = some (.type "bool") := by decide +kernel
theorem b_list : bootBuiltins "list" = some (.type "list") := by decide +kernel
theorem dvs_rows {K : PySem.W.Frag} {H : Hp} {rs : List Addr} {tb : List (List Int)} (h : Rws H rs tb) : DVs K H (rs.map V.ref) (tb.map liD) := by
 induction h with
 | nil => exact .nil
 | cons r t ih => exact .cons (dv_ints (SqL.of r)) ih
theorem dv_tab {K : PySem.W.Frag} {H : Hp} {L : Addr} {rs : List Addr} {tb : List (List Int)} (hl : SqL K H L (rs.map V.ref)) (h : Rws H rs tb) : DV K H (.ref L) (tbD tb) := .lst hl (dvs_rows h)
section
variable {P : Program} {w : World} {K : PySem.W.Frag} {mg : Str → Option Value} {base : Heap}
def spLWide (K : PySem.W.Frag) : Sp := fun vs H Q _ => ∃ L rs tb,vs = [.ref L] ∧ SqL K H L (rs.map V.ref) ∧ Rws H rs tb ∧ ∀ H',Same H H' → Q (.int (wid tb)) H'
theorem scLWide : FnScope ["table"] ["table"] (defScope sLWide) := ⟨rfl,rfl,rfl,by decide +kernel,rfl,by decide +kernel,by decide +kernel⟩
theorem ok_lwide {f : Addr} {fd : FuncData} (F : Fun K "_law_wide" "_law_wide" sLWide f fd) (B : Bt mg) : FnOk P w K mg base CX0 1 f fd ["table"] (spLWide K) := by
 refine F.ok scLWide (fun vs H Q E h => ?_) (fun cdv A outer s H vs Q E hr h => ?_)
 ·obtain ⟨L,rs,tb,rfl,_⟩ := h; rfl
 ·obtain ⟨L,rs,tb,rfl,hl,ht,k⟩ := h
  have hu64 := hr.units
  refine ⟨_,pss_one (ps_ret (pe_ifExp (pt_cmpR (op_neD hu64) (pv 0) (pe_lst pa_nil) (nomark _)) (pe_callB call_len_seq rfl B.len b_len (pa_cons (pe_ix ix_list (pv 0) pe_int (fun _ _ => rfl)) pa_nil)) pe_int)),?_⟩
  refine ⟨_,rfl,by decide,fun p hp => ?_⟩
  have sm : Same H (upd H p (.lst [])) := Same.new hp
  refine ⟨tbD tb,tbD [],dv_tab (sm.seq hl) (ht.same sm),dv_tab (rs := []) (SqL.of upd_same) .nil,shaped_tb _,shaped_tb _,mix_tb _ _,_,rfl,?_⟩
  rw [if_pos rfl,same_tbD]
  have hla := ht.len
  cases tb with
  | nil =>
   rw [show (!decide (([] : List (List Int)) = [])) = false from rfl]
   exact iteF (k _ sm)
  | cons r t =>
   rw [show (!decide ((r :: t : List (List Int)) = [])) = true from by simp]
   cases rs with
   | nil => cases hla
   | cons a as =>
    obtain ⟨ns,e,ha⟩ := ht.get (j := 0) rfl
    refine iteT ⟨_,rfl,L,_,_,_,rfl,rfl,sm.seq hl,atI_nat (j := 0) rfl,a,_,rfl,.inl (SqL.of (sm _ _ ha)),?_⟩
    have : wid (r :: t) = ns.length := by unfold wid; rw [e]; rfl
    have kk := k _ sm
    rw [this] at kk
    rw [List.length_map]
    exact kk
end
end K20
end
section
namespace K20
open PySem L2
section
variable {P : Program} {w : World} {K : PySem.W.Frag} {mg : Str → Option Value} {base : Heap}
theorem rsel_turn {H2 : Hp} {L D : Addr} {rs : List Addr} {tb : List (List Int)} {Q : VK} {p : List Int → Bool} {tc : TT} {c : List (Option V)}
  (htc : ∀ (o : Addr) (os : List Int) (H : Hp) (R : Bool → Hp → Prop),Same H2 H → H o = some (.lst (os.map V.int)) → os ∈ tb → (∀ H',Same H H' → R (p os) H') → tc (some (.ref o) :: c) H R)
  (hl : SqL K H2 L (rs.map V.ref)) (ht : Rws H2 rs tb) (hz : tb.length ≤ 1000) (hD : H2 D = none) (k : ∀ H3 ys,Same H2 H3 → H3 D = some (.lst ys) → ys.length = (tb.filter p).length → Q (.ref D) H3) :
  CompW (Itl K L) (gName 0) tc (tVar 0) (none :: c) H2 D Q := by
 have hla := ht.len
 refine comp_list (xs := rs.map V.ref) (fun j σ ys H3 => ∃ (v : Option V),σ = v :: c ∧ Same H2 H3 ∧ H3 D = some (.lst ys) ∧ ys.length = ((tb.take j).filter p).length) ?_ ?_ ?_ ?_
 ·exact ⟨none,rfl,Same.new hD,upd_same,rfl⟩
 ·rintro j σ ys H3 ⟨v,rfl,sm,_⟩
  exact sm.seq hl
 ·rintro j σ ys H3 x hx hj hy ⟨v,rfl,sm,hD3,hc⟩
  obtain ⟨o,eo,rfl⟩ := of_ref hx
  obtain ⟨os,eos,ho⟩ := ht.get eo
  have hn : (rs.map V.ref).length ≤ sizeLine := by rw [List.length_map]; exact line_big (by omega)
  refine htc o os H3 _ sm (sm _ _ ho) (List.mem_of_getElem? eos) fun H4 sm4 => ?_
  cases hp : p os
  ·refine iteF (cskip hj hy ⟨_,rfl,sm.trans sm4,sm4 _ _ hD3,?_⟩)
   rw [take_snoc eos,List.filter_append,List.filter_cons_of_neg (by rw [hp]; simp),List.filter_nil,List.append_nil]
   exact hc
  ·refine iteT ⟨_,rfl,cput hn hj hy (sm4 _ _ hD3) ⟨_,rfl,(sm.trans sm4).then hD,upd_same,?_⟩⟩
   rw [take_snoc eos,List.filter_append,List.filter_cons_of_pos hp,List.length_append,List.length_append,hc]
   rfl
 ·rintro σ ys H3 ⟨v,rfl,sm,hD3,hc⟩
  rw [List.length_map,hla,List.take_of_length_le (Nat.le_refl _)] at hc
  exact k H3 ys sm hD3 hc
def spLGood (K : PySem.W.Frag) : Sp := fun vs H Q _ => ∃ L rs tb,vs = [.ref L] ∧ SqL K H L (rs.map V.ref) ∧ Rws H rs tb ∧ tb.length ≤ 1000 ∧ ∀ H',Same H H' → Q (.bl (isTab tb)) H'
theorem scLGood : FnScope ["table"] ["table"] (defScope sLGood) := ⟨rfl,rfl,rfl,by decide +kernel,rfl,by decide +kernel,by decide +kernel⟩
abbrev tNeW (K : PySem.W.Frag) : TT := tTest (tOp rNe (tCB (rLenS K) (tCons (tVar 0) tNil)) (tCall (spLWide K) [] E0 (tCons (tVar 1) tNil)))
theorem ok_lgood {f fw : Addr} {fd fdw : FuncData} (F : Fun K "_law_good" "_law_good" sLGood f fd) (B : Bt mg) (Fw : Fun K "_law_wide" "_law_wide" sLWide fw fdw) (bw : Binds K fdw ["table"] []) (mw : mg "_law_wide" = some (.ref fw)) : FnOk P w K mg base CX0 2 f fd ["table"] (spLGood K) := by
 have Gw : FnOk P w K mg base CX0 1 fw fdw ["table"] (spLWide K) := ok_lwide Fw B
 refine F.ok scLGood (fun vs H Q E h => ?_) (fun cdv A outer s H vs Q E hr h => ?_)
 ·obtain ⟨L,rs,tb,rfl,_⟩ := h; rfl
 ·obtain ⟨L,rs,tb,rfl,hl,ht,hz,k⟩ := h
  refine ⟨_,pss_cons (ps_if (PW.pt (pw_or (pt_cmpR op_gt (pe_callB call_len_seq rfl B.len b_len (pa_cons (pv 0) pa_nil)) pe_int (nomark _))
    (pw_or1 (pt_cmpR op_gt (pe_call Gw hr rfl mw Fw.kp bw .nil pass0 (pa_cons (pv 0) pa_nil)) pe_int (nomark _))))) (pss_one (ps_ret pe_bl)) pss_nil)
   (pss_one (ps_ret (pe_cmpR op_eq (pe_callB call_len_seq rfl B.len b_len (pa_cons (pe_compS ["table"] ["row","table"] [none,some 0] (pi_list (pv 0)) (fun cl C s₀ H₀ ex => pg_name (i := 0) (ndN ["row","table"]) rfl (Or.inl rfl))
    (fun cl C s₀ H₀ ex => ptl_one (pt_cmpR op_ne (pe_callB call_len_seq rfl B.len b_len (pa_cons (pv 0) pa_nil)) (pe_call Gw hr rfl mw Fw.kp bw .nil pass0 (pa_cons (pv 1) pa_nil)) (nomark _))) (fun cl C s₀ H₀ ex => pv 0) (tc := tNeW K) (te := tVar 0) (hfr := frOf (defScope sLGood) (by decide +kernel))) pa_nil)) pe_int (nomark _)))),?_⟩
  have hla := ht.len
  refine ⟨_,rfl,L,_,rfl,.inl hl,_,_,rfl,rfl,_,rfl,?_⟩
  rw [List.length_map,hla]
  by_cases c1 : 40 < tb.length
  ·rw [decide_eq_true (show (40 : Int) < (tb.length : Int) by omega)]
   refine iteT (iteT ?_)
   have : isTab tb = false := by unfold isTab; rw [decide_eq_false (by omega)]; rfl
   rw [this] at k
   exact k H (Same.refl H)
  rw [decide_eq_false (show ¬ (40 : Int) < (tb.length : Int) by omega)]
  refine iteF ⟨_,rfl,L,rs,tb,rfl,hl,ht,fun H1 sm1 => ⟨_,_,rfl,rfl,_,rfl,?_⟩⟩
  by_cases c2 : 40 < wid tb
  ·rw [decide_eq_true (show (40 : Int) < (wid tb : Int) by omega)]
   refine iteT ?_
   have : isTab tb = false := by unfold isTab; rw [decide_eq_false (show ¬ wid tb ≤ 40 by omega),Bool.and_false]; rfl
   rw [this] at k
   exact k H1 sm1
  rw [decide_eq_false (show ¬ (40 : Int) < (wid tb : Int) by omega)]
  refine iteF ⟨_,rfl,L,rfl,⟨_,sm1.seq hl⟩,fun D hD => ?_⟩
  refine comp_of (rsel_turn (p := fun r => !decide (r.length = wid tb)) (fun o os H' R sm ho _ hR => ?_) (sm1.seq hl) (ht.same sm1) hz hD fun H3 ys sm3 hD3 hy => ?_)
  ·refine ⟨_,rfl,o,_,rfl,.inl (SqL.of ho),_,rfl,L,rs,tb,rfl,(sm1.trans sm).seq hl,ht.same (sm1.trans sm),fun H4 sm4 => ⟨rfl,_,rfl,?_⟩⟩
   rw [List.length_map]
   have := hR H4 sm4
   rw [show decide (V.int (os.length : Int) = V.int (wid tb : Int)) = decide (os.length = wid tb) from by rw [Bool.eq_iff_iff]; simp; omega]
   exact this
  ·refine ⟨D,_,rfl,.inl (SqL.of hD3),rfl,?_⟩
   have e : isTab tb = decide (V.int (ys.length : Int) = V.int 0) := by
    unfold isTab
    rw [decide_eq_true (show tb.length ≤ 40 by omega),decide_eq_true (show wid tb ≤ 40 by omega),hy,Bool.true_and,Bool.true_and,Bool.eq_iff_iff]
    simp [List.filter_eq_nil_iff]
   have kk := k H3 (sm1.trans sm3)
   rw [e] at kk
   exact kk
end
end K20
end
section
namespace K20
open PySem L2
theorem all_yes {α : Type} (l : List α) : (l.map fun _ => true).all id = true := by rw [List.all_map,List.all_eq_true]; exact fun _ _ => rfl
section
variable {P : Program} {w : World} {K : PySem.W.Frag} {mg : Str → Option Value} {base : Heap}
def spLWhole : Sp := fun vs H Q _ => ∃ n : Int,vs = [.int n] ∧ Q (.bl true) H
theorem scLWhole : FnScope ["found"] ["found"] (defScope sLWhole) := ⟨rfl,rfl,rfl,by decide +kernel,rfl,by decide +kernel,by decide +kernel⟩
theorem ok_lwhole {f : Addr} {fd : FuncData} (F : Fun K "_law_whole" "_law_whole" sLWhole f fd) (B : Bt mg) : FnOk P w K mg base CX0 1 f fd ["found"] spLWhole := by
 refine F.ok scLWhole (fun vs H Q E h => ?_) (fun cdv A outer s H vs Q E hr h => ?_)
 ·obtain ⟨n,rfl,_⟩ := h; rfl
 ·obtain ⟨n,rfl,k⟩ := h
  refine ⟨_,pss_one (ps_ret (pe_and (pe_callB call_isi_ii rfl B.isinstance b_isinstance (pa_cons (pv 0) (pa_cons (pe_bltn (v := .ty "int") rfl B.int b_int rfl) pa_nil))) (pe_one (pe_not (pe_callB call_isi_ib rfl B.isinstance b_isinstance (pa_cons (pv 0) (pa_cons (pe_bltn (v := .ty "bool") rfl B.bool b_bool rfl) pa_nil))))))),?_⟩
  exact ⟨_,rfl,n,rfl,_,rfl,iteT ⟨_,rfl,n,rfl,_,rfl,k⟩⟩
theorem iwhole_turn {H2 : Hp} {l D : Addr} {ns : List Int} {Q : VK} {te : TE} (hte : ∀ (n : Int) (H : Hp) (R : VK),R (.bl true) H → te [some (.int n)] H R) (hl : H2 l = some (.lst (ns.map V.int))) (hz : ns.length ≤ 1000) (hD : H2 D = none)
  (k : ∀ H3,Same H2 H3 → H3 D = some (.lst ((ns.map fun _ => true).map V.bl)) → Q (.ref D) H3) : CompW (Itl K l) (gName 0) tYes te [none] H2 D Q := by
 refine comp_list (xs := ns.map V.int) (fun j σ ys H3 => ∃ v : Option V,σ = [v] ∧ Same H2 H3 ∧ H3 D = some (.lst ys) ∧ ys = ((ns.map fun _ => true).take j).map V.bl) ?_ ?_ ?_ ?_
 ·exact ⟨none,rfl,Same.new hD,upd_same,rfl⟩
 ·rintro j σ ys H3 ⟨v,rfl,sm,_⟩
  exact SqL.of (sm _ _ hl)
 ·rintro j σ ys H3 x hx hj hy ⟨v,rfl,sm,hD3,rfl⟩
  obtain ⟨q,eq,rfl⟩ := of_nth hx
  have e : (ns.map fun _ => true)[j]? = some true := by rw [List.getElem?_map,eq]; rfl
  refine gyes ?_
  exact hte q H3 _ (cput (by rw [List.length_map]; exact line_big (by omega)) hj hy hD3 ⟨_,rfl,sm.then hD,upd_same,by rw [take_snoc e,List.map_append]; rfl⟩)
 ·rintro σ ys H3 ⟨v,rfl,sm,hD3,rfl⟩
  rw [List.take_of_length_le (by simp)] at hD3
  exact k H3 sm hD3
def spRowLike : Sp := fun vs H Q _ => ∃ l ns,vs = [.ref l] ∧ H l = some (.lst (List.map V.int ns)) ∧ ns.length ≤ 1000 ∧ ∀ H',Same H H' → Q (.bl true) H'
theorem scRowLike : FnScope ["found"] ["found"] (defScope sRowLike) := ⟨rfl,rfl,rfl,by decide +kernel,rfl,by decide +kernel,by decide +kernel⟩
theorem ok_rowLike {f fw : Addr} {fd fdw : FuncData} (F : Fun K "_law_row_like" "_law_row_like" sRowLike f fd) (B : Bt mg) (Fw : Fun K "_law_whole" "_law_whole" sLWhole fw fdw) (bw : Binds K fdw ["found"] []) (mw : mg "_law_whole" = some (.ref fw)) : FnOk P w K mg base CX0 2 f fd ["found"] spRowLike := by
 have Gw : FnOk P w K mg base CX0 1 fw fdw ["found"] spLWhole := ok_lwhole Fw B
 refine F.ok scRowLike (fun vs H Q E h => ?_) (fun cdv A outer s H vs Q E hr h => ?_)
 ·obtain ⟨l,ns,rfl,_⟩ := h; rfl
 ·obtain ⟨l,ns,rfl,hl,hz,k⟩ := h
  refine ⟨_,pss_one (ps_ret (pe_and (pe_callB call_isi_ll rfl B.isinstance b_isinstance (pa_cons (pv 0) (pa_cons (pe_bltn (v := .ty "list") rfl B.list b_list rfl) pa_nil))) (pe_one (pe_callB (call_all rfl) rfl B.all b_all (pa_cons
   (pe_compS ["found"] ["number"] [none] (pi_list (pv 0)) (fun cl C s₀ H₀ ex => pg_name (i := 0) (ndN ["number"]) rfl (Or.inl rfl)) (fun cl C s₀ H₀ ex => ptl_nil) (fun cl C s₀ H₀ ex => pe_call Gw hr rfl mw Fw.kp bw .nil pass0 (pa_cons (pv 0) pa_nil)) (te := tCall spLWhole [] E0 (tCons (tVar 0) tNil)) (hfr := nofr (by decide +kernel))) pa_nil))))),?_⟩
  refine ⟨_,rfl,l,_,rfl,hl,_,rfl,iteT ⟨_,rfl,l,rfl,⟨_,SqL.of hl⟩,fun D hD => ?_⟩⟩
  refine comp_of (iwhole_turn (fun n H R h => ⟨_,rfl,n,rfl,h⟩) hl hz hD fun H3 sm3 hD3 => ⟨D,_,rfl,SqL.of hD3,?_⟩)
  rw [all_yes]
  exact k H3 sm3
def spTabLike : Sp := fun vs H Q _ => ∃ L rs tb,vs = [.ref L] ∧ H L = some (.lst (rs.map V.ref)) ∧ Rws H rs tb ∧ tb.length ≤ 1000 ∧ (∀ r ∈ tb,r.length ≤ 1000) ∧ ∀ H',Same H H' → Q (.bl true) H'
theorem scTabLike : FnScope ["found"] ["found"] (defScope sTabLike) := ⟨rfl,rfl,rfl,by decide +kernel,rfl,by decide +kernel,by decide +kernel⟩
theorem ok_tabLike {f fr fw : Addr} {fd fdr fdw : FuncData} (F : Fun K "_law_table_like" "_law_table_like" sTabLike f fd) (B : Bt mg) (Fr : Fun K "_law_row_like" "_law_row_like" sRowLike fr fdr) (br : Binds K fdr ["found"] []) (mr : mg "_law_row_like" = some (.ref fr))
  (Fw : Fun K "_law_whole" "_law_whole" sLWhole fw fdw) (bw : Binds K fdw ["found"] []) (mw : mg "_law_whole" = some (.ref fw)) : FnOk P w K mg base CX0 3 f fd ["found"] spTabLike := by
 have Gr : FnOk P w K mg base CX0 2 fr fdr ["found"] spRowLike := ok_rowLike Fr B Fw bw mw
 refine F.ok scTabLike (fun vs H Q E h => ?_) (fun cdv A outer s H vs Q E hr h => ?_)
 ·obtain ⟨L,rs,tb,rfl,_⟩ := h; rfl
 ·obtain ⟨L,rs,tb,rfl,hl,ht,hz,hz',k⟩ := h
  refine ⟨_,pss_one (ps_ret (pe_and (pe_callB call_isi_ll rfl B.isinstance b_isinstance (pa_cons (pv 0) (pa_cons (pe_bltn (v := .ty "list") rfl B.list b_list rfl) pa_nil))) (pe_one (pe_callB (call_all rfl) rfl B.all b_all (pa_cons
   (pe_compS ["found"] ["row"] [none] (pi_list (pv 0)) (fun cl C s₀ H₀ ex => pg_name (i := 0) (ndN ["row"]) rfl (Or.inl rfl)) (fun cl C s₀ H₀ ex => ptl_nil) (fun cl C s₀ H₀ ex => pe_call Gr hr rfl mr Fr.kp br .nil pass0 (pa_cons (pv 0) pa_nil)) (te := tCall spRowLike [] E0 (tCons (tVar 0) tNil)) (hfr := nofr (by decide +kernel))) pa_nil))))),?_⟩
  refine ⟨_,rfl,L,_,rfl,hl,_,rfl,iteT ⟨_,rfl,L,rfl,⟨_,SqL.of hl⟩,fun D hD => ?_⟩⟩
  refine comp_of (rval_turn (mkV := V.bl) (g := fun _ => true) (fun o os H' R sm ho hm hR => ⟨_,rfl,o,os,rfl,ho,hz' os hm,fun H4 sm4 => hR H4 sm4⟩) (SqL.of hl) ht hz hD fun H3 sm3 hD3 => ⟨D,_,rfl,SqL.of hD3,?_⟩)
  rw [all_yes]
  exact k H3 sm3
end
end K20
end
section
namespace K20
open PySem L2
abbrev sOver : Stmt := top 30
abbrev sLProd : Stmt := top 29
section
variable {P : Program} {w : World} {K : PySem.W.Frag} {mg : Str → Option Value} {base : Heap}
abbrev tColI (K : PySem.W.Frag) : TE := tLC (iList K (tVar 1)) [none,some 0] (gName 0) tYes (tOp (rIxL K) (tVar 0) (tVar 1))
def spOver (K : PySem.W.Frag) : Sp := fun vs H Q _ => ∃ L rs tb,vs = [.ref L] ∧ SqL K H L (rs.map V.ref) ∧ Rws H rs tb ∧ isTab tb = true ∧ ∀ H1,Same H H1 → NewTab H1 Q (turn tb)
theorem scOver : FnScope ["table"] ["table"] (defScope sOver) := ⟨rfl,rfl,rfl,by decide +kernel,rfl,by decide +kernel,by decide +kernel⟩
theorem ok_over {f fw : Addr} {fd fdw : FuncData} (F : Fun K "_law_over" "_law_over" sOver f fd) (B : Bt mg) (Fw : Fun K "_law_wide" "_law_wide" sLWide fw fdw) (bw : Binds K fdw ["table"] []) (mw : mg "_law_wide" = some (.ref fw)) : FnOk P w K mg base CX0 2 f fd ["table"] (spOver K) := by
 have Gw : FnOk P w K mg base CX0 1 fw fdw ["table"] (spLWide K) := ok_lwide Fw B
 refine F.ok scOver (fun vs H Q E h => ?_) (fun cdv A outer s H vs Q E hr h => ?_)
 ·obtain ⟨L,rs,tb,rfl,_⟩ := h; rfl
 ·obtain ⟨L,rs,tb,rfl,hl,ht,hT,k⟩ := h
  obtain ⟨t1,t2,t3⟩ := tab_rows hT
  refine ⟨_,pss_one (ps_ret (pe_compSO ["table"] ["place","table"] [none,some 0] (pi_range1 rfl B.range (pa_cons (pe_call Gw hr rfl mw Fw.kp bw .nil pass0 (pa_cons (pv 0) pa_nil)) pa_nil)) (fun cl C s₀ H₀ ex => pg_name (i := 0) (ndN ["place","table"]) rfl (Or.inr rfl)) (fun cl C s₀ H₀ ex => ptl_nil)
   (fun cl C s₀ H₀ ex => pe_compS ["place","table"] ["row","place"] [none,some 0] (pi_list (pv 1)) (fun cl C s₀ H₀ ex => pg_name (i := 0) (ndN ["row","place"]) rfl (Or.inl rfl)) (fun cl C s₀ H₀ ex => ptl_nil)
    (fun cl C s₀ H₀ ex => pe_ix ix_list (pv 0) (pv 1) (fun _ _ => rfl)) (hfr := frRel rfl (by decide +kernel)) (te := tOp (rIxL K) (tVar 0) (tVar 1)))
   (hfr := frOf (defScope sOver) (by decide +kernel)) (te := tColI K))),?_⟩
  refine ⟨_,rfl,L,rs,tb,rfl,hl,ht,fun H1 sm1 => ⟨_,rfl,by omega,by omega,fun D hD => ?_⟩⟩
  refine comp_of (knew_turn (n := wid tb) (g := colAt tb) (fun j H' R hj sm hR => ?_) (by omega) hD fun H3 ds sm3 hD3 hr3 hnd hn => k H1 sm1 D H3 ds sm3 hD hD3 hr3 hnd hn)
  have s2 := sm1.trans sm
  refine ⟨_,rfl,L,rfl,⟨_,s2.seq hl⟩,fun D' hD' => ?_⟩
  refine comp_of (rval_turn (mkV := V.int) (g := fun r => r.getD j 0) (fun o os H4 R4 sm4 ho hm hR4 => ?_) (s2.seq hl) (ht.same s2) (by omega) hD' fun H4 sm4 hD4 => hR D' H4 sm4 hD' hD4)
  have hlt : j < os.length := by rw [t3 os hm]; exact hj
  refine ⟨_,rfl,_,rfl,o,_,_,_,rfl,rfl,SqL.of ho,atI_nat (j := j) (v := V.int (os.getD j 0)) ?_,hR4 H4 (Same.refl H4)⟩
  rw [List.getElem?_map,List.getElem?_eq_getElem hlt,List.getD_eq_getElem?_getD,List.getElem?_eq_getElem hlt]
  rfl
end
end K20
end
section
namespace K20
open PySem L2
theorem line_lt {n : Nat} (h : n ≤ 100000) : n < sizeLine := by rw [sizeLine_eq]; omega
def dotK (r : List Int) (ub : List (List Int)) (j : Nat) : List Int := (List.range r.length).map fun k => r.getD k 0 * (ub.getD k []).getD j 0
theorem dotK_sum {r : List Int} {ub : List (List Int)} {j : Nat} (h : r.length = ub.length) : (dotK r ub j).sum = dot r (colAt ub j) := by
 unfold dot
 congr 1
 unfold dotK colAt
 refine List.ext_getElem (by simp [h]) fun i h1 h2 => ?_
 have hi : i < r.length := by simpa using h1
 have hi' : i < ub.length := by omega
 simp [List.getD_eq_getElem?_getD,List.getElem?_eq_getElem hi,List.getElem?_eq_getElem hi']
abbrev tKK (K : PySem.W.Frag) : TE := tOp (rI CMul fun i j => .int (i * j)) (tOp (rIxL K) (tVar 1) (tVar 0)) (tOp (rIxL K) (tOp (rIxL K) (tVar 2) (tVar 0)) (tVar 3))
section
variable {P : Program} {w : World} {K : PySem.W.Frag} {mg : Str → Option Value} {base : Heap}
theorem ksum_turn {H2 : Hp} {R M D : Addr} {rn : List Int} {ms : List Addr} {ub : List (List Int)} {j : Nat} {Q : VK} (hR : H2 R = some (.lst (rn.map V.int))) (hM : H2 M = some (.lst (ms.map V.ref))) (hu : Rws H2 ms ub) (hl : rn.length = ub.length) (hj : ∀ u ∈ ub,j < u.length) (hs : Sml rn) (hz : rn.length ≤ 1000) (hD : H2 D = none)
  (k : ∀ H3,Same H2 H3 → H3 D = some (.lst ((dotK rn ub j).map V.int)) → Q (.ref D) H3) : CompW (Itr 0 rn.length) (gName 0) tYes (tKK K) [none,some (.ref R),some (.ref M),some (.int j)] H2 D Q := by
 have hml := hu.len
 refine comp_range (fun i σ ys H3 => ∃ (v : Option V),σ = [v,some (.ref R),some (.ref M),some (.int j)] ∧ Same H2 H3 ∧ H3 D = some (.lst ys) ∧ ys = ((dotK rn ub j).take i).map V.int) ?_ ?_ ?_
 ·exact ⟨none,rfl,Same.new hD,upd_same,rfl⟩
 ·rintro i σ ys H3 hi hy ⟨v,rfl,sm,hD3,rfl⟩
  have hi2 : i < ms.length := by omega
  have hi3 : i < ub.length := by omega
  obtain ⟨u,eu,hrow⟩ := hu.get (List.getElem?_eq_getElem hi2)
  have hju := hj u (List.mem_of_getElem? eu)
  have e : (dotK rn ub j)[i]? = some (rn[i] * u[j]) := by
   unfold dotK
   rw [List.getElem?_map,List.getElem?_range hi]
   simp [List.getD_eq_getElem?_getD,List.getElem?_eq_getElem hi,eu,List.getElem?_eq_getElem hju]
  refine gyes ?_
  rw [show (0 : Int) + ((i : Nat) : Int) = ((i : Nat) : Int) by omega]
  refine ⟨_,rfl,_,rfl,R,_,_,_,rfl,rfl,SqL.of (sm _ _ hR),atI_nat (j := i) (v := V.int rn[i]) (by rw [List.getElem?_map,List.getElem?_eq_getElem hi]; rfl),?_⟩
  refine ⟨_,rfl,_,rfl,M,_,_,_,rfl,rfl,SqL.of (sm _ _ hM),atI_nat (j := i) (v := V.ref ms[i]) (by rw [List.getElem?_map,List.getElem?_eq_getElem hi2]; rfl),?_⟩
  refine ⟨_,rfl,ms[i],_,_,_,rfl,rfl,SqL.of (sm _ _ hrow),atI_nat (j := j) (v := V.int u[j]) (by rw [List.getElem?_map,List.getElem?_eq_getElem hju]; rfl),_,_,rfl,rfl,.inl (hs _ (List.getElem_mem hi)),?_⟩
  refine cput (line_big (by omega)) hi hy hD3 ⟨_,rfl,sm.then hD,upd_same,?_⟩
  rw [take_snoc e,List.map_append]
  rfl
 ·rintro σ ys H3 ⟨v,rfl,sm,hD3,rfl⟩
  rw [List.take_of_length_le (by unfold dotK; simp)] at hD3
  exact k H3 sm hD3
def spLProd (K : PySem.W.Frag) : Sp := fun vs H Q _ => ∃ L M rs ms tb ub,vs = [.ref L,.ref M] ∧ H L = some (.lst (rs.map V.ref)) ∧ H M = some (.lst (ms.map V.ref)) ∧ Rws H rs tb ∧ Rws H ms ub ∧ isTab tb = true ∧ isTab ub = true ∧ wid tb = ub.length ∧ (∀ r ∈ tb,Sml r) ∧
 ∀ F H' ds,Same H H' → H F = none → H' F = some (.lst (ds.map V.ref)) → Rws H' ds (mulT tb ub) → Q (.ref F) H'
theorem scLProd : FnScope ["one","other","found","row","line","place"] ["one","other"] (defScope sLProd) := ⟨rfl,rfl,rfl,by decide +kernel,rfl,by decide +kernel,by decide +kernel⟩
theorem ok_lprod {f fw : Addr} {fd fdw : FuncData} (F : Fun K "_law_product" "_law_product" sLProd f fd) (B : Bt mg) (Fw : Fun K "_law_wide" "_law_wide" sLWide fw fdw) (bw : Binds K fdw ["table"] []) (mw : mg "_law_wide" = some (.ref fw)) : FnOk P w K mg base CX0 2 f fd ["one","other"] (spLProd K) := by
 have Gw : FnOk P w K mg base CX0 1 fw fdw ["table"] (spLWide K) := ok_lwide Fw B
 refine F.ok scLProd (fun vs H Q E h => ?_) (fun cdv A outer s H vs Q E hr h => ?_)
 ·obtain ⟨L,M,rs,ms,tb,ub,rfl,_⟩ := h; rfl
 ·obtain ⟨L,M,rs,ms,tb,ub,rfl,hL,hM,ht,hu,c1,c2,c3,zs,k⟩ := h
  obtain ⟨t1,t2,t3⟩ := tab_rows c1
  obtain ⟨u1,u2,u3⟩ := tab_rows c2
  refine ⟨_,pss_cons (ps_set (i := 2) scLProd.nd rfl (Or.inl rfl) (pe_lst pa_nil))
   (pss_cons (ps_for PassesOwn.never rfl (pi_list (pv 0)) (pg_name (i := 3) scLProd.nd rfl (Or.inr rfl))
    (pss_cons (ps_set (i := 4) scLProd.nd rfl (Or.inl rfl) (pe_lst pa_nil))
    (pss_cons (ps_for PassesOwn.never rfl (pi_range1 rfl B.range (pa_cons (pe_call Gw hr rfl mw Fw.kp bw .nil pass0 (pa_cons (pv 1) pa_nil)) pa_nil)) (pg_name (i := 5) scLProd.nd rfl (Or.inr rfl))
     (pss_one (ps_expr (pe_bm PySem.F.plainAttrs_list PySem.F.slot_list_append PySem.F.type_list_append mt_append (pv 4) (pa_cons (pe_callB (call_sum rfl) rfl B.sum b_sum (pa_cons
      (pe_compS ["one","other","found","row","line","place"] ["k","row","other","place"] [none,some 3,some 1,some 5] (pi_range1 rfl B.range (pa_cons (pe_callB call_len_seq rfl B.len b_len (pa_cons (pv 3) pa_nil)) pa_nil)) (fun cl C s₀ H₀ ex => pg_name (i := 0) (ndN ["k","row","other","place"]) rfl (Or.inl rfl)) (fun cl C s₀ H₀ ex => ptl_nil)
       (fun cl C s₀ H₀ ex => pe_op op_mul (pe_ix ix_list (pv 1) (pv 0) (fun _ _ => rfl)) (pe_ix ix_list (pe_ix ix_list (pv 2) (pv 0) (fun _ _ => rfl)) (pv 3) (fun _ _ => rfl))) (te := tKK K) (hfr := frOf (defScope sLProd) (by decide +kernel))) pa_nil)) pa_nil)))))
    (pss_one (ps_expr (pe_bm PySem.F.plainAttrs_list PySem.F.slot_list_append PySem.F.type_list_append mt_append (pv 2) (pa_cons (pv 4) pa_nil)))))))
   (pss_one (ps_ret (pv 2)))),?_⟩
  refine ⟨by decide,fun FD hFD => ?_⟩
  have hLF : L ≠ FD := ne_of_none hL hFD
  refine ⟨_,rfl,L,rfl,⟨_,SqL.of (by rw [upd_ne hLF]; exact hL)⟩,for_list (K := K) (a := L) (xs := rs.map V.ref) (fun i σ H2 => ∃ (v3 v4 v5 : Option V) (ds : List Addr),σ = [some (.ref L),some (.ref M),some (.ref FD),v3,v4,v5] ∧ Same H H2 ∧ H2 FD = some (.lst (ds.map V.ref)) ∧ Rws H2 ds ((tb.take i).map fun r => (turn ub).map (dot r)) ∧ ∀ d ∈ ds,d ≠ FD)
   ⟨none,none,none,[],rfl,Same.new hFD,upd_same,.nil,fun d hd => by cases hd⟩ (fun i σ H2 _ ⟨_,_,_,_,_,sm,_⟩ => SqL.of (sm _ _ hL)) ?_ ?_⟩
  ·rintro i x σ H2 hx ⟨v3,v4,v5,ds,rfl,sm2,hF2,hr2,hn2⟩
   obtain ⟨a,ea,rfl⟩ := of_ref hx
   obtain ⟨rn,er,ha⟩ := ht.get ea
   have hmr := List.mem_of_getElem? er
   refine ⟨by decide,fun LN hLN => ?_⟩
   have hFL : FD ≠ LN := ne_of_none hF2 hLN
   have hLN0 : H LN = none := sm2.free hLN
   have s3 : Same H (upd H2 LN (.lst [])) := sm2.then hLN0
   refine ⟨_,rfl,M,ms,ub,rfl,s3.seq (SqL.of hM),hu.same s3,fun H3 sm3 => ⟨_,rfl,by omega,by omega,for_range (lo := 0) (n := wid ub) (fun j σ H4 => ∃ v5 : Option V,σ = [some (.ref L),some (.ref M),some (.ref FD),some (.ref a),some (.ref LN),v5] ∧ Same H H4 ∧ H4 FD = some (.lst (ds.map V.ref)) ∧ Rws H4 ds ((tb.take i).map fun r => (turn ub).map (dot r)) ∧ H4 LN = some (.lst ((((List.range (wid ub)).take j).map fun j => dot rn (colAt ub j)).map V.int)))
    ⟨_,rfl,s3.trans sm3,sm3 _ _ (by rw [upd_ne hFL]; exact hF2),(hr2.upd fun d hd z => hr2.there d hd (z ▸ hLN)).same sm3,sm3 _ _ upd_same⟩ ?_ ?_⟩⟩
   ·rintro j σ H4 hj ⟨v5,rfl,sm4,hF4,hr4,hLN4⟩
    rw [show (0 : Int) + ((j : Nat) : Int) = ((j : Nat) : Int) by omega]
    refine ⟨_,rfl,.inl ⟨rfl,_,SqL.of hLN4⟩,_,rfl,a,_,rfl,.inl (SqL.of (sm4 _ _ ha)),_,rfl,by omega,by rw [List.length_map,t3 rn hmr]; omega,fun D hD => ?_⟩
    rw [List.length_map]
    have hrl : rn.length = ub.length := by rw [t3 rn hmr,c3]
    refine comp_of (ksum_turn (sm4 _ _ ha) (sm4 _ _ hM) (hu.same sm4) hrl (fun u hu' => by rw [u3 u hu']; exact hj) (zs rn hmr) (by omega) hD fun H5 sm5 hD5 => ⟨D,_,rfl,SqL.of hD5,?_⟩)
    have hLN5 := sm5 _ _ hLN4
    have hFLN : ∀ d ∈ ds,d ≠ LN := fun d hd z => hr2.there d hd (z ▸ hLN)
    refine ⟨LN,_,_,rfl,rfl,hLN5,line_lt (by simp; omega),⟨_,rfl,(sm4.trans sm5).then hLN0,by rw [upd_ne hFL]; exact sm5 _ _ hF4,(hr4.same sm5).upd hFLN,?_⟩⟩
    have e : (List.range (wid ub))[j]? = some j := List.getElem?_range hj
    rw [upd_same,take_snoc e,dotK_sum hrl,List.map_append,List.map_append]
    rfl
   ·rintro σ H4 ⟨v5,rfl,sm4,hF4,hr4,hLN4⟩
    have hdl := hr4.len
    have hil : i < tb.length := (List.getElem?_eq_some_iff.mp er).1
    have hdl' : ds.length ≤ 40 := by rw [hdl,List.length_map,List.length_take]; omega
    have all : ∀ d ∈ ds ++ [LN],d ≠ FD := fun d hd => by
     rcases List.mem_append.mp hd with h | h
     ·exact hn2 d h
     ·obtain rfl : d = LN := by simpa using h
      exact hFL.symm
    rw [List.take_of_length_le (by simp)] at hLN4
    have hLN4' : H4 LN = some (.lst (((turn ub).map (dot rn)).map V.int)) := by
     rw [hLN4]
     unfold turn
     rw [List.map_map (f := colAt ub) (g := dot rn)]
     rfl
    refine ⟨_,rfl,.inl ⟨rfl,_,SqL.of hF4⟩,_,rfl,FD,_,_,rfl,rfl,hF4,line_lt (by rw [List.length_map]; omega),⟨_,_,_,ds ++ [LN],rfl,sm4.then hFD,by rw [upd_same,List.map_append]; rfl,?_,all⟩⟩
    rw [take_snoc er,List.map_append]
    exact (hr4.snoc hLN4').upd all
  ·rintro σ H2 ⟨v3,v4,v5,ds,rfl,sm2,hF2,hr2,hn2⟩
   rw [List.length_map,ht.len,List.take_of_length_le (Nat.le_refl _)] at hr2
   exact ⟨_,rfl,k FD H2 ds sm2 hFD hF2 hr2⟩
end
end K20
end
section
namespace K20
open PySem L2
abbrev sTold : Stmt := top 39
theorem Rws.drop {H : Hp} {ds : List Addr} {tb : List (List Int)} (h : Rws H ds tb) : ∀ n : Nat,Rws H (ds.drop n) (tb.drop n) := by
 induction h with
 | nil => intro n; rw [List.drop_nil,List.drop_nil]; exact .nil
 | cons r t ih =>
  intro n
  cases n with
  | zero => exact .cons r t
  | succ n => exact ih n
theorem cutN (xs : List V) (n : Nat) : cutV xs (some (n : Int)) none = xs.drop n := by
 unfold cutV
 rw [HT.sIx_nat,HT.sIx_none]
 rcases Nat.le_total n xs.length with h | h
 ·rw [Nat.min_eq_left h,List.take_of_length_le (by simp)]
 ·rw [Nat.min_eq_right h,List.drop_eq_nil_of_le (Nat.le_refl _),List.drop_eq_nil_of_le h,List.take_nil]
section
variable {P : Program} {w : World} {K : PySem.W.Frag} {mg : Str → Option Value} {base : Heap}
def Due (way : Int) (tb ub T : List (List Int)) : Prop := (way = 0 ∧ isTab tb = true ∧ isTab ub = true ∧ wid tb = ub.length ∧ T = mulT tb ub) ∨ (way ≠ 0 ∧ isTab tb = true ∧ T = turn tb)
theorem asked_of {H : Hp} {Q : VK} {E : XK} {way : Int} {L M : Addr} {rs ms : List Addr} {tb ub T : List (List Int)} (hL : H L = some (.lst (rs.map V.ref))) (hM : H M = some (.lst (ms.map V.ref))) (ht : Rws H rs tb) (hu : Rws H ms ub) (z1 : tb.length ≤ 1000) (z2 : ub.length ≤ 1000) (zs : ∀ r ∈ tb,Sml r)
  (d : Due way tb ub T) (h : ∀ H1,Same H H1 → NewTab H1 Q T) : spAsked K [.int way,.ref L,.ref M] H Q E := by
 refine ⟨way,L,M,rs,ms,tb,ub,rfl,hL,hM,ht,hu,z1,z2,zs,fun w0 _ _ _ => ?_,fun w0 n => ?_,fun w0 _ => ?_,fun w0 n => ?_⟩
 ·rcases d with ⟨_,_,_,_,rfl⟩ | ⟨z,_⟩
  ·exact h
  ·exact absurd w0 z
 ·rcases d with ⟨_,a,b,c,_⟩ | ⟨z,_⟩
  ·exact absurd ⟨a,b,c⟩ n
  ·exact absurd w0 z
 ·rcases d with ⟨z,_⟩ | ⟨_,_,rfl⟩
  ·exact absurd z w0
  ·exact h
 ·rcases d with ⟨z,_⟩ | ⟨_,a,_⟩
  ·exact absurd z w0
  ·rw [a] at n; cases n
def spTold (K : PySem.W.Frag) : Sp := fun vs H Q _ => ∃ (way : Int) (L M U : Addr) (rs ms us : List Addr) (tb ub T : List (List Int)),vs = [.int way,.ref L,.ref M,.ref U] ∧ H L = some (.lst (rs.map V.ref)) ∧ H M = some (.lst (ms.map V.ref)) ∧ Rws H rs tb ∧ Rws H ms ub ∧ tb.length ≤ 1000 ∧ ub.length ≤ 1000 ∧ (∀ r ∈ tb,Sml r) ∧
 H U = some (.lst (us.map V.ref)) ∧ Rws H us T ∧ T.length ≤ 1000 ∧ (∀ r ∈ T,r.length ≤ 1000) ∧ Due way tb ub T ∧ ∀ H',Same H H' → Q (.bl true) H'
theorem scTold : FnScope ["way","one","other","due","turn","found","k"] ["way","one","other","due"] (defScope sTold) := ⟨rfl,rfl,rfl,by decide +kernel,rfl,by decide +kernel,by decide +kernel⟩
theorem ok_told {f fa fl : Addr} {fd fda fdl : FuncData} (F : Fun K "_law_told_again" "_law_told_again" sTold f fd) (B : Bt mg) (Fa : Fun K "_law_asked" "_law_asked" sAsked fa fda) (ba : Binds K fda ["way","one","other"] []) (ma : mg "_law_asked" = some (.ref fa)) (Ga : FnOk P w K mg base CX0 5 fa fda ["way","one","other"] (spAsked K))
  (Fl : Fun K "_law_table_like" "_law_table_like" sTabLike fl fdl) (bl : Binds K fdl ["found"] []) (ml : mg "_law_table_like" = some (.ref fl)) (Gl : FnOk P w K mg base CX0 3 fl fdl ["found"] spTabLike) : FnOk P w K mg base CX0 6 f fd ["way","one","other","due"] (spTold K) := by
 refine F.ok scTold (fun vs H Q E h => ?_) (fun cdv A outer s H vs Q E hr h => ?_)
 ·obtain ⟨way,L,M,U,rs,ms,us,tb,ub,T,rfl,_⟩ := h; rfl
 ·obtain ⟨way,L,M,U,rs,ms,us,tb,ub,T,rfl,hL,hM,ht,hu,z1,z2,zs,hU,hT,zT,zT',du,k⟩ := h
  have hu64 := hr.units
  have hr3 : Room 3 _ := hr.mono (by decide)
  refine ⟨_,pss_cons (ps_for PassesOwn.never rfl (pi_range1 rfl B.range (pa_cons pe_int pa_nil)) (pg_name (i := 4) scTold.nd rfl (Or.inl rfl))
    (pss_cons (ps_set (i := 5) scTold.nd rfl (Or.inl rfl) (pe_call Ga hr rfl ma Fa.kp ba .nil pass0 (pa_cons (pv 0) (pa_cons (pv 1) (pa_cons (pv 2) pa_nil)))))
    (pss_cons (ps_if (PW.pt (pw_or (pt_not (pt_val (pe_call Gl hr3 rfl ml Fl.kp bl .nil pass0 (pa_cons (pv 5) pa_nil)))) (pw_or1 (pt_cmpR (op_neD hu64) (pv 5) (pv 3) (nomark _))))) (pss_one (ps_ret pe_bl)) pss_nil)
    (pss_cons (ps_for PassesOwn.never rfl (pi_range1 rfl B.range (pa_cons (pe_callB call_len_seq rfl B.len b_len (pa_cons (pv 5) pa_nil)) pa_nil)) (pg_name (i := 6) scTold.nd rfl (Or.inl rfl))
     (pss_cons (ps_expr (pe_bm PySem.F.plainAttrs_list PySem.F.slot_list_append PySem.F.type_list_append mt_append (pe_ix ix_list (pv 5) (pv 6) (fun _ _ => rfl)) (pa_cons pe_int pa_nil)))
     (pss_one (ps_if (pt_cmpR (op_neD hu64) (pe_slice sl_list (pv 5) (po_some (pe_op op_add (pv 6) pe_int)) po_none) (pe_slice sl_list (pv 3) (po_some (pe_op op_add (pv 6) pe_int)) po_none) (nomark _)) (pss_one (ps_ret pe_bl)) pss_nil))))
    (pss_one (ps_expr (pe_bm PySem.F.plainAttrs_list PySem.F.slot_list_append PySem.F.type_list_append mt_append (pv 5) (pa_cons (pe_lst (pa_cons pe_int pa_nil)) pa_nil))))))))
   (pss_one (ps_ret pe_bl)),?_⟩
  refine ⟨_,rfl,by decide,by decide,for_range (lo := 0) (n := 2) (fun i σ H2 => ∃ (v4 v5 v6 : Option V),σ = [some (.int way),some (.ref L),some (.ref M),some (.ref U),v4,v5,v6] ∧ Same H H2) ⟨none,none,none,rfl,Same.refl H⟩ ?_ ?_⟩
  ·rintro i σ H2 hi ⟨v4,v5,v6,rfl,sm2⟩
   refine ⟨_,rfl,_,rfl,_,rfl,asked_of (K := K) (E := E0) (sm2 _ _ hL) (sm2 _ _ hM) (ht.same sm2) (hu.same sm2) z1 z2 zs du fun H1 sm1 FD H3 ds sm3 hF hF3 hr3' hnd hn => ?_⟩
   have s3 : Same H H3 := (sm2.trans sm1).trans sm3
   have n0 : ∀ d ∈ ds,H d = none ∧ d ≠ FD := fun d hd => ⟨(sm2.trans sm1).free (hn d hd).1,(hn d hd).2⟩
   have F0 : H FD = none := (sm2.trans sm1).free hF
   have hdl := hr3'.len
   refine ⟨_,rfl,FD,ds,T,rfl,hF3,hr3',zT,zT',fun H4 sm4 => ⟨_,rfl,iteF ⟨_,rfl,_,rfl,tbD T,tbD T,dv_tab (SqL.of (sm4 _ _ hF3)) (hr3'.same sm4),dv_tab (SqL.of ((s3.trans sm4) _ _ hU)) (hT.same (s3.trans sm4)),shaped_tb _,shaped_tb _,mix_tb _ _,_,rfl,?_⟩⟩⟩
   rw [if_pos rfl,same_tbD,decide_eq_true rfl]
   have s4 := s3.trans sm4
   refine iteF ⟨_,rfl,FD,_,rfl,.inl (SqL.of (sm4 _ _ hF3)),_,rfl,by omega,by rw [List.length_map]; omega,?_⟩
   rw [List.length_map]
   refine for_range (lo := 0) (n := ds.length) (fun j σ H5 => ∃ v6 : Option V,σ = [some (.int way),some (.ref L),some (.ref M),some (.ref U),some (.int (0 + (i : Int))),some (.ref FD),v6] ∧ Same H H5 ∧ H5 FD = some (.lst (ds.map V.ref)) ∧ Rws H5 (ds.drop j) (T.drop j))
    ⟨_,rfl,s4,sm4 _ _ hF3,hr3'.same sm4⟩ ?_ ?_
   ·rintro j σ H5 hj ⟨v6,rfl,s5,hF5,hr5⟩
    rw [show (0 : Int) + ((j : Nat) : Int) = ((j : Nat) : Int) by omega]
    have ej : (ds.drop j)[0]? = some ds[j] := by rw [List.getElem?_drop]; simp [hj]
    obtain ⟨ns,en,hrow⟩ := hr5.get ej
    have en' : T[j]? = some ns := by rw [List.getElem?_drop] at en; simpa using en
    have hnl := zT' ns (List.mem_of_getElem? en')
    refine ⟨_,rfl,_,rfl,FD,_,_,_,rfl,rfl,SqL.of hF5,atI_nat (j := j) (v := V.ref ds[j]) (by rw [List.getElem?_map,List.getElem?_eq_getElem hj]; rfl),.inl ⟨rfl,_,SqL.of hrow⟩,ds[j],_,_,rfl,rfl,hrow,line_lt (by rw [List.length_map]; omega),?_⟩
    have hmem : ds[j] ∈ ds := List.getElem_mem hj
    have hFd : FD ≠ ds[j] := (n0 _ hmem).2.symm
    have hcons : ds.drop j = ds[j] :: ds.drop (j + 1) := List.drop_eq_getElem_cons hj
    have hnd' : ds[j] ∉ ds.drop (j + 1) := by
     have := (List.drop_sublist j ds).nodup hnd
     rw [hcons] at this
     exact (List.nodup_cons.mp this).1
    have s6 : Same H (upd H5 ds[j] (.lst (ns.map V.int ++ [.int 7]))) := s5.then (n0 _ hmem).1
    have hr6 : Rws (upd H5 ds[j] (.lst (ns.map V.int ++ [.int 7]))) (ds.drop (j + 1)) (T.drop (j + 1)) := by
     have := hr5.drop 1
     rw [List.drop_drop,List.drop_drop] at this
     exact this.upd fun d hd z => hnd' (z ▸ hd)
    have ec : ((j : Int) + 1) = ((j + 1 : Nat) : Int) := by omega
    refine ⟨_,rfl,_,rfl,_,_,rfl,rfl,_,rfl,FD,_,rfl,SqL.of (by rw [upd_ne hFd]; exact hF5),fun p1 hp1 => ?_⟩
    refine ⟨_,rfl,_,rfl,_,_,rfl,rfl,_,rfl,U,_,rfl,SqL.of (by rw [upd_ne (ne_of_none (s6 _ _ hU) hp1)]; exact s6 _ _ hU),fun p2 hp2 => ?_⟩
    have e1 : cutV (ds.map V.ref) (some ((j : Int) + 1)) none = (ds.drop (j + 1)).map V.ref := by rw [ec,cutN,List.map_drop]
    have e2 : cutV (us.map V.ref) (some ((j : Int) + 1)) none = (us.drop (j + 1)).map V.ref := by rw [ec,cutN,List.map_drop]
    rw [e1] at hp2 ⊢
    rw [e2]
    have sm8 := (Same.new (o := .lst ((ds.drop (j + 1)).map V.ref)) hp1).trans (Same.new (o := .lst ((us.drop (j + 1)).map V.ref)) hp2)
    refine ⟨tbD (T.drop (j + 1)),tbD (T.drop (j + 1)),dv_tab (rs := ds.drop (j + 1)) (SqL.of (by rw [upd_ne (ne_of_none upd_same hp2)]; exact upd_same)) (hr6.same sm8),dv_tab (rs := us.drop (j + 1)) (SqL.of upd_same) (((hT.same s6).drop (j + 1)).same sm8),shaped_tb _,shaped_tb _,mix_tb _ _,_,rfl,?_⟩
    rw [if_pos rfl,same_tbD,decide_eq_true rfl]
    exact iteF ⟨_,rfl,s6.trans sm8,sm8 _ _ (by rw [upd_ne hFd]; exact hF5),hr6.same sm8⟩
   ·rintro σ H5 ⟨v6,rfl,s5,hF5,hr5⟩
    refine ⟨_,rfl,.inl ⟨rfl,_,SqL.of hF5⟩,by decide,fun q hq => ⟨FD,_,_,rfl,rfl,by rw [upd_ne (ne_of_none hF5 hq)]; exact hF5,line_lt (by rw [List.length_map]; omega),⟨_,_,_,rfl,(s5.then (s5.free hq)).then F0⟩⟩⟩
  ·rintro σ H2 ⟨v4,v5,v6,rfl,sm2⟩
   exact k H2 sm2
end
end K20
end
section
namespace K20
open PySem L2
abbrev sHurt : Stmt := top 36
theorem b_max : bootBuiltins "max" = some (.builtin "max") := by decide +kernel
def Hrt (nd : Bool) (H0 : Hp) (p F : Addr) (n m : Nat) (H' : Hp) : Prop := ∃ ds ub,SameB p H0 H' ∧ BoxAt H' p ∧ H' F = some (.lst (ds.map V.ref)) ∧ Rws H' ds ub ∧ ub.length = n ∧ (∀ r ∈ ub,r.length ≤ m ∧ Bnd 1000 r) ∧ (∀ d ∈ ds,H0 d = none ∧ d ≠ F) ∧ (nd = true → ds.Nodup) ∧ H0 F = none
theorem Hrt.draw {nd : Bool} {H0 H' H'' : Hp} {p F : Addr} {n m : Nat} (hb : BoxAt H0 p) (h : Hrt nd H0 p F n m H') (s : SameB p H' H'') (b : BoxAt H'' p) : Hrt nd H0 p F n m H'' := by
 obtain ⟨ds,ub,sb,_,hF,hr,hl,hp,hn,hd,h0⟩ := h
 exact ⟨ds,ub,sb.trans s,b,s _ _ (box_ne hb h0) hF,hr.sameB s fun d hd => box_ne hb (hn d hd).1,hl,hp,hn,hd,h0⟩
theorem Hrt.same {nd : Bool} {H0 H' H'' : Hp} {p F : Addr} {n m : Nat} (hb : BoxAt H0 p) (h : Hrt nd H0 p F n m H') (s : Same H' H'') : Hrt nd H0 p F n m H'' := h.draw hb (.of s) (by obtain ⟨_,_,_,b,_⟩ := h; exact b.same s)
theorem Hrt.box {nd : Bool} {H0 H' : Hp} {p F : Addr} {n m : Nat} (h : Hrt nd H0 p F n m H') : BoxAt H' p := by obtain ⟨_,_,_,b,_⟩ := h; exact b
theorem Hrt.mono {nd : Bool} {H0 H' : Hp} {p F : Addr} {n m m' : Nat} (h : Hrt nd H0 p F n m H') (hm : m ≤ m') : Hrt nd H0 p F n m' H' := by
 obtain ⟨ds,ub,sb,b,hF,hr,hl,hp,hn,hd,h0⟩ := h
 exact ⟨ds,ub,sb,b,hF,hr,hl,fun r hr' => ⟨Nat.le_trans (hp r hr').1 hm,(hp r hr').2⟩,hn,hd,h0⟩
theorem Hrt.loose {nd : Bool} {H0 H' : Hp} {p F : Addr} {n m : Nat} (h : Hrt nd H0 p F n m H') : Hrt false H0 p F n m H' := by
 obtain ⟨ds,ub,sb,b,hF,hr,hl,hp,hn,hd,h0⟩ := h
 exact ⟨ds,ub,sb,b,hF,hr,hl,hp,hn,(fun z => by cases z),h0⟩
theorem Rws.updAt {H : Hp} {ds : List Addr} {tb : List (List Int)} {d : Addr} {ns : List Int} (h : Rws H ds tb) : ∀ i : Nat,ds.Nodup → ds[i]? = some d → Rws (L2.upd H d (.lst (ns.map V.int))) ds (tb.set i ns) := by
 induction h with
 | nil => intro i _ e; simp at e
 | cons r t ih =>
  intro i nd e
  obtain ⟨n1,n2⟩ := List.nodup_cons.mp nd
  cases i with
  | zero =>
   simp at e
   subst e
   exact .cons upd_same (Rws.upd t fun x hx z => n1 (z ▸ hx))
  | succ i =>
   rw [List.getElem?_cons_succ] at e
   exact .cons (by rw [upd_ne (fun z => n1 (by rw [z]; exact List.mem_of_getElem? e))]; exact r) (ih i n2 e)
theorem Hrt.row {H0 H' : Hp} {p F d : Addr} {n m m' i : Nat} {ds : List Addr} {ub : List (List Int)} {ns : List Int} (hb : BoxAt H0 p) (sb : SameB p H0 H') (b : BoxAt H' p) (hF : H' F = some (.lst (ds.map V.ref))) (hr : Rws H' ds ub) (hl : ub.length = n) (hp : ∀ r ∈ ub,r.length ≤ m ∧ Bnd 1000 r) (hn : ∀ d ∈ ds,H0 d = none ∧ d ≠ F) (hd : ds.Nodup) (h0 : H0 F = none)
  (hi : ds[i]? = some d) (hlen : ns.length ≤ m') (bd : Bnd 1000 ns) (hm : m ≤ m') : Hrt true H0 p F n m' (L2.upd H' d (.lst (ns.map V.int))) := by
 obtain ⟨d0,dF⟩ := hn d (List.mem_of_getElem? hi)
 refine ⟨ds,ub.set i ns,sb.then d0,b.upd (box_ne hb d0),by rw [upd_ne dF.symm]; exact hF,hr.updAt i hd hi,by simp [hl],fun r hr' => ?_,hn,fun _ => hd,h0⟩
 rcases List.mem_or_eq_of_mem_set hr' with h | h
 ·exact ⟨Nat.le_trans (hp r h).1 hm,(hp r h).2⟩
 ·rw [h]; exact ⟨hlen,bd⟩
theorem Hrt.put {H0 H' H3 : Hp} {p F D : Addr} {n m i : Nat} {ns : List Int} {ds : List Addr} {ub : List (List Int)} (hb : BoxAt H0 p) (sb : SameB p H0 H') (b : BoxAt H' p) (hF : H' F = some (.lst (ds.map V.ref))) (hr : Rws H' ds ub) (hl : ub.length = n) (hp : ∀ r ∈ ub,r.length ≤ m ∧ Bnd 1000 r) (hn : ∀ d ∈ ds,H0 d = none ∧ d ≠ F) (h0 : H0 F = none)
  (hD : H' D = none) (sm : Same H' H3) (e : H3 D = some (.lst (ns.map V.int))) (hlen : ns.length ≤ m) (bd : Bnd 1000 ns) : Hrt false H0 p F n m (L2.upd H3 F (.lst ((ds.map V.ref).set i (.ref D)))) := by
 have hFp := box_ne hb h0
 have hDF : D ≠ F := fun z => by rw [z,hF] at hD; cases hD
 have hD0 : H0 D = none := sb.free hb b hD
 have mem : ∀ d ∈ ds.set i D,H0 d = none ∧ d ≠ F := fun d hd => by
  rcases List.mem_or_eq_of_mem_set hd with h | h
  ·exact hn d h
  ·rw [h]; exact ⟨hD0,hDF⟩
 refine ⟨ds.set i D,ub.set i ns,(sb.trans (.of sm)).then h0,(b.same sm).upd hFp,?_,((hr.same sm).set e i).upd fun d hd => (mem d hd).2,by simp [hl],fun r hr' => ?_,mem,(fun z => by cases z),h0⟩
 ·rw [upd_same,List.map_set]
 ·rcases List.mem_or_eq_of_mem_set hr' with h | h
  ·exact hp r h
  ·rw [h]; exact ⟨hlen,bd⟩
theorem Rws.app {H : Hp} {ds es : List Addr} {tb ub : List (List Int)} (h : Rws H ds tb) (g : Rws H es ub) : Rws H (ds ++ es) (tb ++ ub) := by
 induction h with
 | nil => exact g
 | cons r t ih => exact .cons r ih
theorem Rws.take {H : Hp} {ds : List Addr} {tb : List (List Int)} (h : Rws H ds tb) : ∀ n : Nat,Rws H (ds.take n) (tb.take n) := by
 induction h with
 | nil => intro n; rw [List.take_nil,List.take_nil]; exact .nil
 | cons r t ih =>
  intro n
  cases n with
  | zero => exact .nil
  | succ n => exact .cons r (ih n)
theorem Hrt.ins {H0 H' H3 : Hp} {p F D : Addr} {n m i : Nat} {ns : List Int} (hb : BoxAt H0 p) {ds : List Addr} {ub : List (List Int)} (sb : SameB p H0 H') (b : BoxAt H' p) (hF : H' F = some (.lst (ds.map V.ref))) (hr : Rws H' ds ub) (hl : ub.length = n) (hp : ∀ r ∈ ub,r.length ≤ m ∧ Bnd 1000 r) (hn : ∀ d ∈ ds,H0 d = none ∧ d ≠ F) (h0 : H0 F = none)
  (hD : H' D = none) (sm : Same H' H3) (e : H3 D = some (.lst (ns.map V.int))) (hlen : ns.length ≤ m) (bd : Bnd 1000 ns) (hi : i ≤ n) : Hrt false H0 p F (n + 1) m (L2.upd H3 F (.lst ((ds.map V.ref).take i ++ .ref D :: (ds.map V.ref).drop i))) := by
 have hFp := box_ne hb h0
 have hDF : D ≠ F := fun z => by rw [z,hF] at hD; cases hD
 have hD0 : H0 D = none := sb.free hb b hD
 have mem : ∀ d ∈ ds.take i ++ D :: ds.drop i,H0 d = none ∧ d ≠ F := fun d hd => by
  rcases List.mem_append.mp hd with h | h
  ·exact hn d (List.mem_of_mem_take h)
  ·rcases List.mem_cons.mp h with h | h
   ·rw [h]; exact ⟨hD0,hDF⟩
   ·exact hn d (List.mem_of_mem_drop h)
 refine ⟨ds.take i ++ D :: ds.drop i,ub.take i ++ ns :: ub.drop i,(sb.trans (.of sm)).then h0,(b.same sm).upd hFp,?_,(((hr.same sm).take i).app (.cons e ((hr.same sm).drop i))).upd fun d hd => (mem d hd).2,by simp; omega,fun r hr' => ?_,mem,(fun z => by cases z),h0⟩
 ·rw [upd_same,List.map_append,List.map_cons,List.map_take,List.map_drop]
 ·rcases List.mem_append.mp hr' with h | h
  ·exact hp r (List.mem_of_mem_take h)
  ·rcases List.mem_cons.mp h with h | h
   ·rw [h]; exact ⟨hlen,bd⟩
   ·exact hp r (List.mem_of_mem_drop h)
section
variable {P : Program} {w : World} {K : PySem.W.Frag} {mg : Str → Option Value} {base : Heap}
abbrev rListOf (K : PySem.W.Frag) : List V → Hp → VK → Prop := fun xs H Q => ∃ p ys,xs = [.ref p] ∧ (SqL K H p ys ∨ SqT K H p ys) ∧ ∀ l,H l = none → Q (.ref l) (upd H l (.lst ys))
abbrev tCopy (K : PySem.W.Frag) : TE := tCB (rListOf K) (tCons (tVar 0) tNil)
theorem copy_turn {H2 : Hp} {L D : Addr} {rs : List Addr} {tb : List (List Int)} {Q : VK} {c : List (Option V)} (hl : SqL K H2 L (rs.map V.ref)) (ht : Rws H2 rs tb) (hz : tb.length ≤ 1000) (hD : H2 D = none)
  (k : ∀ H3 ds,Same H2 H3 → H3 D = some (.lst (ds.map V.ref)) → Rws H3 ds tb → ds.Nodup → (∀ d ∈ ds,H2 d = none ∧ d ≠ D) → Q (.ref D) H3) : CompW (Itl K L) (gName 0) tYes (tCopy K) (none :: c) H2 D Q := by
 refine rnew_turn (g := fun r => r) (fun o os H R sm ho hm hR => ⟨_,rfl,o,_,rfl,.inl (SqL.of ho),fun l hl => hR l _ (Same.new hl) hl upd_same⟩) hl ht hz hD fun H3 ds sm hD3 hr hnd hn => ?_
 rw [List.map_id'] at hr
 exact k H3 ds sm hD3 hr hnd hn
theorem kint_turn {H2 : Hp} {D : Addr} {n : Nat} {Q : VK} {g : Nat → Int} {te : TE} {c : List (Option V)} (hte : ∀ (j : Nat) (H : Hp) (R : VK),R (.int (g j)) H → te (some (.int j) :: c) H R) (hz : n ≤ 1000) (hD : H2 D = none)
  (k : ∀ H3,Same H2 H3 → H3 D = some (.lst (((List.range n).map g).map V.int)) → Q (.ref D) H3) : CompW (Itr 0 n) (gName 0) tYes te (none :: c) H2 D Q := by
 refine comp_range (fun j σ ys H3 => ∃ (v : Option V),σ = v :: c ∧ Same H2 H3 ∧ H3 D = some (.lst ys) ∧ ys = (((List.range n).take j).map g).map V.int) ?_ ?_ ?_
 ·exact ⟨none,rfl,Same.new hD,upd_same,rfl⟩
 ·rintro j σ ys H3 hj hy ⟨v,rfl,sm,hD3,rfl⟩
  have e : (List.range n)[j]? = some j := List.getElem?_range hj
  refine gyes ?_
  rw [show (0 : Int) + ((j : Nat) : Int) = ((j : Nat) : Int) by omega]
  refine hte j H3 _ (cput (line_big (by omega)) hj hy hD3 ⟨_,rfl,sm.then hD,upd_same,?_⟩)
  rw [take_snoc e,List.map_append,List.map_append]
  rfl
 ·rintro σ ys H3 ⟨v,rfl,sm,hD3,rfl⟩
  rw [List.take_of_length_le (by simp)] at hD3
  exact k H3 sm hD3
def spHurt : Sp := fun vs H Q _ => ∃ p L rs tb,vs = [.ref p,.ref L] ∧ BoxAt H p ∧ H L = some (.lst (List.map V.ref rs)) ∧ Rws H rs tb ∧ tb.length ≤ 4 ∧ (∀ r ∈ tb,r.length ≤ 4 ∧ Bnd 1000 r) ∧ ∀ F H' n m,n ≤ 41 → m ≤ 41 → Hrt false H p F n m H' → Q (.ref F) H'
theorem scHurt : FnScope ["box","table","found","way","at","wide"] ["box","table"] (defScope sHurt) := ⟨rfl,rfl,rfl,by decide +kernel,rfl,by decide +kernel,by decide +kernel⟩
def HTl (X : Cx) (b : List Stmt) (H : Hp) (p L : Addr) (Q : VK) (nd : Bool) (N m : Nat) : Prop := ∃ tt,PSs X b tt ∧ ∀ (Fd : Addr) (n : Nat) (way a : Int) (H' : Hp),n ≤ N → 0 ≤ a → (a < n ∨ (n = 0 ∧ a = 0)) → Hrt nd H p Fd n m H' →
 tt { nx := fun _ H' => Q .non H',rt := Q } [some (.ref p),some (.ref L),some (.ref Fd),some (.int way),some (.int a),none] H'
theorem ok_hurt {f ft : Addr} {fd fdt : FuncData} (F : Fun K "_law_hurt" "_law_hurt" sHurt f fd) (B : Bt mg) (Ft : Fun K "_law_take" "_law_take" sTake ft fdt) (bt : Binds K fdt ["box","most"] []) (mt : mg "_law_take" = some (.ref ft)) : FnOk P w K mg base CX0 2 f fd ["box","table"] spHurt := by
 have Gt : FnOk P w K mg base CX0 1 ft fdt ["box","most"] spTake := ok_take Ft
 refine F.ok scHurt (fun vs H Q E h => ?_) (fun cdv A outer s H vs Q E hr h => ?_)
 ·obtain ⟨p,L,rs,tb,rfl,_⟩ := h; rfl
 ·obtain ⟨p,L,rs,tb,rfl,hb,hL,ht,z1,z2,k⟩ := h
  have hu64 := hr.units
  have T4 : HTl (cxOf CX0 P w K mg base ["box","table","found","way","at","wide"] "_law_hurt" (defScope sHurt) f cdv A outer s H E).nox (List.drop 7 (defBody sHurt)) H p L Q false 5 5 := by
   refine ⟨_,pss_cons (ps_if (pt_cmpR op_eq (pv 3) pe_int (nomark _)) (pss_one (ps_ret (pe_compS ["box","table","found","way","at","wide"] ["row"] [none] (pi_range1 rfl B.range (pa_cons (pe_op op_add pe_int (pe_call Gt hr rfl mt Ft.kp bt .nil pass0 (pa_cons (pv 0) (pa_cons pe_int pa_nil)))) pa_nil)) (fun cl C s₀ H₀ ex => pg_name (i := 0) (ndN ["row"]) rfl (Or.inl rfl)) (fun cl C s₀ H₀ ex => ptl_nil) (fun cl C s₀ H₀ ex => pe_lst (pa_cons pe_int (pa_cons pe_int pa_nil))) (hfr := nofr (by decide +kernel))))) pss_nil)
    (pss_cons (ps_if (pt_cmpR op_eq (pv 3) pe_int (nomark _)) (pss_cons (ps_set (i := 5) scHurt.nd rfl (Or.inl rfl) (pe_op op_add pe_int (pe_call Gt hr rfl mt Ft.kp bt .nil pass0 (pa_cons (pv 0) (pa_cons pe_int pa_nil)))))
     (pss_one (ps_ret (pe_lst (pa_cons (pe_compS ["box","table","found","way","at","wide"] ["place"] [none] (pi_range1 rfl B.range (pa_cons (pv 5) pa_nil)) (fun cl C s₀ H₀ ex => pg_name (i := 0) (ndN ["place"]) rfl (Or.inl rfl)) (fun cl C s₀ H₀ ex => ptl_nil) (fun cl C s₀ H₀ ex => pv 0) (hfr := nofr (by decide +kernel)))
      (pa_cons (pe_compS ["box","table","found","way","at","wide"] ["place"] [none] (pi_range1 rfl B.range (pa_cons (pv 5) pa_nil)) (fun cl C s₀ H₀ ex => pg_name (i := 0) (ndN ["place"]) rfl (Or.inl rfl)) (fun cl C s₀ H₀ ex => ptl_nil) (fun cl C s₀ H₀ ex => pe_int) (hfr := nofr (by decide +kernel))) pa_nil)))))) pss_nil)
    (pss_one (ps_ret (pv 2)))),?_⟩
   intro Fd n way a H' hn ha hc T
   have hb' := T.box
   refine ⟨_,rfl,rfl,_,rfl,?_⟩
   refine ite2 (fun _ => ?_) (fun _ => ?_)
   ·refine ⟨_,rfl,p,_,rfl,hb',by decide,by decide,fun u H1 u0 u1 sb1 hb1 => ⟨_,_,rfl,rfl,_,rfl,by omega,by omega,fun D hD => ?_⟩⟩
    obtain ⟨q,rfl⟩ : ∃ q : Nat,u = (q : Int) := ⟨u.toNat,by omega⟩
    rw [show (40 : Int) + (q : Int) = ((40 + q : Nat) : Int) by omega]
    obtain ⟨_,_,sb,_⟩ := T
    have S1 := sb.trans sb1
    refine comp_of (knew_turn (n := 40 + q) (g := fun _ => [1,0]) (fun j H4 R hj sm hR => ⟨by decide,fun d hd => hR d _ (Same.new hd) hd upd_same⟩) (by omega) hD fun H3 ds sm3 hD3 hr3 hnd hn3 => ?_)
    exact k D H3 (40 + q) 2 (by omega) (by omega) ⟨ds,_,S1.trans (.of sm3),hb1.same sm3,hD3,hr3,by simp,fun r hr' => by
     obtain ⟨_,_,rfl⟩ := List.mem_map.mp hr'
     exact ⟨by decide,fun n hn => by simp at hn; omega⟩,fun d hd => ⟨S1.free hb hb1 (hn3 d hd).1,(hn3 d hd).2⟩,(fun z => by cases z),S1.free hb hb1 hD⟩
   ·refine ⟨_,rfl,rfl,_,rfl,?_⟩
    refine ite2 (fun _ => ?_) (fun _ => ?_)
    ·refine ⟨_,rfl,p,_,rfl,hb',by decide,by decide,fun u H1 u0 u1 sb1 hb1 => ⟨_,_,rfl,rfl,_,rfl,_,rfl,by omega,by omega,fun D hD => ?_⟩⟩
     obtain ⟨q,rfl⟩ : ∃ q : Nat,u = (q : Int) := ⟨u.toNat,by omega⟩
     rw [show (40 : Int) + (q : Int) = ((40 + q : Nat) : Int) by omega]
     obtain ⟨_,_,sb,_⟩ := T
     have S1 := sb.trans sb1
     refine comp_of (kint_turn (n := 40 + q) (g := fun j => (j : Int)) (fun j H4 R hR => ⟨_,rfl,hR⟩) (by omega) hD fun H3 sm3 hD3 => ?_)
     refine ⟨_,rfl,_,rfl,by omega,by omega,fun D2 hD2 => ?_⟩
     refine comp_of (kint_turn (n := 40 + q) (g := fun _ => (1 : Int)) (fun j H4 R hR => hR) (by omega) hD2 fun H4 sm4 hD4 => ?_)
     refine ⟨line_big (by simp),fun D3 hD5 => ?_⟩
     have S4 := (S1.trans (.of sm3)).trans (.of sm4)
     have hb4 := (hb1.same sm3).same sm4
     refine k D3 _ 2 41 (by omega) (by omega) ⟨[D,D2],[(List.range (40 + q)).map (fun j : Nat => (j : Int)),(List.range (40 + q)).map (fun _ : Nat => (1 : Int))],S4.then (S4.free hb hb4 hD5),hb4.new hD5,upd_same,.cons ((Same.new hD5) _ _ (sm4 _ _ hD3)) (.cons ((Same.new hD5) _ _ hD4) .nil),rfl,fun r hr' => ?_,fun d hd => ?_,(fun z => by cases z),S4.free hb hb4 hD5⟩
     ·rcases List.mem_cons.mp hr' with rfl | hr'
      rotate_left
      rcases List.mem_cons.mp hr' with rfl | hr'
      rotate_left
      cases hr'
      rotate_left
      ·refine ⟨by rw [List.length_map,List.length_range]; omega,fun n hn => ?_⟩
       obtain ⟨j,hj,rfl⟩ := List.mem_map.mp hn
       have := List.mem_range.mp hj
       first | omega | exact ⟨by decide,by decide⟩
      ·refine ⟨by rw [List.length_map,List.length_range]; omega,fun n hn => ?_⟩
       obtain ⟨j,hj,rfl⟩ := List.mem_map.mp hn
       have := List.mem_range.mp hj
       first | omega | exact ⟨by decide,by decide⟩
     ·simp at hd
      rcases hd with rfl | rfl
      ·exact ⟨S1.free hb hb1 hD,fun z => by rw [z] at hD3; rw [sm4 _ _ hD3] at hD5; cases hD5⟩
      ·exact ⟨(S1.trans (.of sm3)).free hb (hb1.same sm3) hD2,fun z => by rw [z] at hD4; rw [hD4] at hD5; cases hD5⟩
    ·exact ⟨_,rfl,k Fd H' n 5 (by omega) (by omega) T⟩
  have T3 : HTl (cxOf CX0 P w K mg base ["box","table","found","way","at","wide"] "_law_hurt" (defScope sHurt) f cdv A outer s H E).nox (List.drop 6 (defBody sHurt)) H p L Q false 4 5 := by
   obtain ⟨tt,htt,kt⟩ := T4
   refine ⟨_,pss_cons (ps_if (pt_cmpR op_eq (pv 3) pe_int (nomark _)) (pss_one (ps_expr (pe_bm PySem.F.plainAttrs_list PySem.F.slot_list_insert PySem.F.type_list_insert mt_insert (pv 2) (pa_cons (pv 4) (pa_cons (pe_slice sl_list (pe_lst (pa_cons pe_int (pa_cons pe_int (pa_cons pe_int pa_nil)))) po_none (po_some (pe_call Gt hr rfl mt Ft.kp bt .nil pass0 (pa_cons (pv 0) (pa_cons pe_int pa_nil))))) pa_nil))))) pss_nil) htt,?_⟩
   intro Fd n way a H' hn ha hc T
   refine ⟨_,rfl,rfl,_,rfl,?_⟩
   refine ite2 (fun _ => ?_) (fun _ => ?_)
   ·have hF := T
    obtain ⟨ds,ub,sb,b,hF,hrw,hl,hp,hn',hd,h0⟩ := hF
    refine ⟨_,rfl,.inl ⟨rfl,_,SqL.of hF⟩,_,rfl,by decide,fun q1 hq1 => ?_⟩
    refine ⟨_,rfl,p,_,rfl,b.new hq1,by decide,by decide,fun u H1 u0 u1 sb1 hb1 => ?_⟩
    obtain ⟨ks,ek,kl,kb⟩ : ∃ ks : List Int,cutV [V.int 1,.int 2,.int 3] none (some u) = ks.map V.int ∧ ks.length ≤ 5 ∧ Bnd 1000 ks := by
     have : u = 0 ∨ u = 1 ∨ u = 2 ∨ u = 3 := by omega
     rcases this with rfl | rfl | rfl | rfl
     ·exact ⟨[],rfl,by decide,fun n hn => by simp at hn⟩
     ·exact ⟨[1],rfl,by decide,fun n hn => by simp at hn; omega⟩
     ·exact ⟨[1,2],rfl,by decide,fun n hn => by simp at hn; omega⟩
     ·exact ⟨[1,2,3],rfl,by decide,fun n hn => by simp at hn; omega⟩
    have T1 := (T.same hb (Same.new (o := .lst [.int 1,.int 2,.int 3]) hq1)).draw hb sb1 hb1
    refine ⟨_,rfl,q1,_,rfl,SqL.of (sb1 _ _ (box_ne b hq1) upd_same),fun q2 hq2 => ?_⟩
    rw [ek]
    obtain ⟨ds,ub,sb,b,hF,hrw,hl,hp,hn',hd,h0⟩ := T1
    have hdl := hrw.len
    have hlen : ((ds.map V.ref).length : Int) = (n : Int) := by rw [List.length_map,hdl,hl]
    refine ⟨Fd,_,_,_,rfl,rfl,(Same.new hq2) _ _ hF,ha,by omega,line_lt (by rw [List.length_map]; omega),?_⟩
    exact kt Fd (n + 1) way a _ (by omega) ha (by omega) (Hrt.ins (i := a.toNat) hb sb b hF hrw hl hp hn' h0 hq2 (Same.new hq2) upd_same kl kb (by omega))
   ·exact kt Fd n way a _ (by omega) ha hc T
  have NE : ∀ {nd : Bool} {Fd : Addr} {n m : Nat} {H' : Hp} {q : Addr} (Z : VK),Hrt nd H p Fd n m H' → H' q = none → (Hrt nd H p Fd n m (upd H' q (.lst [])) → Z (.bl (!decide (n = 0))) (upd H' q (.lst []))) → rEqD true K (.ref Fd) (.ref q) (upd H' q (.lst [])) Z := by
   intro nd Fd n m H' q Z T hq kk
   have T1 := T.same hb (Same.new (o := .lst []) hq)
   have T2 := T1
   obtain ⟨ds,ub,sb,b,hF,hrw,hl,hp,hn',hd,h0⟩ := T1
   refine ⟨tbD ub,tbD [],dv_tab (SqL.of hF) hrw,dv_tab (rs := []) (SqL.of upd_same) .nil,shaped_tb _,shaped_tb _,mix_tb _ _,?_⟩
   rw [if_pos rfl,same_tbD]
   have := kk T2
   rw [show decide (ub = []) = decide (n = 0) from by rw [Bool.eq_iff_iff]; simp; rw [← hl]; exact ⟨fun h => by rw [h]; rfl,fun h => List.eq_nil_of_length_eq_zero h⟩]
   exact this
  have T2 : HTl (cxOf CX0 P w K mg base ["box","table","found","way","at","wide"] "_law_hurt" (defScope sHurt) f cdv A outer s H E).nox (List.drop 5 (defBody sHurt)) H p L Q true 4 5 := by
   obtain ⟨tt,htt,kt⟩ := T3
   refine ⟨_,pss_cons (ps_if (PW.pt (pw_and (pt_cmpR op_eq (pv 3) pe_int (nomark _)) (pw_and1 (pt_cmpR (op_neD hu64) (pv 2) (pe_lst pa_nil) (nomark _))))) (pss_one (ps_asg (pe_lst pa_nil) (pg_sub (pv 2) (pv 4) set_list))) pss_nil) htt,?_⟩
   intro Fd n way a H' hn ha hc T
   refine ⟨_,rfl,rfl,_,rfl,?_⟩
   refine ite2 (fun _ => ?_) (fun _ => ?_)
   ·refine ⟨_,rfl,by decide,fun q hq => NE _ T hq fun T1 => ⟨_,rfl,?_⟩⟩
    refine ite2 (fun h1 => ?_) (fun h1 => ?_)
    ·refine ⟨by decide,fun q2 hq2 => ?_⟩
     obtain ⟨ds,ub,sb,b,hF,hrw,hl,hp,hn',hd,h0⟩ := T1
     have hdl := hrw.len
     have hn0 : n ≠ 0 := by simpa using h1
     refine ⟨_,rfl,_,rfl,Fd,_,_,a.toNat,rfl,rfl,(Same.new hq2) _ _ hF,ixN_in ha (by rw [List.length_map]; omega),?_⟩
     exact kt Fd n way a _ hn ha hc (Hrt.put (ns := []) hb sb b hF hrw hl hp hn' h0 hq2 (Same.new hq2) upd_same (by simp) (fun n hn => by simp at hn))
    ·exact kt Fd n way a _ hn ha hc T1.loose
   ·exact iteF (kt Fd n way a _ hn ha hc T.loose)
  have T1 : HTl (cxOf CX0 P w K mg base ["box","table","found","way","at","wide"] "_law_hurt" (defScope sHurt) f cdv A outer s H E).nox (List.drop 4 (defBody sHurt)) H p L Q true 4 5 := by
   obtain ⟨tt,htt,kt⟩ := T2
   refine ⟨_,pss_cons (ps_if (PW.pt (pw_and (pt_cmpR op_eq (pv 3) pe_int (nomark _)) (pw_and (pt_cmpR (op_neD hu64) (pv 2) (pe_lst pa_nil) (nomark _)) (pw_and1 (pt_cmpR (op_neD hu64) (pe_ix ix_list (pv 2) (pv 4) (fun _ _ => rfl)) (pe_lst pa_nil) (nomark _)))))) (pss_one (ps_expr (pe_bm0 PySem.F.plainAttrs_list PySem.F.slot_list_pop PySem.F.type_list_pop mt_pop (pe_ix ix_list (pv 2) (pv 4) (fun _ _ => rfl))))) pss_nil) htt,?_⟩
   intro Fd n way a H' hn ha hc T
   refine ⟨_,rfl,rfl,_,rfl,?_⟩
   refine ite2 (fun _ => ?_) (fun _ => ?_)
   ·refine ⟨_,rfl,by decide,fun q hq => NE _ T hq fun T1 => ⟨_,rfl,?_⟩⟩
    refine ite2 (fun h1 => ?_) (fun h1 => ?_)
    ·have T1' := T1
     obtain ⟨ds,ub,sb,b,hF,hrw,hl,hp,hn',hd,h0⟩ := T1'
     have hdl := hrw.len
     have hn0 : n ≠ 0 := by simpa using h1
     have hi : a.toNat < ds.length := by omega
     obtain ⟨ns,en,hns⟩ := hrw.get (List.getElem?_eq_getElem hi)
     have hm := hp ns (List.mem_of_getElem? en)
     have eA : atI (ds.map V.ref) a = some (V.ref ds[a.toNat]) := atI_in ha (by rw [List.length_map]; omega) (by rw [List.getElem?_map,List.getElem?_eq_getElem hi]; rfl)
     refine ⟨_,rfl,_,rfl,Fd,_,_,_,rfl,rfl,SqL.of hF,eA,by decide,fun q2 hq2 => ?_⟩
     have T3 := T1.same hb (Same.new (o := .lst []) hq2)
     refine ⟨liD ns,liD [],dv_ints (SqL.of ((Same.new hq2) _ _ hns)),dv_ints (ns := []) (SqL.of upd_same),shaped_li _,shaped_li _,mix_li _ _,_,rfl,?_⟩
     rw [if_pos rfl,same_liD]
     have s2 := Same.new (o := .lst []) hq2
     refine ite2 (fun h2 => ?_) (fun h2 => ?_)
     ·have hne : ns ≠ [] := by simpa using h2
      have hlen : 0 < ns.length := List.length_pos_iff.mpr hne
      refine ⟨_,rfl,_,rfl,Fd,_,_,_,rfl,rfl,SqL.of (s2 _ _ hF),eA,.inl ⟨rfl,_,SqL.of (s2 _ _ hns)⟩,ds[a.toNat],_,V.int (ns.getLast hne),rfl,rfl,s2 _ _ hns,?_,?_⟩
      ·rw [List.length_map,List.getElem?_map,← List.getLast?_eq_getElem?,List.getLast?_eq_some_getLast hne]; rfl
      ·rw [← List.map_dropLast]
       exact kt Fd n way a _ hn ha hc (Hrt.row (m := 5) (i := a.toNat) hb (sb.trans (.of s2)) (b.same s2) (s2 _ _ hF) (hrw.same s2) hl hp hn' (hd rfl) h0 (List.getElem?_eq_getElem hi) (by rw [List.length_dropLast]; omega) (fun x hx => hm.2 x (List.dropLast_subset _ hx)) (by omega))
     ·exact kt Fd n way a _ hn ha hc T3
    ·exact iteF (kt Fd n way a _ hn ha hc T1)
   ·exact iteF (kt Fd n way a _ hn ha hc T)
  have T0 : HTl (cxOf CX0 P w K mg base ["box","table","found","way","at","wide"] "_law_hurt" (defScope sHurt) f cdv A outer s H E).nox (List.drop 3 (defBody sHurt)) H p L Q true 4 4 := by
   obtain ⟨tt,htt,kt⟩ := T1
   refine ⟨_,pss_cons (ps_if (PW.pt (pw_and (pt_cmpR op_eq (pv 3) pe_int (nomark _)) (pw_and1 (pt_cmpR (op_neD hu64) (pv 2) (pe_lst pa_nil) (nomark _))))) (pss_one (ps_expr (pe_bm PySem.F.plainAttrs_list PySem.F.slot_list_append PySem.F.type_list_append mt_append (pe_ix ix_list (pv 2) (pv 4) (fun _ _ => rfl)) (pa_cons pe_int pa_nil)))) pss_nil) htt,?_⟩
   intro Fd n way a H' hn ha hc T
   refine ⟨_,rfl,rfl,_,rfl,?_⟩
   refine ite2 (fun _ => ?_) (fun _ => ?_)
   ·refine ⟨_,rfl,by decide,fun q hq => NE _ T hq fun T1 => ⟨_,rfl,?_⟩⟩
    refine ite2 (fun h1 => ?_) (fun h1 => ?_)
    ·obtain ⟨ds,ub,sb,b,hF,hrw,hl,hp,hn',hd,h0⟩ := T1
     have hdl := hrw.len
     have hn0 : n ≠ 0 := by simpa using h1
     have hi : a.toNat < ds.length := by omega
     obtain ⟨ns,en,hns⟩ := hrw.get (List.getElem?_eq_getElem hi)
     have hm := hp ns (List.mem_of_getElem? en)
     have eA : atI (ds.map V.ref) a = some (V.ref ds[a.toNat]) := atI_in ha (by rw [List.length_map]; omega) (by rw [List.getElem?_map,List.getElem?_eq_getElem hi]; rfl)
     refine ⟨_,rfl,_,rfl,Fd,_,_,_,rfl,rfl,SqL.of hF,eA,.inl ⟨rfl,_,SqL.of hns⟩,ds[a.toNat],_,_,rfl,rfl,hns,line_lt (by rw [List.length_map]; omega),?_⟩
     rw [show ns.map V.int ++ [V.int 1] = (ns ++ [1]).map V.int from by simp]
     refine kt Fd n way a _ hn ha hc (Hrt.row (m := 4) (i := a.toNat) hb sb b hF hrw hl hp hn' (hd rfl) h0 (List.getElem?_eq_getElem hi) (by simp; omega) (fun x hx => ?_) (by omega))
     rcases List.mem_append.mp hx with h | h
     ·exact hm.2 x h
     ·simp at h; omega
    ·exact kt Fd n way a _ hn ha hc (T1.mono (by omega))
   ·exact iteF (kt Fd n way a _ hn ha hc (T.mono (by omega)))
  obtain ⟨tt,htt,kt⟩ := T0
  refine ⟨_,pss_cons (ps_setS (i := 2) scHurt.nd rfl (Or.inl rfl) ["box","table","found","way","at","wide"] ["row"] [none] (pi_list (pv 1)) (fun cl C s₀ H₀ ex => pg_name (i := 0) (ndN ["row"]) rfl (Or.inl rfl)) (fun cl C s₀ H₀ ex => ptl_nil)
    (fun cl C s₀ H₀ ex => pe_callTy call_list_of rfl B.list b_list (pa_cons (pv 0) pa_nil)) (te := tCopy K) (hfr := nofr (by decide +kernel)))
   (pss_cons (ps_set (i := 3) scHurt.nd rfl (Or.inl rfl) (pe_call Gt hr rfl mt Ft.kp bt .nil pass0 (pa_cons (pv 0) (pa_cons pe_int pa_nil))))
   (pss_cons (ps_set (i := 4) scHurt.nd rfl (Or.inl rfl) (pe_call Gt hr rfl mt Ft.kp bt .nil pass0 (pa_cons (pv 0) (pa_cons (pe_callB (call_max2 rfl) rfl B.max b_max (pa_cons pe_int (pa_cons (pe_callB call_len_seq rfl B.len b_len (pa_cons (pv 2) pa_nil)) pa_nil))) pa_nil))))
   htt)),?_⟩
  refine ⟨_,rfl,L,rfl,⟨_,SqL.of hL⟩,fun Fd hF => ?_⟩
  refine comp_of (copy_turn (SqL.of hL) ht (by omega) hF fun H1 ds sm1 hF1 hr1 hnd hn1 => ?_)
  have I1 : Hrt true H p Fd tb.length 4 H1 := ⟨ds,tb,.of sm1,hb.same sm1,hF1,hr1,rfl,z2,hn1,fun _ => hnd,hF⟩
  refine ⟨_,rfl,p,_,rfl,I1.box,by decide,by decide,fun way H2 w0 w1 sb2 hb2 => ?_⟩
  have I2 := I1.draw hb sb2 hb2
  have hF2 : H2 Fd = some (.lst (ds.map V.ref)) := sb2 _ _ (box_ne hb hF) hF1
  have hdl := hr1.len
  refine ⟨_,rfl,_,rfl,Fd,_,rfl,.inl (SqL.of hF2),_,_,rfl,p,_,rfl,hb2,?_,?_,fun a H3 a0 a1 sb3 hb3 => ?_⟩
  ·rw [List.length_map]; split <;> omega
  ·rw [List.length_map]; split <;> omega
  ·rw [List.length_map] at a1
   exact kt Fd tb.length way a H3 (by omega) a0 (by split at a1 <;> omega) (I2.draw hb sb3 hb3)
end
end K20
end
section
namespace K20
open PySem L2
abbrev sLaw : Stmt := top 40
def Tb (p : Addr) (H : Hp) (L : Addr) (rs : List Addr) (tb : List (List Int)) : Prop := H L = some (.lst (rs.map V.ref)) ∧ Rws H rs tb ∧ L ≠ p ∧ ∀ d ∈ rs,d ≠ p
theorem Tb.draw {p L : Addr} {H H' : Hp} {rs : List Addr} {tb : List (List Int)} (h : Tb p H L rs tb) (s : SameB p H H') : Tb p H' L rs tb := ⟨s _ _ h.2.2.1 h.1,h.2.1.sameB s h.2.2.2,h.2.2⟩
theorem Tb.other {p p2 L : Addr} {H H' : Hp} {rs : List Addr} {tb : List (List Int)} {o : HO} (h : Tb p H L rs tb) (hp2 : H p2 = none) (s : SameB p2 (L2.upd H p2 o) H') : Tb p H' L rs tb :=
 ⟨s _ _ (ne_of_none h.1 hp2) ((Same.new hp2) _ _ h.1),(h.2.1.same (Same.new hp2)).sameB s fun d hd z => h.2.1.there d hd (z ▸ hp2),h.2.2⟩
theorem SqL.far {K : PySem.W.Frag} {H H' : Hp} {a p : Addr} {xs : List V} {o : HO} (h : L2.SqL K H a xs) (hp : H p = none) (s : SameB p (L2.upd H p o) H') : L2.SqL K H' a xs := by
 rcases h with (h | ⟨u,h⟩) | h
 ·exact .inl (.inl (s _ _ (ne_of_none h hp) ((Same.new hp) _ _ h)))
 ·exact .inl (.inr ⟨u,s _ _ (ne_of_none h hp) ((Same.new hp) _ _ h)⟩)
 ·exact .inr h
theorem tab_of {tb : List (List Int)} {c : Nat} (h : tb.length ≤ 4) (hc : c ≤ 4) (hr : ∀ r ∈ tb,r.length = c) : isTab tb = true := by
 have hw : wid tb ≤ 4 ∧ ∀ r ∈ tb,r.length = wid tb := by
  cases tb with
  | nil => exact ⟨by decide,fun r hr => by cases hr⟩
  | cons a t =>
   have e : wid (a :: t) = c := hr a (List.mem_cons_self)
   rw [e]
   exact ⟨hc,hr⟩
 unfold isTab
 rw [decide_eq_true (show tb.length ≤ 40 by omega),decide_eq_true (show wid tb ≤ 40 by omega)]
 simpa using hw.2
theorem wid_le {tb : List (List Int)} {c : Nat} (hr : ∀ r ∈ tb,r.length ≤ c) : wid tb ≤ c := by
 cases tb with
 | nil => exact Nat.zero_le _
 | cons a t => exact hr a (List.mem_cons_self)
theorem sml_of {ns : List Int} (h : Bnd 1000 ns) : Sml ns := fun n hn => by have := h n hn; omega
section
open PySem.Spec PyProof.Rows
theorem same_bb (a b : Bool) : same (.list [.bool a,.bool b]) (.list [.bool a,.bool b]) = true := by cases a <;> cases b <;> decide +kernel
theorem shaped_bb (a b : Bool) : SeqAt.shaped (.list [.bool a,.bool b]) = true := by cases a <;> cases b <;> decide +kernel
theorem mix_bb (a b : Bool) : SeqAt.noMix (.list [.bool a,.bool b]) (.list [.bool a,.bool b]) = true := SeqAt.noMix_of_shape (.list .bool) rfl _ _ (by simp [Shape.has]) (by simp [Shape.has])
abbrev sssD : PyData := .list [.str "table",.str "table",.str "table"]
theorem same_sss : same sssD sssD = true := by decide +kernel
theorem shaped_sss : SeqAt.shaped sssD = true := by decide +kernel
theorem mix_sss : SeqAt.noMix sssD sssD = true := SeqAt.noMix_of_shape (.list .str) rfl _ _ (by simp [Shape.has]) (by simp [Shape.has])
end
section
variable {P : Program} {w : World} {K : PySem.W.Frag} {mg : Str → Option Value} {base : Heap}
theorem dv_two {H : Hp} {Hd A B : Addr} {rs ms : List Addr} {tb ub : List (List Int)} (h : H Hd = some (.lst [.ref A,.ref B])) (hA : H A = some (.lst (rs.map V.ref))) (hB : H B = some (.lst (ms.map V.ref))) (ht : Rws H rs tb) (hu : Rws H ms ub) : DV K H (.ref Hd) (ttD [tb,ub]) :=
 .lst (SqL.of h) (.cons (dv_tab (SqL.of hA) ht) (.cons (dv_tab (SqL.of hB) hu) .nil))
theorem isb_turn {H2 : Hp} {l D : Addr} {bs : List Bool} {Q : VK} {te : TE} (hte : ∀ (b : Bool) (H : Hp) (R : VK),R (.bl true) H → te [some (.bl b)] H R) (hl : H2 l = some (.lst (bs.map V.bl))) (hz : bs.length ≤ 1000) (hD : H2 D = none)
  (k : ∀ H3,Same H2 H3 → H3 D = some (.lst ((bs.map fun _ => true).map V.bl)) → Q (.ref D) H3) : CompW (Itl K l) (gName 0) tYes te [none] H2 D Q := by
 refine comp_list (xs := bs.map V.bl) (fun j σ ys H3 => ∃ v : Option V,σ = [v] ∧ Same H2 H3 ∧ H3 D = some (.lst ys) ∧ ys = ((bs.map fun _ => true).take j).map V.bl) ?_ ?_ ?_ ?_
 ·exact ⟨none,rfl,Same.new hD,upd_same,rfl⟩
 ·rintro j σ ys H3 ⟨v,rfl,sm,_⟩
  exact SqL.of (sm _ _ hl)
 ·rintro j σ ys H3 x hx hj hy ⟨v,rfl,sm,hD3,rfl⟩
  obtain ⟨q,eq,rfl⟩ : ∃ q,bs[j]? = some q ∧ x = .bl q := by
   rw [List.getElem?_map] at hx
   cases e : bs[j]? with
   | none => rw [e] at hx; cases hx
   | some a => rw [e] at hx; cases hx; exact ⟨a,rfl,rfl⟩
  have e : (bs.map fun _ => true)[j]? = some true := by rw [List.getElem?_map,eq]; rfl
  refine gyes ?_
  exact hte q H3 _ (cput (by rw [List.length_map]; exact line_big (by omega)) hj hy hD3 ⟨_,rfl,sm.then hD,upd_same,by rw [take_snoc e,List.map_append]; rfl⟩)
 ·rintro σ ys H3 ⟨v,rfl,sm,hD3,rfl⟩
  rw [List.take_of_length_le (by simp)] at hD3
  exact k H3 sm hD3
theorem asked_no {H : Hp} {Q : VK} {E : XK} {way : Int} {L M : Addr} {rs ms : List Addr} {tb ub : List (List Int)} (hL : H L = some (.lst (rs.map V.ref))) (hM : H M = some (.lst (ms.map V.ref))) (ht : Rws H rs tb) (hu : Rws H ms ub) (z1 : tb.length ≤ 1000) (z2 : ub.length ≤ 1000) (zs : ∀ r ∈ tb,Sml r)
  (n0 : way = 0 → ¬ (isTab tb = true ∧ isTab ub = true ∧ wid tb = ub.length)) (n1 : way ≠ 0 → isTab tb = false) (h : ∀ H1,Same H H1 → Q (.str "table") H1) : spAsked K [.int way,.ref L,.ref M] H Q E :=
 ⟨way,L,M,rs,ms,tb,ub,rfl,hL,hM,ht,hu,z1,z2,zs,fun w0 a b c => absurd ⟨a,b,c⟩ (n0 w0),fun _ _ => h,fun w0 a => (by rw [n1 w0] at a; cases a),fun _ _ => h⟩
def spLaw (K : PySem.W.Frag) : Sp := fun vs H Q _ => ∃ (a : Addr) (ns : List Int),vs = [.ref a] ∧ SqL K H a (ns.map V.int) ∧ ns.length ≤ 63 ∧ ∀ H',Q (.bl true) H'
theorem scLaw : FnScope ["script","box","one","other","size","handed","good","kinds","told"] ["script"] (defScope sLaw) := ⟨rfl,rfl,rfl,by decide +kernel,rfl,by decide +kernel,by decide +kernel⟩
theorem ok_law {f fc fb ft fr ftb fh fw fg fi fa fo fp fx : Addr} {fd fdc fdb fdt fdr fdtb fdh fdw fdg fdi fda fdo fdp fdx : FuncData} (F : Fun K "law" "law" sLaw f fd) (B : Bt mg)
  (Fc : Fun K "_law_cell_at" "_law_cell_at" sCell fc fdc) (bc : Binds K fdc ["script","k"] []) (mc : mg "_law_cell_at" = some (.ref fc))
  (Fb : Fun K "_law_box" "_law_box" sBox fb fdb) (bb : Binds K fdb ["cell"] []) (mb : mg "_law_box" = some (.ref fb))
  (Ft : Fun K "_law_take" "_law_take" sTake ft fdt) (bt : Binds K fdt ["box","most"] []) (mt : mg "_law_take" = some (.ref ft))
  (Fr : Fun K "_law_row" "_law_row" sRow fr fdr) (br : Binds K fdr ["box","columns","wide"] []) (mr : mg "_law_row" = some (.ref fr)) (Gr : FnOk P w K mg base CX0 2 fr fdr ["box","columns","wide"] spRow)
  (Ftb : Fun K "_law_table" "_law_table" sTable ftb fdtb) (btb : Binds K fdtb ["box","most"] []) (mtb : mg "_law_table" = some (.ref ftb)) (Gtb : FnOk P w K mg base CX0 3 ftb fdtb ["box","most"] spTable)
  (Fh : Fun K "_law_hurt" "_law_hurt" sHurt fh fdh) (bh : Binds K fdh ["box","table"] []) (mh : mg "_law_hurt" = some (.ref fh)) (Gh : FnOk P w K mg base CX0 2 fh fdh ["box","table"] spHurt)
  (Fw : Fun K "_law_wide" "_law_wide" sLWide fw fdw) (bw : Binds K fdw ["table"] []) (mw : mg "_law_wide" = some (.ref fw))
  (Fg : Fun K "_law_good" "_law_good" sLGood fg fdg) (bg : Binds K fdg ["table"] []) (mgd : mg "_law_good" = some (.ref fg)) (Gg : FnOk P w K mg base CX0 2 fg fdg ["table"] (spLGood K))
  (Fi : Fun K "is_table" "is_table" sIsTab fi fdi) (bi : Binds K fdi ["table"] []) (mi : mg "is_table" = some (.ref fi)) (Gi : FnOk P w K mg base CX0 2 fi fdi ["table"] (spIsTab K))
  (Fa : Fun K "_law_asked" "_law_asked" sAsked fa fda) (ba : Binds K fda ["way","one","other"] []) (ma : mg "_law_asked" = some (.ref fa)) (Ga : FnOk P w K mg base CX0 5 fa fda ["way","one","other"] (spAsked K))
  (Fo : Fun K "_law_over" "_law_over" sOver fo fdo) (bo : Binds K fdo ["table"] []) (mo : mg "_law_over" = some (.ref fo)) (Go : FnOk P w K mg base CX0 2 fo fdo ["table"] (spOver K))
  (Fp : Fun K "_law_product" "_law_product" sLProd fp fdp) (bp : Binds K fdp ["one","other"] []) (mp : mg "_law_product" = some (.ref fp)) (Gp : FnOk P w K mg base CX0 2 fp fdp ["one","other"] (spLProd K))
  (Fx : Fun K "_law_told_again" "_law_told_again" sTold fx fdx) (bx : Binds K fdx ["way","one","other","due"] []) (mx : mg "_law_told_again" = some (.ref fx)) (Gx : FnOk P w K mg base CX0 6 fx fdx ["way","one","other","due"] (spTold K)) :
  FnOk P w K mg base CX0 7 f fd ["script"] (spLaw K) := by
 have Gc : FnOk P w K mg base CX0 1 fc fdc ["script","k"] (spCell K) := ok_cell Fc B
 have Gb : FnOk P w K mg base CX0 1 fb fdb ["cell"] spBox := ok_box Fb
 have Gt : FnOk P w K mg base CX0 1 ft fdt ["box","most"] spTake := ok_take Ft
 have Gw : FnOk P w K mg base CX0 1 fw fdw ["table"] (spLWide K) := ok_lwide Fw B
 refine F.ok scLaw (fun vs H Q E h => ?_) (fun cdv A outer s H vs Q E hr h => ?_)
 ·obtain ⟨a,ns,rfl,_⟩ := h; rfl
 ·obtain ⟨a,ns,rfl,hs,hn,k⟩ := h
  have hu64 := hr.units
  have hr1 : Room 1 _ := hr.mono (by decide)
  have hr2 : Room 2 _ := hr.mono (by decide)
  have hr3 : Room 3 _ := hr.mono (by decide)
  have hr5 : Room 5 _ := hr.mono (by decide)
  have T5 : ∃ tt,PSs (cxOf CX0 P w K mg base ["script","box","one","other","size","handed","good","kinds","told"] "law" (defScope sLaw) f cdv A outer s H E).nox (List.drop 5 (defBody sLaw)) tt ∧ ∀ (p L M : Addr) (rs ms : List Addr) (tb ub : List (List Int)) (v4 : Option V) (H' : Hp),
    H' L = some (.lst (rs.map V.ref)) → H' M = some (.lst (ms.map V.ref)) → Rws H' rs tb → Rws H' ms ub → tb.length ≤ 41 → (∀ r ∈ tb,r.length ≤ 41 ∧ Bnd 1000 r) → isTab ub = true →
    tt { nx := fun _ H' => Q .non H',rt := Q } [some (.ref a),some (.ref p),some (.ref L),some (.ref M),v4,none,none,none,none] H' := by
   refine ⟨_,(pss_cons (ps_set (i := 5) scLaw.nd rfl (Or.inl rfl) (pe_lst (pa_cons (pe_compS ["script","box","one","other","size","handed","good","kinds","told"] ["row"] [none] (pi_list (pv 2)) (fun cl C s₀ H₀ ex => pg_name (i := 0) (ndN ["row"]) rfl (Or.inl rfl)) (fun cl C s₀ H₀ ex => ptl_nil)
      (fun cl C s₀ H₀ ex => pe_callTy call_list_of rfl B.list b_list (pa_cons (pv 0) pa_nil)) (te := tCopy K) (hfr := nofr (by decide +kernel)))
     (pa_cons (pe_compS ["script","box","one","other","size","handed","good","kinds","told"] ["row"] [none] (pi_list (pv 3)) (fun cl C s₀ H₀ ex => pg_name (i := 0) (ndN ["row"]) rfl (Or.inl rfl)) (fun cl C s₀ H₀ ex => ptl_nil)
      (fun cl C s₀ H₀ ex => pe_callTy call_list_of rfl B.list b_list (pa_cons (pv 0) pa_nil)) (te := tCopy K) (hfr := nofr (by decide +kernel))) pa_nil))))
    (pss_cons (ps_set (i := 6) scLaw.nd rfl (Or.inl rfl) (pe_lst (pa_cons (pe_call Gg hr2 rfl mgd Fg.kp bg .nil pass0 (pa_cons (pv 2) pa_nil)) (pa_cons (pe_call Gg hr2 rfl mgd Fg.kp bg .nil pass0 (pa_cons (pv 3) pa_nil)) pa_nil))))
    (pss_cons (ps_set (i := 7) scLaw.nd rfl (Or.inl rfl) (pe_lst (pa_cons (pe_call Gi hr2 rfl mi Fi.kp bi .nil pass0 (pa_cons (pe_ix ix_list (pv 5) pe_int (fun _ _ => rfl)) pa_nil)) (pa_cons (pe_call Gi hr2 rfl mi Fi.kp bi .nil pass0 (pa_cons (pe_ix ix_list (pv 5) pe_int (fun _ _ => rfl)) pa_nil)) pa_nil))))
    (pss_cons (ps_if (PW.pt (pw_or (pt_not (pt_val (pe_callB (call_all rfl) rfl B.all b_all (pa_cons (pe_compS ["script","box","one","other","size","handed","good","kinds","told"] ["kind"] [none] (pi_list (pv 7)) (fun cl C s₀ H₀ ex => pg_name (i := 0) (ndN ["kind"]) rfl (Or.inl rfl)) (fun cl C s₀ H₀ ex => ptl_nil)
      (fun cl C s₀ H₀ ex => pe_callB call_isi_bool rfl B.isinstance b_isinstance (pa_cons (pv 0) (pa_cons (pe_bltn (v := .ty "bool") rfl B.bool b_bool rfl) pa_nil))) (hfr := nofr (by decide +kernel))) pa_nil))))
     (pw_or1 (pt_cmpR (op_neD hu64) (pv 7) (pv 6) (nomark _))))) (pss_one (ps_ret pe_bl)) pss_nil)
    (pss_cons (ps_if (pt_not (pt_val (pe_ix ix_list (pv 6) pe_int (fun _ _ => rfl))))
     (pss_cons (ps_set (i := 8) scLaw.nd rfl (Or.inl rfl) (pe_lst (pa_cons (pe_call Ga hr5 rfl ma Fa.kp ba .nil pass0 (pa_cons pe_int (pa_cons (pe_ix ix_list (pv 5) pe_int (fun _ _ => rfl)) (pa_cons (pe_ix ix_list (pv 5) pe_int (fun _ _ => rfl)) pa_nil))))
      (pa_cons (pe_call Ga hr5 rfl ma Fa.kp ba .nil pass0 (pa_cons pe_int (pa_cons (pe_lst pa_nil) (pa_cons (pe_ix ix_list (pv 5) pe_int (fun _ _ => rfl)) pa_nil))))
      (pa_cons (pe_call Ga hr5 rfl ma Fa.kp ba .nil pass0 (pa_cons pe_int (pa_cons (pe_ix ix_list (pv 5) pe_int (fun _ _ => rfl)) (pa_cons (pe_lst pa_nil) pa_nil)))) pa_nil)))))
     (pss_one (ps_ret (pe_cmpR (op_eqD hu64) (pv 8) (pe_lst (pa_cons pe_str (pa_cons pe_str (pa_cons pe_str pa_nil)))) (nomark _))))) pss_nil)
    (pss_cons (ps_if (PW.pt (pw_or (pt_not (pt_val (pe_call Gx hr rfl mx Fx.kp bx .nil pass0 (pa_cons pe_int (pa_cons (pe_ix ix_list (pv 5) pe_int (fun _ _ => rfl)) (pa_cons (pe_lst pa_nil) (pa_cons (pe_call Go hr2 rfl mo Fo.kp bo .nil pass0 (pa_cons (pv 2) pa_nil)) pa_nil)))))))
     (pw_or1 (pt_cmpR (op_neD hu64) (pv 5) (pe_lst (pa_cons (pv 2) (pa_cons (pv 3) pa_nil))) (nomark _))))) (pss_one (ps_ret pe_bl)) pss_nil)
    (pss_cons (ps_if (pt_cmpR op_ne (pe_call Gw hr1 rfl mw Fw.kp bw .nil pass0 (pa_cons (pv 2) pa_nil)) (pe_callB call_len_seq rfl B.len b_len (pa_cons (pv 3) pa_nil)) (nomark _))
     (pss_one (ps_ret (pe_and (pe_cmpR op_eq (pe_call Ga hr5 rfl ma Fa.kp ba .nil pass0 (pa_cons pe_int (pa_cons (pe_ix ix_list (pv 5) pe_int (fun _ _ => rfl)) (pa_cons (pe_ix ix_list (pv 5) pe_int (fun _ _ => rfl)) pa_nil)))) pe_str (nomark _))
      (pe_one (pe_cmpR (op_eqD hu64) (pv 5) (pe_lst (pa_cons (pv 2) (pa_cons (pv 3) pa_nil))) (nomark _)))))) pss_nil)
    (pss_one (ps_ret (pe_and (pe_call Gx hr rfl mx Fx.kp bx .nil pass0 (pa_cons pe_int (pa_cons (pe_ix ix_list (pv 5) pe_int (fun _ _ => rfl)) (pa_cons (pe_ix ix_list (pv 5) pe_int (fun _ _ => rfl)) (pa_cons (pe_call Gp hr2 rfl mp Fp.kp bp .nil pass0 (pa_cons (pv 2) (pa_cons (pv 3) pa_nil))) pa_nil)))))
      (pe_one (pe_cmpR (op_eqD hu64) (pv 5) (pe_lst (pa_cons (pv 2) (pa_cons (pv 3) pa_nil))) (nomark _))))))))))))),?_⟩
   intro p L M rs ms tb ub v4 H0 hL hM ht hu z1 z2 hU
   obtain ⟨u1,u2,u3⟩ := tab_rows hU
   refine ⟨_,rfl,L,rfl,⟨_,SqL.of hL⟩,fun C1 hC1 => ?_⟩
   refine comp_of (copy_turn (SqL.of hL) ht (by omega) hC1 fun H1 cs sm1 hC1' hc1 _ _ => ?_)
   refine ⟨_,rfl,M,rfl,⟨_,SqL.of (sm1 _ _ hM)⟩,fun C2 hC2 => ?_⟩
   refine comp_of (copy_turn (SqL.of (sm1 _ _ hM)) (hu.same sm1) (by omega) hC2 fun H2 es sm2 hC2' hc2 _ _ => ?_)
   refine ⟨line_big (by simp),fun Hd hHd => ?_⟩
   have s3 : Same H2 (upd H2 Hd (.lst [.ref C1,.ref C2])) := Same.new hHd
   generalize eH3 : upd H2 Hd (.lst [.ref C1,.ref C2]) = H3 at s3
   have hH3 : H3 Hd = some (.lst [.ref C1,.ref C2]) := by rw [← eH3]; exact upd_same
   have L3 := ((sm1.trans sm2).trans s3) _ _ hL
   have M3 := ((sm1.trans sm2).trans s3) _ _ hM
   have t3 := ht.same ((sm1.trans sm2).trans s3)
   have q3 := hu.same ((sm1.trans sm2).trans s3)
   have A3 := (sm2.trans s3) _ _ hC1'
   have B3 := s3 _ _ hC2'
   have a3 := hc1.same (sm2.trans s3)
   have b3 := hc2.same s3
   have sml : ∀ r ∈ tb,Sml r := fun r hr' => sml_of (z2 r hr').2
   have EQ : ∀ (H4 : Hp) (q : Addr) (neg : Bool) (Z : VK),Same H3 H4 → H4 q = none → (∀ H5,Same H3 H5 → Z (.bl (!neg)) H5) → rEqD neg K (.ref Hd) (.ref q) (upd H4 q (.lst [.ref L,.ref M])) Z := by
    intro H4 q neg Z sm hq kk
    have s := sm.trans (Same.new (o := .lst [.ref L,.ref M]) hq)
    refine ⟨ttD [tb,ub],ttD [tb,ub],dv_two (s _ _ hH3) (s _ _ A3) (s _ _ B3) (a3.same s) (b3.same s),dv_two upd_same (s _ _ L3) (s _ _ M3) (t3.same s) (q3.same s),shaped_tt _,shaped_tt _,mix_tt _ _,?_⟩
    rw [same_ttD,decide_eq_true rfl]
    cases neg
    ·exact kk _ s
    ·exact kk _ s
   refine ⟨_,rfl,L,rs,tb,rfl,SqL.of L3,t3,by omega,fun H4 sm4 => ⟨_,rfl,M,ms,ub,rfl,SqL.of (sm4 _ _ M3),q3.same sm4,by omega,fun H5 sm5 => ⟨line_big (by simp),fun Gd hGd => ?_⟩⟩⟩
   have s6 : Same H3 (upd H5 Gd (.lst [.bl (isTab tb),.bl (isTab ub)])) := (sm4.trans sm5).trans (Same.new hGd)
   generalize eH6 : upd H5 Gd (.lst [.bl (isTab tb),.bl (isTab ub)]) = H6 at s6
   have hG6 : H6 Gd = some (.lst [.bl (isTab tb),.bl (isTab ub)]) := by rw [← eH6]; exact upd_same
   refine ⟨_,rfl,Hd,_,_,_,rfl,rfl,SqL.of (s6 _ _ hH3),atI_nat (j := 0) rfl,C1,cs,tb,rfl,SqL.of (s6 _ _ A3),a3.same s6,by omega,fun H7 sm7 => ?_⟩
   have s7 := s6.trans sm7
   refine ⟨_,rfl,Hd,_,_,_,rfl,rfl,SqL.of (s7 _ _ hH3),atI_nat (j := 1) rfl,C2,es,ub,rfl,SqL.of (s7 _ _ B3),b3.same s7,by omega,fun H8 sm8 => ⟨line_big (by simp),fun Kd hKd => ?_⟩⟩
   have m9 : Same H6 (upd H8 Kd (.lst [.bl (isTab tb),.bl (isTab ub)])) := (sm7.trans sm8).trans (Same.new hKd)
   generalize eH9 : upd H8 Kd (.lst [.bl (isTab tb),.bl (isTab ub)]) = H9 at m9
   have hK9 : H9 Kd = some (.lst [.bl (isTab tb),.bl (isTab ub)]) := by rw [← eH9]; exact upd_same
   refine ⟨_,rfl,Kd,rfl,⟨_,SqL.of hK9⟩,fun D hD => ?_⟩
   refine comp_of (isb_turn (bs := [isTab tb,isTab ub]) (fun b H R h => ⟨_,rfl,b,rfl,h⟩) hK9 (by simp) hD fun H10 sm10 hD10 => ⟨D,_,rfl,SqL.of hD10,?_⟩)
   rw [all_yes]
   have m10 := m9.trans sm10
   have s10 := s6.trans m10
   refine ⟨_,rfl,iteF ⟨_,rfl,_,rfl,.list [.bool (isTab tb),.bool (isTab ub)],.list [.bool (isTab tb),.bool (isTab ub)],DV.lst (SqL.of (sm10 _ _ hK9)) (.cons (.bl _) (.cons (.bl _) .nil)),DV.lst (SqL.of (m10 _ _ hG6)) (.cons (.bl _) (.cons (.bl _) .nil)),shaped_bb _ _,shaped_bb _ _,mix_bb _ _,_,rfl,?_⟩⟩
   rw [if_pos rfl,same_bb]
   refine iteF ⟨_,rfl,Gd,_,_,_,rfl,rfl,SqL.of (m10 _ _ hG6),atI_nat (j := 0) rfl,_,rfl,?_⟩
   cases c1 : isTab tb with
   | false =>
    refine iteT ?_
    refine ⟨_,rfl,Hd,_,_,_,rfl,rfl,SqL.of (s10 _ _ hH3),atI_nat (j := 0) rfl,_,rfl,Hd,_,_,_,rfl,rfl,SqL.of (s10 _ _ hH3),atI_nat (j := 1) rfl,asked_no (K := K) (E := E0) (s10 _ _ A3) (s10 _ _ B3) (a3.same s10) (b3.same s10) (by omega) (by omega) sml (fun _ z => by rw [c1] at z; cases z.1) (fun _ => c1) fun H11 sm11 => ?_⟩
    have s11 := s10.trans sm11
    refine ⟨by decide,fun q1 hq1 => ?_⟩
    have s12 : Same H3 (upd H11 q1 (.lst [])) := s11.trans (Same.new hq1)
    refine ⟨_,rfl,Hd,_,_,_,rfl,rfl,SqL.of (s12 _ _ hH3),atI_nat (j := 0) rfl,asked_no (K := K) (E := E0) (rs := []) (tb := []) upd_same (s12 _ _ A3) .nil (a3.same s12) (by decide) (by omega) (fun r hr' => by cases hr') (fun _ z => by rw [c1] at z; cases z.2.1) (fun z => absurd rfl z) fun H13 sm13 => ?_⟩
    have s13 := s12.trans sm13
    refine ⟨_,rfl,Hd,_,_,_,rfl,rfl,SqL.of (s13 _ _ hH3),atI_nat (j := 0) rfl,by decide,fun q2 hq2 => ?_⟩
    have s14 : Same H3 (upd H13 q2 (.lst [])) := s13.trans (Same.new hq2)
    refine asked_no (K := K) (E := E0) (ms := []) (ub := []) (s14 _ _ A3) upd_same (a3.same s14) .nil (by omega) (by decide) sml (fun z => absurd z (by decide)) (fun _ => c1) fun H15 sm15 => ?_
    refine ⟨by decide,fun Td hTd => ?_⟩
    refine ⟨_,rfl,by decide,fun q3' hq3 => ?_⟩
    refine ⟨sssD,sssD,DV.lst (SqL.of ((Same.new hq3) _ _ upd_same)) (.cons (.str _) (.cons (.str _) (.cons (.str _) .nil))),DV.lst (SqL.of upd_same) (.cons (.str _) (.cons (.str _) (.cons (.str _) .nil))),shaped_sss,shaped_sss,mix_sss,?_⟩
    rw [if_neg (by decide),same_sss]
    exact k _
   | true =>
    refine iteF ?_
    obtain ⟨t1,t2,t4⟩ := tab_rows c1
    refine ⟨_,rfl,Hd,_,_,_,rfl,rfl,SqL.of (s10 _ _ hH3),atI_nat (j := 0) rfl,by decide,fun q1 hq1 => ?_⟩
    have s11 : Same H3 (upd H10 q1 (.lst [])) := s10.trans (Same.new hq1)
    refine ⟨_,rfl,L,rs,tb,rfl,SqL.of (s11 _ _ L3),t3.same s11,c1,fun H12 sm12 U H13 us sm13 hU0 hU13 hus _ _ => ?_⟩
    have s13 := (s11.trans sm12).trans sm13
    refine ⟨1,C1,q1,U,cs,[],us,tb,[],turn tb,rfl,s13 _ _ A3,(sm12.trans sm13) _ _ upd_same,a3.same s13,.nil,by omega,by decide,sml,hU13,hus,by rw [turn_len]; omega,fun r hr' => by rw [turn_rows r hr']; omega,.inr ⟨by decide,c1,rfl⟩,fun H14 sm14 => ?_⟩
    have s14 := s13.trans sm14
    refine ⟨_,rfl,iteF ⟨_,rfl,_,rfl,_,rfl,line_big (by simp),fun q2 hq2 => EQ _ q2 true _ s14 hq2 fun H15 s15 => ⟨_,rfl,iteF ?_⟩⟩⟩
    refine ⟨_,rfl,L,rs,tb,rfl,SqL.of (s15 _ _ L3),t3.same s15,fun H16 sm16 => ?_⟩
    have s16 := s15.trans sm16
    refine ⟨_,rfl,M,_,rfl,.inl (SqL.of (s16 _ _ M3)),rfl,_,rfl,?_⟩
    rw [List.length_map,hu.len]
    by_cases c3 : wid tb = ub.length
    ·rw [show (!decide (V.int (wid tb : Int) = V.int (ub.length : Int))) = false from by simp [c3]]
     refine iteF ⟨_,rfl,Hd,_,_,_,rfl,rfl,SqL.of (s16 _ _ hH3),atI_nat (j := 0) rfl,_,rfl,Hd,_,_,_,rfl,rfl,SqL.of (s16 _ _ hH3),atI_nat (j := 1) rfl,_,rfl,_,rfl,L,M,rs,ms,tb,ub,rfl,s16 _ _ L3,s16 _ _ M3,t3.same s16,q3.same s16,c1,hU,c3,sml,fun U2 H17 vs sm17 hV0 hV hvs => ?_⟩
     have s17 := s16.trans sm17
     refine ⟨0,C1,C2,U2,cs,es,vs,tb,ub,mulT tb ub,rfl,s17 _ _ A3,s17 _ _ B3,a3.same s17,b3.same s17,by omega,by omega,sml,hV,hvs,by unfold mulT; rw [List.length_map]; omega,fun r hr' => ?_,.inl ⟨rfl,c1,hU,c3,rfl⟩,fun H18 sm18 => ?_⟩
     ·unfold mulT at hr'
      obtain ⟨_,_,rfl⟩ := List.mem_map.mp hr'
      rw [List.length_map,turn_len]; omega
     ·have s18 := s17.trans sm18
      exact ⟨_,rfl,iteT ⟨_,rfl,_,rfl,_,rfl,line_big (by simp),fun q3' hq3 => EQ _ q3' false _ s18 hq3 fun H19 s19 => k _⟩⟩
    ·rw [show (!decide (V.int (wid tb : Int) = V.int (ub.length : Int))) = true from by simp; omega]
     refine iteT ⟨_,rfl,Hd,_,_,_,rfl,rfl,SqL.of (s16 _ _ hH3),atI_nat (j := 0) rfl,_,rfl,Hd,_,_,_,rfl,rfl,SqL.of (s16 _ _ hH3),atI_nat (j := 1) rfl,asked_no (K := K) (E := E0) (s16 _ _ A3) (s16 _ _ B3) (a3.same s16) (b3.same s16) (by omega) (by omega) sml (fun _ z => c3 z.2.2) (fun z => absurd rfl z) fun H17 sm17 => ?_⟩
     have s17 := s16.trans sm17
     exact ⟨rfl,_,rfl,iteT ⟨_,rfl,_,rfl,_,rfl,line_big (by simp),fun q3' hq3 => EQ _ q3' false _ s17 hq3 fun H19 s19 => k _⟩⟩
  have T4 : ∃ tt,PSs (cxOf CX0 P w K mg base ["script","box","one","other","size","handed","good","kinds","told"] "law" (defScope sLaw) f cdv A outer s H E).nox (List.drop 4 (defBody sLaw)) tt ∧ ∀ (p L M : Addr) (rs ms : List Addr) (tb ub : List (List Int)) (v4 : Option V) (H' : Hp),
    BoxAt H' p → Tb p H' L rs tb → Tb p H' M ms ub → tb.length ≤ 4 → (∀ r ∈ tb,r.length ≤ 4 ∧ Bnd 1000 r) → isTab ub = true →
    tt { nx := fun _ H' => Q .non H',rt := Q } [some (.ref a),some (.ref p),some (.ref L),some (.ref M),v4,none,none,none,none] H' := by
   obtain ⟨tt,htt,kt⟩ := T5
   refine ⟨_,pss_cons (ps_if (pt_cmpR op_eq (pe_call Gt hr1 rfl mt Ft.kp bt .nil pass0 (pa_cons (pv 1) (pa_cons pe_int pa_nil))) pe_int (nomark _)) (pss_one (ps_set (i := 2) scLaw.nd rfl (Or.inl rfl) (pe_call Gh hr2 rfl mh Fh.kp bh .nil pass0 (pa_cons (pv 1) (pa_cons (pv 2) pa_nil))))) pss_nil) htt,?_⟩
   intro p L M rs ms tb ub v4 H0 hb tL tM z1 z2 hU
   refine ⟨_,rfl,p,_,rfl,hb,by decide,by decide,fun u H1 u0 u1 sb1 hb1 => ⟨rfl,_,rfl,?_⟩⟩
   have tL1 := tL.draw sb1
   have tM1 := tM.draw sb1
   refine ite2 (fun _ => ?_) (fun _ => ?_)
   ·refine ⟨_,rfl,_,rfl,p,L,rs,tb,rfl,hb1,tL1.1,tL1.2.1,z1,z2,fun F' H2 n m hn hm T => ?_⟩
    obtain ⟨ds,ub',sb,b,hF,hrw,hl,hp,hn',hd,h0⟩ := T
    have tM2 := tM1.draw sb
    exact kt p F' M ds ms ub' ub v4 H2 hF tM2.1 hrw tM2.2.1 (by omega) (fun r hr' => ⟨Nat.le_trans (hp r hr').1 hm,(hp r hr').2⟩) hU
   ·exact kt p L M rs ms tb ub v4 H1 tL1.1 tM1.1 tL1.2.1 tM1.2.1 (by omega) (fun r hr' => ⟨Nat.le_trans (z2 r hr').1 (by omega),(z2 r hr').2⟩) hU
  obtain ⟨tt,htt,kt⟩ := T4
  refine ⟨_,pss_cons (ps_set (i := 1) scLaw.nd rfl (Or.inr rfl) (pe_call Gb hr1 rfl mb Fb.kp bb .nil pass0 (pa_cons (pe_call Gc hr1 rfl mc Fc.kp bc .nil pass0 (pa_cons (pv 0) (pa_cons pe_int pa_nil))) pa_nil)))
   (pss_cons (ps_set (i := 2) scLaw.nd rfl (Or.inl rfl) (pe_call Gtb hr3 rfl mtb Ftb.kp btb .nil pass0 (pa_cons (pv 1) (pa_cons pe_int pa_nil))))
   (pss_cons (ps_set (i := 3) scLaw.nd rfl (Or.inl rfl) (pe_call Gtb hr3 rfl mtb Ftb.kp btb .nil pass0 (pa_cons (pe_call Gb hr1 rfl mb Fb.kp bb .nil pass0 (pa_cons (pe_call Gc hr1 rfl mc Fc.kp bc .nil pass0 (pa_cons (pv 0) (pa_cons pe_int pa_nil))) pa_nil)) (pa_cons pe_int pa_nil))))
   (pss_cons (ps_if (pt_cmpR op_eq (pe_call Gt hr1 rfl mt Ft.kp bt .nil pass0 (pa_cons (pv 1) (pa_cons pe_int pa_nil))) pe_int (nomark _))
    (pss_cons (ps_set (i := 4) scLaw.nd rfl (Or.inr rfl) (pe_call Gt hr1 rfl mt Ft.kp bt .nil pass0 (pa_cons (pv 1) (pa_cons pe_int pa_nil))))
    (pss_one (ps_setS (i := 3) scLaw.nd rfl (Or.inl rfl) ["script","box","one","other","size","handed","good","kinds","told"] ["row","box","size"] [none,some 1,some 4] (pi_range1 rfl B.range (pa_cons (pe_call Gw hr1 rfl mw Fw.kp bw .nil pass0 (pa_cons (pv 2) pa_nil)) pa_nil)) (fun cl C s₀ H₀ ex => pg_name (i := 0) (ndN ["row","box","size"]) rfl (Or.inl rfl)) (fun cl C s₀ H₀ ex => ptl_nil)
     (fun cl C s₀ H₀ ex => pe_call Gr hr2 rfl mr Fr.kp br .nil pass0 (pa_cons (pv 1) (pa_cons (pv 2) (pa_cons pe_int pa_nil)))) (te := tCall spRow [] E0 (tCons (tVar 1) (tCons (tVar 2) (tCons (tC (.int 7)) tNil)))) (hfr := frOf (defScope sLaw) (by decide +kernel))))) pss_nil)
   htt))),?_⟩
  refine ⟨_,rfl,a,ns,0,rfl,hs,fun n1 => ⟨n1,rfl,fun p x y hp hbx => ?_⟩⟩
  have hb1 : BoxAt (upd H p (.lst [.int x,.int y])) p := ⟨x,y,upd_same,hbx⟩
  refine ⟨_,rfl,p,rfl,hb1,fun L H1 c n hc hn T1 => ?_⟩
  obtain ⟨ds,tb,sb1,hb1',hF1,hr1',hl1,hp1,hn1,h01⟩ := T1
  have hs1 : SqL K H1 a (ns.map V.int) := SqL.far hs hp sb1
  refine ⟨_,rfl,a,ns,1,rfl,hs1,fun n2 => ⟨n2,rfl,fun p2 x2 y2 hp2 hbx2 => ?_⟩⟩
  refine ⟨p2,rfl,⟨x2,y2,upd_same,hbx2⟩,fun M H3 c2 m2 hc2 hm2 T2 => ?_⟩
  obtain ⟨es,ub,sb3,_,hF3,hr3',hl3,hp3,hn3,h03⟩ := T2
  have hb2 : BoxAt (upd H1 p2 (.lst [.int x2,.int y2])) p := hb1'.new hp2
  have hb3 : BoxAt H3 p := by
   obtain ⟨x',y',e,o⟩ := hb1'
   exact ⟨x',y',sb3 _ _ (ne_of_none e hp2) ((Same.new hp2) _ _ e),o⟩
  have tL : Tb p H1 L ds tb := ⟨hF1,hr1',box_ne hb1 h01,fun d hd => box_ne hb1 (hn1 d hd).1⟩
  have tL3 : Tb p H3 L ds tb := tL.other hp2 sb3
  have tM3 : Tb p H3 M es ub := ⟨hF3,hr3',box_ne hb2 h03,fun d hd => box_ne hb2 (hn3 d hd).1⟩
  have zL : ∀ r ∈ tb,r.length ≤ 4 ∧ Bnd 1000 r := fun r hr' => ⟨by rw [(hp1 r hr').1]; exact hc,(hp1 r hr').2⟩
  have zw : wid tb ≤ 4 := wid_le fun r hr' => (zL r hr').1
  refine ⟨_,rfl,p,_,rfl,hb3,by decide,by decide,fun u H4 u0 u1 sb4 hb4 => ⟨rfl,_,rfl,?_⟩⟩
  refine ite2 (fun _ => ?_) (fun _ => ?_)
  ·refine ⟨_,rfl,p,_,rfl,hb4,by decide,by decide,fun z H5 z0 z1 sb5 hb5 => ?_⟩
   obtain ⟨z,rfl⟩ : ∃ q : Nat,z = (q : Int) := ⟨z.toNat,by omega⟩
   have tL5 := (tL3.draw sb4).draw sb5
   refine ⟨_,rfl,L,ds,tb,rfl,SqL.of tL5.1,tL5.2.1,fun H6 sm6 => ⟨_,rfl,by omega,by omega,fun M' hM' => ?_⟩⟩
   have hb6 := hb5.same sm6
   refine comp_of (knewB_turn (p := p) (n := wid tb) (Pr := fun ns => ns.length = z ∧ Bnd 7 ns) hb6 (fun j H' R sb hb' hR => ⟨_,rfl,_,rfl,p,z,7,rfl,hb',by omega,by decide,by decide,fun d H7 ns sb7 hb7 hd e7 hl bd => hR d H7 ns sb7 hb7 hd e7 ⟨hl,bd⟩⟩) (by omega) hM' fun H7 ds' tb' sb7 hb7 hM7 hr7 hl7 hp7 hn7 => ?_)
   exact kt p L M' ds ds' tb tb' _ H7 hb7 ((tL5.draw (.of sm6)).draw sb7) ⟨hM7,hr7,box_ne hb6 hM',fun d hd => box_ne hb6 (hn7 d hd).1⟩ (by omega) zL (tab_of (c := z) (by omega) (by omega) fun r hr' => (hp7 r hr').1)
  ·exact kt p L M ds es tb ub _ H4 hb4 (tL3.draw sb4) (tM3.draw sb4) (by omega) zL (tab_of (c := c2) (by omega) hc2 fun r hr' => (hp3 r hr').1)
end
end K20
end
section
namespace K20
open PySem L2
theorem ln1 {α : Type} {us : List α} {p : Str} (h : us.length = [p].length) : ∃ a,us = [a] := by
 rcases us with _ | ⟨a,_ | ⟨b,t⟩⟩
 ·cases h
 ·exact ⟨a,rfl⟩
 ·simp at h
theorem ln2 {α : Type} {us : List α} {p q : Str} (h : us.length = [p,q].length) : ∃ a b,us = [a,b] := by
 rcases us with _ | ⟨a,t⟩
 ·cases h
 ·obtain ⟨b,rfl⟩ := ln1 (p := p) (Nat.succ.inj h)
  exact ⟨a,b,rfl⟩
theorem ln3 {α : Type} {us : List α} {p q r : Str} (h : us.length = [p,q,r].length) : ∃ a b c,us = [a,b,c] := by
 rcases us with _ | ⟨a,t⟩
 ·cases h
 ·obtain ⟨b,c,rfl⟩ := ln2 (p := p) (q := q) (Nat.succ.inj h)
  exact ⟨a,b,c,rfl⟩
theorem all_mk {l : PySem.W.OpenLaw} {w : World} {K : PySem.W.Frag} {h : Heap} {mg : Str → Option Value} {fa f1 f2 f3 f4 f5 f6 f7 f8 f9 f10 f11 f12 f13 f14 f15 f16 f17 f18 f19 f20 f21 f22 f23 f24 f25 f26 f27 f28 fT fS fG fN fW fC fP : Addr} (X : K.In h) (G : h.Ns mainGlobals mg) (hfa : mg "law" = some (.ref fa))
  {od1 an1 od2 an2 od3 an3 od4 an4 od5 an5 od6 an6 od7 an7 od8 an8 od9 an9 od10 an10 od11 an11 od12 an12 od13 an13 od14 an14 od15 an15 od16 an16 od17 an17 od18 an18 od19 an19 od20 an20 od21 an21 od22 an22 od23 an23 od24 an24 od25 an25 od26 an26 od27 an27 od28 an28 : Option Addr} {sl1 sl2 sl3 sl4 sl5 sl6 sl7 sl8 sl9 sl10 sl11 sl12 sl13 sl14 sl15 sl16 sl17 sl18 sl19 sl20 sl21 sl22 sl23 sl24 sl25 sl26 sl27 sl28 : Array (Option Value)} {oc1 kV1 dc1 pm1 cd1 ct1 oc2 kV2 dc2 pm2 cd2 ct2 oc3 kV3 dc3 pm3 cd3 ct3 oc4 kV4 dc4 pm4 cd4 ct4 oc5 kV5 dc5 pm5 cd5 ct5 oc6 kV6 dc6 pm6 cd6 ct6 oc7 kV7 dc7 pm7 cd7 ct7 oc8 kV8 dc8 pm8 cd8 ct8 oc9 kV9 dc9 pm9 cd9 ct9 oc10 kV10 dc10 pm10 cd10 ct10 oc11 kV11 dc11 pm11 cd11 ct11 oc12 kV12 dc12 pm12 cd12 ct12 oc13 kV13 dc13 pm13 cd13 ct13 oc14 kV14 dc14 pm14 cd14 ct14 oc15 kV15 dc15 pm15 cd15 ct15 oc16 kV16 dc16 pm16 cd16 ct16 oc17 kV17 dc17 pm17 cd17 ct17 oc18 kV18 dc18 pm18 cd18 ct18 oc19 kV19 dc19 pm19 cd19 ct19 oc20 kV20 dc20 pm20 cd20 ct20 oc21 kV21 dc21 pm21 cd21 ct21 oc22 kV22 dc22 pm22 cd22 ct22 oc23 kV23 dc23 pm23 cd23 ct23 oc24 kV24 dc24 pm24 cd24 ct24 oc25 kV25 dc25 pm25 cd25 ct25 oc26 kV26 dc26 pm26 cd26 ct26 oc27 kV27 dc27 pm27 cd27 ct27 oc28 kV28 dc28 pm28 cd28 ct28 : Value} {tr tc : Tok}
  (a1 : PySem.W.nsIn K mainGlobals "is_table" = some (some (.ref f1))) (l1 : K.lookup f1 = some ⟨oc1,od1,.func (PySem.W.fnOf "is_table" "is_table" (defArgs sIsTab) (defBody sIsTab) (defScope sIsTab) .none kV1 dc1 pm1 an1 cd1 ct1),sl1⟩) (c1 : PySem.W.codeIn K cd1 "is_table" = true) (k1 : PySem.W.keepIn K (.ref f1) = true)
  (a2 : PySem.W.nsIn K mainGlobals "width_of" = some (some (.ref f2))) (l2 : K.lookup f2 = some ⟨oc2,od2,.func (PySem.W.fnOf "width_of" "width_of" (defArgs sWidth) (defBody sWidth) (defScope sWidth) .none kV2 dc2 pm2 an2 cd2 ct2),sl2⟩) (c2 : PySem.W.codeIn K cd2 "width_of" = true) (k2 : PySem.W.keepIn K (.ref f2) = true)
  (a3 : PySem.W.nsIn K mainGlobals "must_be_table" = some (some (.ref f3))) (l3 : K.lookup f3 = some ⟨oc3,od3,.func (PySem.W.fnOf "must_be_table" "must_be_table" (defArgs sMustT) (defBody sMustT) (defScope sMustT) .none kV3 dc3 pm3 an3 cd3 ct3),sl3⟩) (c3 : PySem.W.codeIn K cd3 "must_be_table" = true) (k3 : PySem.W.keepIn K (.ref f3) = true)
  (a4 : PySem.W.nsIn K mainGlobals "product" = some (some (.ref f4))) (l4 : K.lookup f4 = some ⟨oc4,od4,.func (PySem.W.fnOf "product" "product" (defArgs sProduct) (defBody sProduct) (defScope sProduct) .none kV4 dc4 pm4 an4 cd4 ct4),sl4⟩) (c4 : PySem.W.codeIn K cd4 "product" = true) (k4 : PySem.W.keepIn K (.ref f4) = true)
  (a5 : PySem.W.nsIn K mainGlobals "rows_by" = some (some (.ref f5))) (l5 : K.lookup f5 = some ⟨oc5,od5,.func (PySem.W.fnOf "rows_by" "rows_by" (defArgs sRowsBy) (defBody sRowsBy) (defScope sRowsBy) .none kV5 dc5 pm5 an5 cd5 ct5),sl5⟩) (c5 : PySem.W.codeIn K cd5 "rows_by" = true) (k5 : PySem.W.keepIn K (.ref f5) = true)
  (a6 : PySem.W.nsIn K mainGlobals "row_by" = some (some (.ref f6))) (l6 : K.lookup f6 = some ⟨oc6,od6,.func (PySem.W.fnOf "row_by" "row_by" (defArgs sRowBy) (defBody sRowBy) (defScope sRowBy) .none kV6 dc6 pm6 an6 cd6 ct6),sl6⟩) (c6 : PySem.W.codeIn K cd6 "row_by" = true) (k6 : PySem.W.keepIn K (.ref f6) = true)
  (a7 : PySem.W.nsIn K mainGlobals "sum_by" = some (some (.ref f7))) (l7 : K.lookup f7 = some ⟨oc7,od7,.func (PySem.W.fnOf "sum_by" "sum_by" (defArgs sSumBy) (defBody sSumBy) (defScope sSumBy) .none kV7 dc7 pm7 an7 cd7 ct7),sl7⟩) (c7 : PySem.W.codeIn K cd7 "sum_by" = true) (k7 : PySem.W.keepIn K (.ref f7) = true)
  (a8 : PySem.W.nsIn K mainGlobals "turned_over" = some (some (.ref f8))) (l8 : K.lookup f8 = some ⟨oc8,od8,.func (PySem.W.fnOf "turned_over" "turned_over" (defArgs sTurned) (defBody sTurned) (defScope sTurned) .none kV8 dc8 pm8 an8 cd8 ct8),sl8⟩) (c8 : PySem.W.codeIn K cd8 "turned_over" = true) (k8 : PySem.W.keepIn K (.ref f8) = true)
  (a9 : PySem.W.nsIn K mainGlobals "columns_of" = some (some (.ref f9))) (l9 : K.lookup f9 = some ⟨oc9,od9,.func (PySem.W.fnOf "columns_of" "columns_of" (defArgs sCols) (defBody sCols) (defScope sCols) .none kV9 dc9 pm9 an9 cd9 ct9),sl9⟩) (c9 : PySem.W.codeIn K cd9 "columns_of" = true) (k9 : PySem.W.keepIn K (.ref f9) = true)
  (a10 : PySem.W.nsIn K mainGlobals "columns_to" = some (some (.ref f10))) (l10 : K.lookup f10 = some ⟨oc10,od10,.func (PySem.W.fnOf "columns_to" "columns_to" (defArgs sColsTo) (defBody sColsTo) (defScope sColsTo) .none kV10 dc10 pm10 an10 cd10 ct10),sl10⟩) (c10 : PySem.W.codeIn K cd10 "columns_to" = true) (k10 : PySem.W.keepIn K (.ref f10) = true)
  (a11 : PySem.W.nsIn K mainGlobals "column_of" = some (some (.ref f11))) (l11 : K.lookup f11 = some ⟨oc11,od11,.func (PySem.W.fnOf "column_of" "column_of" (defArgs sCol) (defBody sCol) (defScope sCol) .none kV11 dc11 pm11 an11 cd11 ct11),sl11⟩) (c11 : PySem.W.codeIn K cd11 "column_of" = true) (k11 : PySem.W.keepIn K (.ref f11) = true)
  (a12 : PySem.W.nsIn K mainGlobals "_law_cell_at" = some (some (.ref f12))) (l12 : K.lookup f12 = some ⟨oc12,od12,.func (PySem.W.fnOf "_law_cell_at" "_law_cell_at" (defArgs sCell) (defBody sCell) (defScope sCell) .none kV12 dc12 pm12 an12 cd12 ct12),sl12⟩) (c12 : PySem.W.codeIn K cd12 "_law_cell_at" = true) (k12 : PySem.W.keepIn K (.ref f12) = true)
  (a13 : PySem.W.nsIn K mainGlobals "_law_box" = some (some (.ref f13))) (l13 : K.lookup f13 = some ⟨oc13,od13,.func (PySem.W.fnOf "_law_box" "_law_box" (defArgs sBox) (defBody sBox) (defScope sBox) .none kV13 dc13 pm13 an13 cd13 ct13),sl13⟩) (c13 : PySem.W.codeIn K cd13 "_law_box" = true) (k13 : PySem.W.keepIn K (.ref f13) = true)
  (a14 : PySem.W.nsIn K mainGlobals "_law_take" = some (some (.ref f14))) (l14 : K.lookup f14 = some ⟨oc14,od14,.func (PySem.W.fnOf "_law_take" "_law_take" (defArgs sTake) (defBody sTake) (defScope sTake) .none kV14 dc14 pm14 an14 cd14 ct14),sl14⟩) (c14 : PySem.W.codeIn K cd14 "_law_take" = true) (k14 : PySem.W.keepIn K (.ref f14) = true)
  (a15 : PySem.W.nsIn K mainGlobals "_law_row" = some (some (.ref f15))) (l15 : K.lookup f15 = some ⟨oc15,od15,.func (PySem.W.fnOf "_law_row" "_law_row" (defArgs sRow) (defBody sRow) (defScope sRow) .none kV15 dc15 pm15 an15 cd15 ct15),sl15⟩) (c15 : PySem.W.codeIn K cd15 "_law_row" = true) (k15 : PySem.W.keepIn K (.ref f15) = true)
  (a16 : PySem.W.nsIn K mainGlobals "_law_table" = some (some (.ref f16))) (l16 : K.lookup f16 = some ⟨oc16,od16,.func (PySem.W.fnOf "_law_table" "_law_table" (defArgs sTable) (defBody sTable) (defScope sTable) .none kV16 dc16 pm16 an16 cd16 ct16),sl16⟩) (c16 : PySem.W.codeIn K cd16 "_law_table" = true) (k16 : PySem.W.keepIn K (.ref f16) = true)
  (a17 : PySem.W.nsIn K mainGlobals "_law_wide" = some (some (.ref f17))) (l17 : K.lookup f17 = some ⟨oc17,od17,.func (PySem.W.fnOf "_law_wide" "_law_wide" (defArgs sLWide) (defBody sLWide) (defScope sLWide) .none kV17 dc17 pm17 an17 cd17 ct17),sl17⟩) (c17 : PySem.W.codeIn K cd17 "_law_wide" = true) (k17 : PySem.W.keepIn K (.ref f17) = true)
  (a18 : PySem.W.nsIn K mainGlobals "_law_product" = some (some (.ref f18))) (l18 : K.lookup f18 = some ⟨oc18,od18,.func (PySem.W.fnOf "_law_product" "_law_product" (defArgs sLProd) (defBody sLProd) (defScope sLProd) .none kV18 dc18 pm18 an18 cd18 ct18),sl18⟩) (c18 : PySem.W.codeIn K cd18 "_law_product" = true) (k18 : PySem.W.keepIn K (.ref f18) = true)
  (a19 : PySem.W.nsIn K mainGlobals "_law_over" = some (some (.ref f19))) (l19 : K.lookup f19 = some ⟨oc19,od19,.func (PySem.W.fnOf "_law_over" "_law_over" (defArgs sOver) (defBody sOver) (defScope sOver) .none kV19 dc19 pm19 an19 cd19 ct19),sl19⟩) (c19 : PySem.W.codeIn K cd19 "_law_over" = true) (k19 : PySem.W.keepIn K (.ref f19) = true)
  (a20 : PySem.W.nsIn K mainGlobals "_law_whole" = some (some (.ref f20))) (l20 : K.lookup f20 = some ⟨oc20,od20,.func (PySem.W.fnOf "_law_whole" "_law_whole" (defArgs sLWhole) (defBody sLWhole) (defScope sLWhole) .none kV20 dc20 pm20 an20 cd20 ct20),sl20⟩) (c20 : PySem.W.codeIn K cd20 "_law_whole" = true) (k20 : PySem.W.keepIn K (.ref f20) = true)
  (a21 : PySem.W.nsIn K mainGlobals "_law_row_like" = some (some (.ref f21))) (l21 : K.lookup f21 = some ⟨oc21,od21,.func (PySem.W.fnOf "_law_row_like" "_law_row_like" (defArgs sRowLike) (defBody sRowLike) (defScope sRowLike) .none kV21 dc21 pm21 an21 cd21 ct21),sl21⟩) (c21 : PySem.W.codeIn K cd21 "_law_row_like" = true) (k21 : PySem.W.keepIn K (.ref f21) = true)
  (a22 : PySem.W.nsIn K mainGlobals "_law_table_like" = some (some (.ref f22))) (l22 : K.lookup f22 = some ⟨oc22,od22,.func (PySem.W.fnOf "_law_table_like" "_law_table_like" (defArgs sTabLike) (defBody sTabLike) (defScope sTabLike) .none kV22 dc22 pm22 an22 cd22 ct22),sl22⟩) (c22 : PySem.W.codeIn K cd22 "_law_table_like" = true) (k22 : PySem.W.keepIn K (.ref f22) = true)
  (a23 : PySem.W.nsIn K mainGlobals "_law_which" = some (some (.ref f23))) (l23 : K.lookup f23 = some ⟨oc23,od23,.func (PySem.W.fnOf "_law_which" "_law_which" (defArgs sWhich) (defBody sWhich) (defScope sWhich) .none kV23 dc23 pm23 an23 cd23 ct23),sl23⟩) (c23 : PySem.W.codeIn K cd23 "_law_which" = true) (k23 : PySem.W.keepIn K (.ref f23) = true)
  (a24 : PySem.W.nsIn K mainGlobals "_law_hurt" = some (some (.ref f24))) (l24 : K.lookup f24 = some ⟨oc24,od24,.func (PySem.W.fnOf "_law_hurt" "_law_hurt" (defArgs sHurt) (defBody sHurt) (defScope sHurt) .none kV24 dc24 pm24 an24 cd24 ct24),sl24⟩) (c24 : PySem.W.codeIn K cd24 "_law_hurt" = true) (k24 : PySem.W.keepIn K (.ref f24) = true)
  (a25 : PySem.W.nsIn K mainGlobals "_law_good" = some (some (.ref f25))) (l25 : K.lookup f25 = some ⟨oc25,od25,.func (PySem.W.fnOf "_law_good" "_law_good" (defArgs sLGood) (defBody sLGood) (defScope sLGood) .none kV25 dc25 pm25 an25 cd25 ct25),sl25⟩) (c25 : PySem.W.codeIn K cd25 "_law_good" = true) (k25 : PySem.W.keepIn K (.ref f25) = true)
  (a26 : PySem.W.nsIn K mainGlobals "_law_asked" = some (some (.ref f26))) (l26 : K.lookup f26 = some ⟨oc26,od26,.func (PySem.W.fnOf "_law_asked" "_law_asked" (defArgs sAsked) (defBody sAsked) (defScope sAsked) .none kV26 dc26 pm26 an26 cd26 ct26),sl26⟩) (c26 : PySem.W.codeIn K cd26 "_law_asked" = true) (k26 : PySem.W.keepIn K (.ref f26) = true)
  (a27 : PySem.W.nsIn K mainGlobals "_law_told_again" = some (some (.ref f27))) (l27 : K.lookup f27 = some ⟨oc27,od27,.func (PySem.W.fnOf "_law_told_again" "_law_told_again" (defArgs sTold) (defBody sTold) (defScope sTold) .none kV27 dc27 pm27 an27 cd27 ct27),sl27⟩) (c27 : PySem.W.codeIn K cd27 "_law_told_again" = true) (k27 : PySem.W.keepIn K (.ref f27) = true)
  (a28 : PySem.W.nsIn K mainGlobals "law" = some (some (.ref f28))) (l28 : K.lookup f28 = some ⟨oc28,od28,.func (PySem.W.fnOf "law" "law" (defArgs sLaw) (defBody sLaw) (defScope sLaw) .none kV28 dc28 pm28 an28 cd28 ct28),sl28⟩) (c28 : PySem.W.codeIn K cd28 "law" = true) (k28 : PySem.W.keepIn K (.ref f28) = true)
  (gr : PySem.W.nsIn K mainGlobals "MOST_ROWS" = some (some (.int 40 tr)))
  (gc : PySem.W.nsIn K mainGlobals "MOST_COLUMNS" = some (some (.int 40 tc)))
  (vfT : PySem.W.nsIn K mainGlobals "NoTable" = some (some (.ref fT)))
  (vfS : PySem.W.nsIn K mainGlobals "SeamError" = some (some (.ref fS)))
  (vfG : PySem.W.nsIn K mainGlobals "NoGoal" = some (some (.ref fG)))
  (vfN : PySem.W.nsIn K mainGlobals "NoNumber" = some (some (.ref fN)))
  (vfW : PySem.W.nsIn K mainGlobals "NoWeb" = some (some (.ref fW)))
  (vfC : PySem.W.nsIn K mainGlobals "NoChain" = some (some (.ref fC)))
  (vfP : PySem.W.nsIn K mainGlobals "NoPiece" = some (some (.ref fP)))
  (qfT : PySem.W.excIn K fT bmV "ValueError.__new__" = true)
  (qfS : PySem.W.excIn K fS bmV "ValueError.__new__" = true)
  (ufT : PySem.W.mroIn K fT (.ref fS) = some true)
  (x1 : PySem.W.findIn K (.ref fT) "__getattribute__" = some (some (.builtin "BaseException.__getattribute__")))
  (x2 : PySem.W.findIn K (.ref fT) "__getattr__" = some none)
  (x3 : PySem.W.findIn K (.ref fT) "__class__" = some (some (.builtin "object.__class__")))
  (x4 : PySem.W.specialIn K (.builtin "object.__class__") "__get__" = some (some (.builtin "getset_descriptor.__get__")))
  (x5 : PySem.W.takesIn K (.builtin "object.__class__") = some true)
  (x6 : PySem.W.mroIn K fT (.type "object") = some true)
  (x7 : PySem.W.mroIn K fT (.type "BaseException") = some true)
  (yfT : PySem.W.kitOne K (.ref fT) (.ref fT) = some true)
  (yfG : PySem.W.kitOne K (.ref fT) (.ref fG) = some false)
  (yfN : PySem.W.kitOne K (.ref fT) (.ref fN) = some false)
  (yfW : PySem.W.kitOne K (.ref fT) (.ref fW) = some false)
  (yfC : PySem.W.kitOne K (.ref fT) (.ref fC) = some false)
  (yfP : PySem.W.kitOne K (.ref fT) (.ref fP) = some false)
  (yV : PySem.W.kitOne K (.ref fT) (.type "ValueError") = some true)
  (z1 : PySem.W.nsIn K mainGlobals "len" = some none)
  (z2 : PySem.W.nsIn K mainGlobals "all" = some none)
  (z3 : PySem.W.nsIn K mainGlobals "zip" = some none)
  (z4 : PySem.W.nsIn K mainGlobals "sum" = some none)
  (z5 : PySem.W.nsIn K mainGlobals "range" = some none)
  (z6 : PySem.W.nsIn K mainGlobals "list" = some none)
  (z7 : PySem.W.nsIn K mainGlobals "int" = some none)
  (z8 : PySem.W.nsIn K mainGlobals "bool" = some none)
  (z9 : PySem.W.nsIn K mainGlobals "isinstance" = some none)
  (z10 : PySem.W.nsIn K mainGlobals "max" = some none)
  (z11 : PySem.W.nsIn K mainGlobals "ValueError" = some none) :
  ∃ fd : FuncData,(∀ (s : Shared) (v : Value),BindsTo s fd ⟨[v],[]⟩ [("script",v)]) ∧ ∀ base : Heap,K.In base → base.Ns mainGlobals mg → FnOk l.prog w K mg base CX0 7 fa fd ["script"] (spLaw K) := by
 have e := hfa.symm.trans (PySem.W.mg_of X G a28)
 cases e
 have B : Bt mg := ⟨PySem.W.mg_none_of X G z1,PySem.W.mg_none_of X G z2,PySem.W.mg_none_of X G z3,PySem.W.mg_none_of X G z4,PySem.W.mg_none_of X G z5,PySem.W.mg_none_of X G z6,PySem.W.mg_none_of X G z7,PySem.W.mg_none_of X G z8,PySem.W.mg_none_of X G z9,PySem.W.mg_none_of X G z10⟩
 have F1 := fun_mk (st := sIsTab) l1 c1 k1
 have b1 := F1.binds (ps := ["table"]) fun _ _ _ _ _ _ us hl => by obtain ⟨_,rfl⟩ := ln1 hl; rfl
 have m1 := PySem.W.mg_of X G a1
 have F2 := fun_mk (st := sWidth) l2 c2 k2
 have b2 := F2.binds (ps := ["table"]) fun _ _ _ _ _ _ us hl => by obtain ⟨_,rfl⟩ := ln1 hl; rfl
 have m2 := PySem.W.mg_of X G a2
 have F3 := fun_mk (st := sMustT) l3 c3 k3
 have b3 := F3.binds (ps := ["table"]) fun _ _ _ _ _ _ us hl => by obtain ⟨_,rfl⟩ := ln1 hl; rfl
 have m3 := PySem.W.mg_of X G a3
 have F4 := fun_mk (st := sProduct) l4 c4 k4
 have b4 := F4.binds (ps := ["one","other"]) fun _ _ _ _ _ _ us hl => by obtain ⟨_,_,rfl⟩ := ln2 hl; rfl
 have m4 := PySem.W.mg_of X G a4
 have F5 := fun_mk (st := sRowsBy) l5 c5 k5
 have b5 := F5.binds (ps := ["table","columns"]) fun _ _ _ _ _ _ us hl => by obtain ⟨_,_,rfl⟩ := ln2 hl; rfl
 have m5 := PySem.W.mg_of X G a5
 have F6 := fun_mk (st := sRowBy) l6 c6 k6
 have b6 := F6.binds (ps := ["row","columns"]) fun _ _ _ _ _ _ us hl => by obtain ⟨_,_,rfl⟩ := ln2 hl; rfl
 have m6 := PySem.W.mg_of X G a6
 have F7 := fun_mk (st := sSumBy) l7 c7 k7
 have b7 := F7.binds (ps := ["row","column"]) fun _ _ _ _ _ _ us hl => by obtain ⟨_,_,rfl⟩ := ln2 hl; rfl
 have m7 := PySem.W.mg_of X G a7
 have F8 := fun_mk (st := sTurned) l8 c8 k8
 have b8 := F8.binds (ps := ["table"]) fun _ _ _ _ _ _ us hl => by obtain ⟨_,rfl⟩ := ln1 hl; rfl
 have m8 := PySem.W.mg_of X G a8
 have F9 := fun_mk (st := sCols) l9 c9 k9
 have b9 := F9.binds (ps := ["table"]) fun _ _ _ _ _ _ us hl => by obtain ⟨_,rfl⟩ := ln1 hl; rfl
 have m9 := PySem.W.mg_of X G a9
 have F10 := fun_mk (st := sColsTo) l10 c10 k10
 have b10 := F10.binds (ps := ["table","width"]) fun _ _ _ _ _ _ us hl => by obtain ⟨_,_,rfl⟩ := ln2 hl; rfl
 have m10 := PySem.W.mg_of X G a10
 have F11 := fun_mk (st := sCol) l11 c11 k11
 have b11 := F11.binds (ps := ["table","k"]) fun _ _ _ _ _ _ us hl => by obtain ⟨_,_,rfl⟩ := ln2 hl; rfl
 have m11 := PySem.W.mg_of X G a11
 have F12 := fun_mk (st := sCell) l12 c12 k12
 have b12 := F12.binds (ps := ["script","k"]) fun _ _ _ _ _ _ us hl => by obtain ⟨_,_,rfl⟩ := ln2 hl; rfl
 have m12 := PySem.W.mg_of X G a12
 have F13 := fun_mk (st := sBox) l13 c13 k13
 have b13 := F13.binds (ps := ["cell"]) fun _ _ _ _ _ _ us hl => by obtain ⟨_,rfl⟩ := ln1 hl; rfl
 have m13 := PySem.W.mg_of X G a13
 have F14 := fun_mk (st := sTake) l14 c14 k14
 have b14 := F14.binds (ps := ["box","most"]) fun _ _ _ _ _ _ us hl => by obtain ⟨_,_,rfl⟩ := ln2 hl; rfl
 have m14 := PySem.W.mg_of X G a14
 have F15 := fun_mk (st := sRow) l15 c15 k15
 have b15 := F15.binds (ps := ["box","columns","wide"]) fun _ _ _ _ _ _ us hl => by obtain ⟨_,_,_,rfl⟩ := ln3 hl; rfl
 have m15 := PySem.W.mg_of X G a15
 have F16 := fun_mk (st := sTable) l16 c16 k16
 have b16 := F16.binds (ps := ["box","most"]) fun _ _ _ _ _ _ us hl => by obtain ⟨_,_,rfl⟩ := ln2 hl; rfl
 have m16 := PySem.W.mg_of X G a16
 have F17 := fun_mk (st := sLWide) l17 c17 k17
 have b17 := F17.binds (ps := ["table"]) fun _ _ _ _ _ _ us hl => by obtain ⟨_,rfl⟩ := ln1 hl; rfl
 have m17 := PySem.W.mg_of X G a17
 have F18 := fun_mk (st := sLProd) l18 c18 k18
 have b18 := F18.binds (ps := ["one","other"]) fun _ _ _ _ _ _ us hl => by obtain ⟨_,_,rfl⟩ := ln2 hl; rfl
 have m18 := PySem.W.mg_of X G a18
 have F19 := fun_mk (st := sOver) l19 c19 k19
 have b19 := F19.binds (ps := ["table"]) fun _ _ _ _ _ _ us hl => by obtain ⟨_,rfl⟩ := ln1 hl; rfl
 have m19 := PySem.W.mg_of X G a19
 have F20 := fun_mk (st := sLWhole) l20 c20 k20
 have b20 := F20.binds (ps := ["found"]) fun _ _ _ _ _ _ us hl => by obtain ⟨_,rfl⟩ := ln1 hl; rfl
 have m20 := PySem.W.mg_of X G a20
 have F21 := fun_mk (st := sRowLike) l21 c21 k21
 have b21 := F21.binds (ps := ["found"]) fun _ _ _ _ _ _ us hl => by obtain ⟨_,rfl⟩ := ln1 hl; rfl
 have m21 := PySem.W.mg_of X G a21
 have F22 := fun_mk (st := sTabLike) l22 c22 k22
 have b22 := F22.binds (ps := ["found"]) fun _ _ _ _ _ _ us hl => by obtain ⟨_,rfl⟩ := ln1 hl; rfl
 have m22 := PySem.W.mg_of X G a22
 have F23 := fun_mk (st := sWhich) l23 c23 k23
 have b23 := F23.binds (ps := ["e"]) fun _ _ _ _ _ _ us hl => by obtain ⟨_,rfl⟩ := ln1 hl; rfl
 have m23 := PySem.W.mg_of X G a23
 have F24 := fun_mk (st := sHurt) l24 c24 k24
 have b24 := F24.binds (ps := ["box","table"]) fun _ _ _ _ _ _ us hl => by obtain ⟨_,_,rfl⟩ := ln2 hl; rfl
 have m24 := PySem.W.mg_of X G a24
 have F25 := fun_mk (st := sLGood) l25 c25 k25
 have b25 := F25.binds (ps := ["table"]) fun _ _ _ _ _ _ us hl => by obtain ⟨_,rfl⟩ := ln1 hl; rfl
 have m25 := PySem.W.mg_of X G a25
 have F26 := fun_mk (st := sAsked) l26 c26 k26
 have b26 := F26.binds (ps := ["way","one","other"]) fun _ _ _ _ _ _ us hl => by obtain ⟨_,_,_,rfl⟩ := ln3 hl; rfl
 have m26 := PySem.W.mg_of X G a26
 have F27 := fun_mk (st := sTold) l27 c27 k27
 have b27 := F27.binds (ps := ["way","one","other","due"]) fun _ _ _ _ _ _ us hl => match us,hl with | [_,_,_,_],_ => rfl
 have m27 := PySem.W.mg_of X G a27
 have F28 := fun_mk (st := sLaw) l28 c28 k28
 have m28 := PySem.W.mg_of X G a28
 have nr := PySem.W.mg_of X G gr
 have nc := PySem.W.mg_of X G gc
 refine ⟨PySem.W.fnOf "law" "law" (defArgs sLaw) (defBody sLaw) (defScope sLaw) .none kV28 dc28 pm28 an28 cd28 ct28,fun s v => .of_eq rfl,fun base _ _ => ?_⟩
 have mT := PySem.W.mg_of X G vfT
 have mS := PySem.W.mg_of X G vfS
 have mG := PySem.W.mg_of X G vfG
 have mN := PySem.W.mg_of X G vfN
 have mW := PySem.W.mg_of X G vfW
 have mC := PySem.W.mg_of X G vfC
 have mP := PySem.W.mg_of X G vfP
 have bv := PySem.W.mg_none_of X G z11
 have xc : XCls K fT := ⟨x1,x2,cls_of_exc qfT,x3,x4,x5,x6,x7⟩
 have hS : SubX K fT fS := subx_of qfT qfS ufT
 have Gi := ok_isTab (P := l.prog) (w := w) (base := base) F1 B.len B.all nr nc F2 b2 m2
 have Gm := ok_mustT F3 mT qfT F1 b1 m1 Gi
 have Gct := ok_colsTo (P := l.prog) (w := w) (base := base) F10 B.range F11 b11 m11
 have Gc := ok_cols F9 B.len F10 b10 m10 Gct F2 b2 m2
 have Gtu := ok_turned F8 F3 b3 m3 Gm F9 b9 m9 Gc
 have Gsb := ok_sumBy (P := l.prog) (w := w) (base := base) F7 B.zip B.sum
 have Grb := ok_rowBy F6 F7 b7 m7 Gsb
 have Gro := ok_rowsBy F5 F6 b6 m6 Grb
 have Gpr := ok_product F4 B.len mT qfT F3 b3 m3 Gm F9 b9 m9 Gc F2 b2 m2 F5 b5 m5 Gro
 have Gwh := ok_which (P := l.prog) (w := w) (base := base) F23 B.isinstance bv mT mG mN mW mC mP xc yfT yfG yfN yfW yfC yfP yV
 have Ga := ok_asked F26 mS hS F4 b4 m4 Gpr F8 b8 m8 Gtu F23 b23 m23 Gwh
 have Gr := ok_row (P := l.prog) (w := w) (base := base) F15 B F14 b14 m14
 have Gtb := ok_table (P := l.prog) (w := w) (base := base) F16 B F14 b14 m14 F15 b15 m15
 have Gh := ok_hurt (P := l.prog) (w := w) (base := base) F24 B F14 b14 m14
 have Gg := ok_lgood (P := l.prog) (w := w) (base := base) F25 B F17 b17 m17
 have Go := ok_over (P := l.prog) (w := w) (base := base) F19 B F17 b17 m17
 have Gp := ok_lprod (P := l.prog) (w := w) (base := base) F18 B F17 b17 m17
 have Gtl := ok_tabLike (P := l.prog) (w := w) (base := base) F22 B F21 b21 m21 F20 b20 m20
 have Gx := ok_told F27 B F26 b26 m26 Ga F22 b22 m22 Gtl
 exact ok_law F28 B F12 b12 m12 F13 b13 m13 F14 b14 m14 F15 b15 m15 Gr F16 b16 m16 Gtb F24 b24 m24 Gh F17 b17 m17 F25 b25 m25 Gg F1 b1 m1 Gi F26 b26 m26 Ga F19 b19 m19 Go F18 b18 m18 Gp F27 b27 m27 Gx
theorem walk {l : PySem.W.OpenLaw} {q : Program} {loose : List Str} {XP : (Str → Option Value) → Heap → Prop} {YP : World → Heap → Prop} {d : DefRec} {K : Params → PySem.W.Frag} (hn : l.most = some 63) (hdf : d.params.defaults = [])
  (hY : ∀ (w : World) (h : Heap),YP w h → (K w.params).In h)
  (F : ∀ (w : World) (mg : Str → Option Value) (fa : Addr) (h : Heap),(K w.params).In h → h.Ns mainGlobals mg → mg d.name = some (.ref fa) →
   ∃ fd : FuncData,(∀ (s : Shared) (u : Value),BindsTo s fd ⟨[u],[]⟩ [("script",u)]) ∧ ∀ base : Heap,(K w.params).In base → base.Ns mainGlobals mg → FnOk l.prog w (K w.params) mg base CX0 7 fa fd ["script"] (spLaw (K w.params))) :
  PySem.W.WalkO q loose XP YP l.row.toRowW d [] (fun f vs => PySem.call f vs) :=
 L2.walk_of (n := 63) (k := 7) (x := "script") (CX := fun _ => CX0) (sp := fun w => spLaw (K w.params)) hn (by decide) hdf ⟨rfl,by decide,by decide⟩ hY F (fun _ _ a ns hl _ hS => ⟨a,ns,rfl,hS,hl,fun _ => rfl⟩) fun _ _ _ _ _ z => z
end K20
open PySem PySem.W PyProof.Rows
set_option maxRecDepth 100000 in
set_option maxHeartbeats 0 in
theorem PySem.Challenge.cw_seamwright_k20_tables_put_together_holds : PySem.Challenge.rw_seamwright_k20_tables_put_together.Holds := by
 w_on; o_law; k_head; (case hw => w_witness2)
 k_fill
 refine K20.walk (l := PySem.Challenge.rw_seamwright_k20_tables_put_together) rfl rfl (fun w h Y => PySem.W.kIn_of Y) ?F
 case F =>
  intro w mg fa h KX G hmg
  refine' K20.all_mk KX G hmg ?a1 ?l1 ?c1 ?k1 ?a2 ?l2 ?c2 ?k2 ?a3 ?l3 ?c3 ?k3 ?a4 ?l4 ?c4 ?k4 ?a5 ?l5 ?c5 ?k5 ?a6 ?l6 ?c6 ?k6 ?a7 ?l7 ?c7 ?k7 ?a8 ?l8 ?c8 ?k8 ?a9 ?l9 ?c9 ?k9 ?a10 ?l10 ?c10 ?k10 ?a11 ?l11 ?c11 ?k11 ?a12 ?l12 ?c12 ?k12 ?a13 ?l13 ?c13 ?k13 ?a14 ?l14 ?c14 ?k14 ?a15 ?l15 ?c15 ?k15 ?a16 ?l16 ?c16 ?k16 ?a17 ?l17 ?c17 ?k17 ?a18 ?l18 ?c18 ?k18 ?a19 ?l19 ?c19 ?k19 ?a20 ?l20 ?c20 ?k20 ?a21 ?l21 ?c21 ?k21 ?a22 ?l22 ?c22 ?k22 ?a23 ?l23 ?c23 ?k23 ?a24 ?l24 ?c24 ?k24 ?a25 ?l25 ?c25 ?k25 ?a26 ?l26 ?c26 ?k26 ?a27 ?l27 ?c27 ?k27 ?a28 ?l28 ?c28 ?k28 ?gr ?gc ?vfT ?vfS ?vfG ?vfN ?vfW ?vfC ?vfP ?qfT ?qfS ?ufT ?x1 ?x2 ?x3 ?x4 ?x5 ?x6 ?x7 ?yfT ?yfG ?yfN ?yfW ?yfC ?yfP ?yV ?z1 ?z2 ?z3 ?z4 ?z5 ?z6 ?z7 ?z8 ?z9 ?z10 ?z11
  (case a1 => k_is); (case l1 => k_is); (case c1 => k_is); (case k1 => k_is); (case a2 => k_is); (case l2 => k_is)
  (case c2 => k_is); (case k2 => k_is); (case a3 => k_is); (case l3 => k_is); (case c3 => k_is); (case k3 => k_is)
  (case a4 => k_is); (case l4 => k_is); (case c4 => k_is); (case k4 => k_is); (case a5 => k_is); (case l5 => k_is)
  (case c5 => k_is); (case k5 => k_is); (case a6 => k_is); (case l6 => k_is); (case c6 => k_is); (case k6 => k_is)
  (case a7 => k_is); (case l7 => k_is); (case c7 => k_is); (case k7 => k_is); (case a8 => k_is); (case l8 => k_is)
  (case c8 => k_is); (case k8 => k_is); (case a9 => k_is); (case l9 => k_is); (case c9 => k_is); (case k9 => k_is)
  (case a10 => k_is); (case l10 => k_is); (case c10 => k_is); (case k10 => k_is); (case a11 => k_is); (case l11 => k_is)
  (case c11 => k_is); (case k11 => k_is); (case a12 => k_is); (case l12 => k_is); (case c12 => k_is); (case k12 => k_is)
  (case a13 => k_is); (case l13 => k_is); (case c13 => k_is); (case k13 => k_is); (case a14 => k_is); (case l14 => k_is)
  (case c14 => k_is); (case k14 => k_is); (case a15 => k_is); (case l15 => k_is); (case c15 => k_is); (case k15 => k_is)
  (case a16 => k_is); (case l16 => k_is); (case c16 => k_is); (case k16 => k_is); (case a17 => k_is); (case l17 => k_is)
  (case c17 => k_is); (case k17 => k_is); (case a18 => k_is); (case l18 => k_is); (case c18 => k_is); (case k18 => k_is)
  (case a19 => k_is); (case l19 => k_is); (case c19 => k_is); (case k19 => k_is); (case a20 => k_is); (case l20 => k_is)
  (case c20 => k_is); (case k20 => k_is); (case a21 => k_is); (case l21 => k_is); (case c21 => k_is); (case k21 => k_is)
  (case a22 => k_is); (case l22 => k_is); (case c22 => k_is); (case k22 => k_is); (case a23 => k_is); (case l23 => k_is)
  (case c23 => k_is); (case k23 => k_is); (case a24 => k_is); (case l24 => k_is); (case c24 => k_is); (case k24 => k_is)
  (case a25 => k_is); (case l25 => k_is); (case c25 => k_is); (case k25 => k_is); (case a26 => k_is); (case l26 => k_is)
  (case c26 => k_is); (case k26 => k_is); (case a27 => k_is); (case l27 => k_is); (case c27 => k_is); (case k27 => k_is)
  (case a28 => k_is); (case l28 => k_is); (case c28 => k_is); (case k28 => k_is); (case gr => k_is); (case gc => k_is)
  (case vfT => k_is); (case vfS => k_is); (case vfG => k_is); (case vfN => k_is); (case vfW => k_is); (case vfC => k_is)
  (case vfP => k_is); (case qfT => k_exc); (case qfS => k_exc); (case ufT => k_is); (case x1 => k_is); (case x2 => k_is)
  (case x3 => k_is); (case x4 => k_is); (case x5 => k_is); (case x6 => k_is); (case x7 => k_is); (case yfT => kit_is)
  (case yfG => kit_is); (case yfN => kit_is); (case yfW => kit_is); (case yfC => kit_is); (case yfP => kit_is); (case yV => kit_is)
  (case z1 => k_is); (case z2 => k_is); (case z3 => k_is); (case z4 => k_is); (case z5 => k_is); (case z6 => k_is)
  (case z7 => k_is); (case z8 => k_is); (case z9 => k_is); (case z10 => k_is); (case z11 => k_is)
#print axioms PySem.Challenge.cw_seamwright_k20_tables_put_together_holds
end
